/- The law SyntaxTells, walked. -/
import Derived.Test.YtinkgidncdjapacAwk06
namespace Go.Proofs.Ytinkgidncdjapac
set_option linter.unusedVariables false
open Go.RowKit Go.Sort

set_option maxRecDepth 1000000 in
set_option maxHeartbeats 12800000 in
theorem tells_walk (A B : Ex) (ko lo : Option Addr) (kc lc n1 n2 : Nat) (s : ByteArray) (w : World) (hm : Mx w) (hA : HasK w n1 ko A.kids) (hB : HasK w n2 lo B.kids) :
    Calls Try.prog 3 #[exv A ko kc, exv B lo lc, .string s] w fun e w' => e = .returned (.bool true) ∧ Below w.heap.size w w' := by
  have HM := Lib.hid hm
  have HKA := Lib.hid hA
  have HKB := Lib.hid hB
  clear hm hA hB
  have hb0 : Below w.heap.size w ((w.alloc (.cells #[.int .i64 A.op, .string A.text, .int .u64 A.s0, .int .u64 A.s1, .int .u64 A.s2, .int .u64 A.s3, .slice ko A.kids.length kc] 27)).alloc (.cells #[.int .i64 B.op, .string B.text, .int .u64 B.s0, .int .u64 B.s1, .int .u64 B.s2, .int .u64 B.s3, .slice lo B.kids.length lc] 27)) := ((Below.refl _ _).alloc (Nat.le_refl _) _).alloc (by simp) _
  have h3 : Own ((w.alloc (.cells #[.int .i64 A.op, .string A.text, .int .u64 A.s0, .int .u64 A.s1, .int .u64 A.s2, .int .u64 A.s3, .slice ko A.kids.length kc] 27)).alloc (.cells #[.int .i64 B.op, .string B.text, .int .u64 B.s0, .int .u64 B.s1, .int .u64 B.s2, .int .u64 B.s3, .slice lo B.kids.length lc] 27)) w.heap.size 27 [.int .i64 A.op, .string A.text, .int .u64 A.s0, .int .u64 A.s1, .int .u64 A.s2, .int .u64 A.s3, .slice ko A.kids.length kc] := (Own.fresh w 27 [.int .i64 A.op, .string A.text, .int .u64 A.s0, .int .u64 A.s1, .int .u64 A.s2, .int .u64 A.s3, .slice ko A.kids.length kc]).on_alloc _
  have h4 : Own ((w.alloc (.cells #[.int .i64 A.op, .string A.text, .int .u64 A.s0, .int .u64 A.s1, .int .u64 A.s2, .int .u64 A.s3, .slice ko A.kids.length kc] 27)).alloc (.cells #[.int .i64 B.op, .string B.text, .int .u64 B.s0, .int .u64 B.s1, .int .u64 B.s2, .int .u64 B.s3, .slice lo B.kids.length lc] 27)) (w.heap.size + 1) 27 [.int .i64 B.op, .string B.text, .int .u64 B.s0, .int .u64 B.s1, .int .u64 B.s2, .int .u64 B.s3, .slice lo B.kids.length lc] := Own.fresh' (w := w.alloc (.cells #[.int .i64 A.op, .string A.text, .int .u64 A.s0, .int .u64 A.s1, .int .u64 A.s2, .int .u64 A.s3, .slice ko A.kids.length kc] 27)) (by simp) 27 [.int .i64 B.op, .string B.text, .int .u64 B.s0, .int .u64 B.s1, .int .u64 B.s2, .int .u64 B.s3, .slice lo B.kids.length lc]
  obtain ⟨ga, hga⟩ : ∃ ga, grt 17 A = ga := ⟨_, rfl⟩
  obtain ⟨gb, hgb⟩ : ∃ gb, grt 17 B = gb := ⟨_, rfl⟩
  have HGA := Lib.hid hga
  have HGB := Lib.hid hgb
  clear hga hgb
  unfold exv
  go_enter Try.func3, Try.ntmps3
  go_wp2_with fail
  generalize (w.alloc (.cells #[.int .i64 A.op, .string A.text, .int .u64 A.s0, .int .u64 A.s1, .int .u64 A.s2, .int .u64 A.s3, .slice ko A.kids.length kc] 27)).alloc (.cells #[.int .i64 B.op, .string B.text, .int .u64 B.s0, .int .u64 B.s1, .int .u64 B.s2, .int .u64 B.s3, .slice lo B.kids.length lc] 27) = w1 at *
  have HB1 := Lib.hid hb0
  have H31 := Lib.hid h3
  have H41 := Lib.hid h4
  clear hb0 h3 h4
  refine (great_any 17 0 ⟨by omega, by omega⟩ n1 A ko kc _ (HasK.below HB1.out HKA.out)).mono ?_
  rintro e w2 ⟨rfl, hb2⟩
  rw [HGA.out]
  have HB2 := Lib.hid (keepb HB1.out hb2)
  have H32 := Lib.hid (own_move H31.out hb2)
  have H42 := Lib.hid (own_move H41.out hb2)
  clear hb2 HB1 H31 H41
  cases ga
  · obtain ⟨b0, b1, b2, b3, b4, b5, b6⟩ := H42.out.seven
    go_wp2_with fail
    refine (great_any 17 0 ⟨by omega, by omega⟩ n2 B lo lc _ (HasK.below HB2.out HKB.out)).mono ?_
    rintro e w3 ⟨rfl, hb3⟩
    rw [HGB.out]
    have HB3 := Lib.hid (keepb HB2.out hb3)
    have H33 := Lib.hid (own_move H32.out hb3)
    have H43 := Lib.hid (own_move H42.out hb3)
    clear hb3 HB2 H32 H42 b0 b1 b2 b3 b4 b5 b6
    cases gb
    · by_cases hs : (s.size : Int) ≤ 100
      · have S1 := Lib.hid (show s.size ≤ 1000000 by omega)
        have S2 := Lib.hid (show s.size ≤ maxLen by unfold maxLen; omega)
        go_wp2_with fail
        refine (split_any s S1.out _ (HM.out.below HB3.out)).mono ?_
        rintro e w4 ⟨rfl, hb4⟩
        have HB4 := Lib.hid (keepb HB3.out hb4)
        have H34 := Lib.hid (own_move H33.out hb4)
        have H44 := Lib.hid (own_move H43.out hb4)
        clear hb4 HB3 H33 H43
        go_wp2_with fail
        refine (rsplit_any s S1.out _).mono ?_
        rintro e w5 ⟨rfl, hb5⟩
        have HB5 := Lib.hid (keepb HB4.out hb5)
        have H35 := Lib.hid (own_move H34.out hb5)
        have H45 := Lib.hid (own_move H44.out hb5)
        clear hb5 HB4 H34 H44
        go_wp2_with fail
        generalize splitM s = sm
        generalize splitR s = sr
        generalize splitB s = sb
        have KA := Lib.hid (HasK.cut HGA.out (HasK.below HB5.out HKA.out))
        have KB := Lib.hid (HasK.cut HGB.out (HasK.below HB5.out HKB.out))
        have MX := Lib.hid (HM.out.below HB5.out)
        obtain ⟨vd, hvd⟩ : ∃ v, deepX 17 A = v := ⟨_, rfl⟩
        obtain ⟨vs, hvs⟩ : ∃ v, sizeX 17 A = v := ⟨_, rfl⟩
        obtain ⟨vr, hvr⟩ : ∃ v, rightX 17 A = v := ⟨_, rfl⟩
        obtain ⟨ve, hve⟩ : ∃ v, sameX 17 A B = v := ⟨_, rfl⟩
        obtain ⟨vw, hvw⟩ : ∃ v, wordB s = v := ⟨_, rfl⟩
        have CW := Lib.hid (fun (dq : Nat) (os : Array Obj) => show Calls Try.prog 7 #[] (grow (redrawn w5 dq) os) fun e w' => e = .returned (.bool true) ∧ Below (grow (redrawn w5 dq) os).heap.size (grow (redrawn w5 dq) os) w' from by exact awake_any _ (MX.out.below (below_regrown w5 dq os)))
        have C1 := Lib.hid (fun (dq : Nat) (os : Array Obj) => show Calls Try.prog 10 #[.string s] (grow (redrawn w5 dq) os) fun e w' => e = .returned (.bool vw) ∧ Below (grow (redrawn w5 dq) os).heap.size (grow (redrawn w5 dq) os) w' from by refine (word_is s S2.out vw hvw _).mono ?_; rintro e w' ⟨rfl, rfl⟩; exact ⟨rfl, Below.refl _ _⟩)
        have C2 := Lib.hid (fun (dq : Nat) (os : Array Obj) => show Calls Try.prog 11 #[.string s] (grow (redrawn w5 dq) os) fun e w' => e = .returned (.bool vw) ∧ Below (grow (redrawn w5 dq) os).heap.size (grow (redrawn w5 dq) os) w' from by refine (rword_is s S2.out vw hvw _).mono ?_; rintro e w' ⟨rfl, rfl⟩; exact ⟨rfl, Below.refl _ _⟩)
        have C3 := Lib.hid (fun (dq : Nat) (os : Array Obj) => show Calls Try.prog 12 #[.agg #[.int .i64 A.op, .string A.text, .int .u64 A.s0, .int .u64 A.s1, .int .u64 A.s2, .int .u64 A.s3, .slice ko A.kids.length kc]] (grow (redrawn w5 dq) os) fun e w' => e = .returned (.int .i64 vd) ∧ Below (grow (redrawn w5 dq) os).heap.size (grow (redrawn w5 dq) os) w' from by have h := deep_any 17 (by decide) A ko kc _ HGA.out (HasK.below (below_regrown w5 dq os) KA.out); rw [hvd] at h; exact h)
        have C4 := Lib.hid (fun (dq : Nat) (os : Array Obj) => show Calls Try.prog 13 #[.agg #[.int .i64 A.op, .string A.text, .int .u64 A.s0, .int .u64 A.s1, .int .u64 A.s2, .int .u64 A.s3, .slice ko A.kids.length kc]] (grow (redrawn w5 dq) os) fun e w' => e = .returned (.int .i64 vd) ∧ Below (grow (redrawn w5 dq) os).heap.size (grow (redrawn w5 dq) os) w' from by have h := rdeep_any 17 (by decide) A ko kc _ HGA.out (HasK.below (below_regrown w5 dq os) KA.out); rw [hvd] at h; exact h)
        have C5 := Lib.hid (fun (dq : Nat) (os : Array Obj) => show Calls Try.prog 14 #[.agg #[.int .i64 A.op, .string A.text, .int .u64 A.s0, .int .u64 A.s1, .int .u64 A.s2, .int .u64 A.s3, .slice ko A.kids.length kc]] (grow (redrawn w5 dq) os) fun e w' => e = .returned (.int .i64 vs) ∧ Below (grow (redrawn w5 dq) os).heap.size (grow (redrawn w5 dq) os) w' from by have h := size_any 17 (by decide) A ko kc _ HGA.out (HasK.below (below_regrown w5 dq os) KA.out); rw [hvs] at h; exact h)
        have C6 := Lib.hid (fun (dq : Nat) (os : Array Obj) => show Calls Try.prog 15 #[.agg #[.int .i64 A.op, .string A.text, .int .u64 A.s0, .int .u64 A.s1, .int .u64 A.s2, .int .u64 A.s3, .slice ko A.kids.length kc]] (grow (redrawn w5 dq) os) fun e w' => e = .returned (.int .i64 vs) ∧ Below (grow (redrawn w5 dq) os).heap.size (grow (redrawn w5 dq) os) w' from by have h := rsize_any 17 (by decide) A ko kc _ HGA.out (HasK.below (below_regrown w5 dq os) KA.out); rw [hvs] at h; exact h)
        have C7 := Lib.hid (fun (dq : Nat) (os : Array Obj) => show Calls Try.prog 16 #[.agg #[.int .i64 A.op, .string A.text, .int .u64 A.s0, .int .u64 A.s1, .int .u64 A.s2, .int .u64 A.s3, .slice ko A.kids.length kc]] (grow (redrawn w5 dq) os) fun e w' => e = .returned (.bool vr) ∧ Below (grow (redrawn w5 dq) os).heap.size (grow (redrawn w5 dq) os) w' from by have h := right_any 17 (by decide) A ko kc _ HGA.out (HasK.below (below_regrown w5 dq os) KA.out) (MX.out.below (below_regrown w5 dq os)); rw [hvr] at h; exact h)
        have C8 := Lib.hid (fun (dq : Nat) (os : Array Obj) => show Calls Try.prog 17 #[.agg #[.int .i64 A.op, .string A.text, .int .u64 A.s0, .int .u64 A.s1, .int .u64 A.s2, .int .u64 A.s3, .slice ko A.kids.length kc]] (grow (redrawn w5 dq) os) fun e w' => e = .returned (.bool vr) ∧ Below (grow (redrawn w5 dq) os).heap.size (grow (redrawn w5 dq) os) w' from by have h := rright_any 17 (by decide) A ko kc _ HGA.out (HasK.below (below_regrown w5 dq os) KA.out) (MX.out.below (below_regrown w5 dq os)); rw [hvr] at h; exact h)
        have C9 := Lib.hid (fun (dq : Nat) (os : Array Obj) => show Calls Try.prog 18 #[.agg #[.int .i64 A.op, .string A.text, .int .u64 A.s0, .int .u64 A.s1, .int .u64 A.s2, .int .u64 A.s3, .slice ko A.kids.length kc], .agg #[.int .i64 B.op, .string B.text, .int .u64 B.s0, .int .u64 B.s1, .int .u64 B.s2, .int .u64 B.s3, .slice lo B.kids.length lc]] (grow (redrawn w5 dq) os) fun e w' => e = .returned (.bool ve) ∧ Below (grow (redrawn w5 dq) os).heap.size (grow (redrawn w5 dq) os) w' from by have h := same_any 17 A B ko lo kc lc _ HGA.out HGB.out (HasK.below (below_regrown w5 dq os) KA.out) (HasK.below (below_regrown w5 dq os) KB.out); rw [hve] at h; exact h)
        have C10 := Lib.hid (fun (dq : Nat) (os : Array Obj) => show Calls Try.prog 19 #[.agg #[.int .i64 A.op, .string A.text, .int .u64 A.s0, .int .u64 A.s1, .int .u64 A.s2, .int .u64 A.s3, .slice ko A.kids.length kc], .agg #[.int .i64 B.op, .string B.text, .int .u64 B.s0, .int .u64 B.s1, .int .u64 B.s2, .int .u64 B.s3, .slice lo B.kids.length lc]] (grow (redrawn w5 dq) os) fun e w' => e = .returned (.bool ve) ∧ Below (grow (redrawn w5 dq) os).heap.size (grow (redrawn w5 dq) os) w' from by have h := rsame_any 17 A B ko lo kc lc _ HGA.out HGB.out (HasK.below (below_regrown w5 dq os) KA.out) (HasK.below (below_regrown w5 dq os) KB.out); rw [hve] at h; exact h)
        clear hvd hvs hvr hve hvw KA KB MX HKA HKB HGA HGB S1 S2 HM
        obtain ⟨a0, a1, a2, a3, a4, a5, a6⟩ := H35.out.seven
        obtain ⟨b0, b1, b2, b3, b4, b5, b6⟩ := H45.out.seven
        have ho3 := H35.out.lt
        have ho4 := H45.out.lt
        have a0' := cell_regrown a0
        have a1' := cell_regrown a1
        have a2' := cell_regrown a2
        have a3' := cell_regrown a3
        have a4' := cell_regrown a4
        have a5' := cell_regrown a5
        have a6' := cell_regrown a6
        have b0' := cell_regrown b0
        have b1' := cell_regrown b1
        have b2' := cell_regrown b2
        have b3' := cell_regrown b3
        have b4' := cell_regrown b4
        have b5' := cell_regrown b5
        have b6' := cell_regrown b6
        generalize A.op = xA_op at *
        generalize A.text = xA_text at *
        generalize A.s0 = xA_s0 at *
        generalize A.s1 = xA_s1 at *
        generalize A.s2 = xA_s2 at *
        generalize A.s3 = xA_s3 at *
        generalize A.kids.length = xA_kids_length at *
        generalize B.op = xB_op at *
        generalize B.text = xB_text at *
        generalize B.s0 = xB_s0 at *
        generalize B.s1 = xB_s1 at *
        generalize B.s2 = xB_s2 at *
        generalize B.s3 = xB_s3 at *
        generalize B.kids.length = xB_kids_length at *
        refine wp_region_quiet_below (by kernel_rfl) (by kernel_rfl) ?_
        repeat (go_big_quiet_step (first
          | (go_at_call 7; with_reducible exact Calls.regrown_of (CW.out _ _))
          | (go_at_call 10; with_reducible exact Calls.regrown_of (C1.out _ _))
          | (go_at_call 11; with_reducible exact Calls.regrown_of (C2.out _ _))
          | (go_at_call 12; with_reducible exact Calls.regrown_of (C3.out _ _))
          | (go_at_call 13; with_reducible exact Calls.regrown_of (C4.out _ _))
          | (go_at_call 14; with_reducible exact Calls.regrown_of (C5.out _ _))
          | (go_at_call 15; with_reducible exact Calls.regrown_of (C6.out _ _))
          | (go_at_call 16; with_reducible exact Calls.regrown_of (C7.out _ _))
          | (go_at_call 17; with_reducible exact Calls.regrown_of (C8.out _ _))
          | (go_at_call 18; with_reducible exact Calls.regrown_of (C9.out _ _))
          | (go_at_call 19; with_reducible exact Calls.regrown_of (C10.out _ _))))
        refine wpQuiet_nil ?_
        intro _ hw'
        obtain ⟨⟨dq, osq⟩, hw''⟩ := hw'
        subst hw''
        go_wp2
        go_ret
        exact ⟨rfl, keepb HB5.out (below_regrown _ _ _)⟩
      · skip
        go_wp2_with fail
        refine (awake_any _ (HM.out.below HB3.out)).mono ?_
        rintro e w9 ⟨rfl, hb9⟩
        go_wp2
        go_ret
        exact ⟨rfl, keepb HB3.out hb9⟩
    · skip
      go_wp2_with fail
      refine (awake_any _ (HM.out.below HB3.out)).mono ?_
      rintro e w9 ⟨rfl, hb9⟩
      go_wp2
      go_ret
      exact ⟨rfl, keepb HB3.out hb9⟩
  · skip
    go_wp2_with fail
    refine (awake_any _ (HM.out.below HB2.out)).mono ?_
    rintro e w9 ⟨rfl, hb9⟩
    go_wp2
    go_ret
    exact ⟨rfl, keepb HB2.out hb9⟩
end Go.Proofs.Ytinkgidncdjapac
