/- The law WriterApart, walked. -/
import Derived.Test.YtonknapfndaalaaAwk9
import Derived.Test.YtonknapfndaalaaApM
namespace Go.Proofs.Ytonknapfndaalaa
set_option linter.unusedVariables false
set_option maxRecDepth 1000000
open Go.RowKit Go.Sort
set_option maxRecDepth 1000000 in
set_option maxHeartbeats 12800000 in
theorem apart_walk (A B : Ex) (ko lo : Option Addr) (kc lc n1 n2 : Nat) (w : World) (hA : HasK w n1 ko A.kids) (hB : HasK w n2 lo B.kids) (sA : ∀ n, SetsOk n A) (sB : ∀ n, SetsOk n B) :
  Calls Try.prog 6 #[exv A ko kc, exv B lo lc] w fun e w' => e = .returned (.bool true) ∧ Below w.heap.size w w' := by
 have HKA := Lib.hid hA
 have HKB := Lib.hid hB
 have SA := Lib.hid (sA 17)
 have SB := Lib.hid (sB 17)
 clear hA hB sA sB
 have hb0 : Below w.heap.size w ((w.alloc (.cells #[.int .i64 A.op, .string A.text, .int .u64 A.s0, .int .u64 A.s1, .int .u64 A.s2, .int .u64 A.s3, .slice ko A.kids.length kc] 28)).alloc (.cells #[.int .i64 B.op, .string B.text, .int .u64 B.s0, .int .u64 B.s1, .int .u64 B.s2, .int .u64 B.s3, .slice lo B.kids.length lc] 28)) := ((Below.refl _ _).alloc (Nat.le_refl _) _).alloc (by simp) _
 have h3 : Own ((w.alloc (.cells #[.int .i64 A.op, .string A.text, .int .u64 A.s0, .int .u64 A.s1, .int .u64 A.s2, .int .u64 A.s3, .slice ko A.kids.length kc] 28)).alloc (.cells #[.int .i64 B.op, .string B.text, .int .u64 B.s0, .int .u64 B.s1, .int .u64 B.s2, .int .u64 B.s3, .slice lo B.kids.length lc] 28)) w.heap.size 28 [.int .i64 A.op, .string A.text, .int .u64 A.s0, .int .u64 A.s1, .int .u64 A.s2, .int .u64 A.s3, .slice ko A.kids.length kc] := (Own.fresh w 28 [.int .i64 A.op, .string A.text, .int .u64 A.s0, .int .u64 A.s1, .int .u64 A.s2, .int .u64 A.s3, .slice ko A.kids.length kc]).on_alloc _
 have h4 : Own ((w.alloc (.cells #[.int .i64 A.op, .string A.text, .int .u64 A.s0, .int .u64 A.s1, .int .u64 A.s2, .int .u64 A.s3, .slice ko A.kids.length kc] 28)).alloc (.cells #[.int .i64 B.op, .string B.text, .int .u64 B.s0, .int .u64 B.s1, .int .u64 B.s2, .int .u64 B.s3, .slice lo B.kids.length lc] 28)) (w.heap.size + 1) 28 [.int .i64 B.op, .string B.text, .int .u64 B.s0, .int .u64 B.s1, .int .u64 B.s2, .int .u64 B.s3, .slice lo B.kids.length lc] := Own.fresh' (w := w.alloc (.cells #[.int .i64 A.op, .string A.text, .int .u64 A.s0, .int .u64 A.s1, .int .u64 A.s2, .int .u64 A.s3, .slice ko A.kids.length kc] 28)) (by simp) 28 [.int .i64 B.op, .string B.text, .int .u64 B.s0, .int .u64 B.s1, .int .u64 B.s2, .int .u64 B.s3, .slice lo B.kids.length lc]
 obtain ⟨ga, hga⟩ : ∃ ga, grt 17 A = ga := ⟨_, rfl⟩
 obtain ⟨gb, hgb⟩ : ∃ gb, grt 17 B = gb := ⟨_, rfl⟩
 have HGA := Lib.hid hga
 have HGB := Lib.hid hgb
 clear hga hgb
 obtain ⟨ra, hra⟩ : ∃ ra, rightX 17 A = ra := ⟨_, rfl⟩
 obtain ⟨rb, hrb⟩ : ∃ rb, rightX 17 B = rb := ⟨_, rfl⟩
 have HRA := Lib.hid hra
 have HRB := Lib.hid hrb
 clear hra hrb
 unfold exv
 go_enter Try.func6, Try.ntmps6
 go_wp2_with fail
 generalize (w.alloc (.cells #[.int .i64 A.op, .string A.text, .int .u64 A.s0, .int .u64 A.s1, .int .u64 A.s2, .int .u64 A.s3, .slice ko A.kids.length kc] 28)).alloc (.cells #[.int .i64 B.op, .string B.text, .int .u64 B.s0, .int .u64 B.s1, .int .u64 B.s2, .int .u64 B.s3, .slice lo B.kids.length lc] 28) = w1 at *
 have HB1 := Lib.hid hb0
 have H31 := Lib.hid h3
 have H41 := Lib.hid h4
 clear hb0 h3 h4
 refine (great_any 17 0 ⟨by omega, by omega⟩ n1 A ko kc _ (HasK.below HB1.out HKA.out)).mono ?_
 rintro e w2 ⟨rfl, hb2⟩
 rw [HGA.out]
 have HB2 := Lib.hid (keepb HB1.out hb2)
 have H32 := Lib.hid (own_move H31.out hb2)
 have H42 := Lib.hid (own_move H41.out hb2)
 clear hb2 HB1 H31 H41
 cases ga
 ·
  obtain ⟨b0, b1, b2, b3, b4, b5, b6⟩ := H42.out.seven
  go_wp2_with fail
  refine (great_any 17 0 ⟨by omega, by omega⟩ n2 B lo lc _ (HasK.below HB2.out HKB.out)).mono ?_
  rintro e w3 ⟨rfl, hb3⟩
  rw [HGB.out]
  have HB3 := Lib.hid (keepb HB2.out hb3)
  have H33 := Lib.hid (own_move H32.out hb3)
  have H43 := Lib.hid (own_move H42.out hb3)
  clear hb3 HB2 H32 H42
  clear b0 b1 b2 b3 b4 b5 b6
  cases gb
  ·
   have KA := Lib.hid (fun (W : World) (hW : Below w.heap.size w W) => HasK.cut HGA.out (HasK.below hW HKA.out))
   have KB := Lib.hid (fun (W : World) (hW : Below w.heap.size w W) => HasK.cut HGB.out (HasK.below hW HKB.out))
   have FA := Lib.hid (grt_fw HGA.out SA.out)
   have FB := Lib.hid (grt_fw HGB.out SB.out)
   obtain ⟨a0, a1, a2, a3, a4, a5, a6⟩ := H33.out.seven
   go_wp2_with fail
   refine (rrightw_any 17 (by decide) A ko kc _ FA.out (KA.out _ HB3.out)).mono ?_
   rintro e w4 ⟨rfl, hb4⟩
   rw [HRA.out]
   have HB4 := Lib.hid (keepb HB3.out hb4)
   have H34 := Lib.hid (own_move H33.out hb4)
   have H44 := Lib.hid (own_move H43.out hb4)
   clear hb4 HB3 H33 H43
   clear a0 a1 a2 a3 a4 a5 a6
   cases ra
   ·
    skip
    go_wp2_with fail
    refine (awake_any _).mono ?_
    rintro e w9 ⟨rfl, hb9⟩
    go_wp2
    go_ret
    exact ⟨rfl, keepb HB4.out hb9⟩
   ·
    obtain ⟨b0, b1, b2, b3, b4, b5, b6⟩ := H44.out.seven
    go_wp2_with fail
    refine (rrightw_any 17 (by decide) B lo lc _ FB.out (KB.out _ HB4.out)).mono ?_
    rintro e w5 ⟨rfl, hb5⟩
    rw [HRB.out]
    have HB5 := Lib.hid (keepb HB4.out hb5)
    have H35 := Lib.hid (own_move H34.out hb5)
    have H45 := Lib.hid (own_move H44.out hb5)
    clear hb5 HB4 H34 H44
    clear b0 b1 b2 b3 b4 b5 b6
    cases rb
    ·
     skip
     go_wp2_with fail
     refine (awake_any _).mono ?_
     rintro e w9 ⟨rfl, hb9⟩
     go_wp2
     go_ret
     exact ⟨rfl, keepb HB5.out hb9⟩
    ·
     have HAP := Lib.hid (apart HGA.out SA.out HRA.out SB.out HRB.out)
     have PA := Lib.hid (right_pr HGA.out SA.out HRA.out)
     have PB := Lib.hid (right_pr HGB.out SB.out HRB.out)
     obtain ⟨va, hva⟩ : ∃ v, ofL (prX 17 A) = v := ⟨_, rfl⟩
     obtain ⟨vb, hvb⟩ : ∃ v, ofL (prX 17 B) = v := ⟨_, rfl⟩
     obtain ⟨ve, hve⟩ : ∃ v, sameX 17 A B = v := ⟨_, rfl⟩
     have CW := Lib.hid (fun (dq : Nat) (os : Array Obj) => show Calls Try.prog 14 #[] (grow (redrawn w5 dq) os) fun e w' => e = .returned (.bool true) ∧ Below (grow (redrawn w5 dq) os).heap.size (grow (redrawn w5 dq) os) w' from by exact awake_any _)
     have C1 := Lib.hid (fun (dq : Nat) (os : Array Obj) => show Calls Try.prog 16 #[.agg #[.int .i64 A.op, .string A.text, .int .u64 A.s0, .int .u64 A.s1, .int .u64 A.s2, .int .u64 A.s3, .slice ko A.kids.length kc]] (grow (redrawn w5 dq) os) fun e w' => e = .returned (.string va) ∧ Below (grow (redrawn w5 dq) os).heap.size (grow (redrawn w5 dq) os) w' from by have h := print_any 17 A ko kc _ PA.out (HasK.below (below_regrown w5 dq os) (KA.out _ HB5.out)); rw [hva] at h; exact h)
     have C2 := Lib.hid (fun (dq : Nat) (os : Array Obj) => show Calls Try.prog 16 #[.agg #[.int .i64 B.op, .string B.text, .int .u64 B.s0, .int .u64 B.s1, .int .u64 B.s2, .int .u64 B.s3, .slice lo B.kids.length lc]] (grow (redrawn w5 dq) os) fun e w' => e = .returned (.string vb) ∧ Below (grow (redrawn w5 dq) os).heap.size (grow (redrawn w5 dq) os) w' from by have h := print_any 17 B lo lc _ PB.out (HasK.below (below_regrown w5 dq os) (KB.out _ HB5.out)); rw [hvb] at h; exact h)
     have C3 := Lib.hid (fun (dq : Nat) (os : Array Obj) => show Calls Try.prog 10 #[.agg #[.int .i64 A.op, .string A.text, .int .u64 A.s0, .int .u64 A.s1, .int .u64 A.s2, .int .u64 A.s3, .slice ko A.kids.length kc], .agg #[.int .i64 B.op, .string B.text, .int .u64 B.s0, .int .u64 B.s1, .int .u64 B.s2, .int .u64 B.s3, .slice lo B.kids.length lc]] (grow (redrawn w5 dq) os) fun e w' => e = .returned (.bool ve) ∧ Below (grow (redrawn w5 dq) os).heap.size (grow (redrawn w5 dq) os) w' from by have h := rsame_any 17 A B ko lo kc lc _ FA.out.1 FB.out.1 (HasK.below (below_regrown w5 dq os) (KA.out _ HB5.out)) (HasK.below (below_regrown w5 dq os) (KB.out _ HB5.out)); rw [hve] at h; exact h)
     rw [hva, hvb, hve] at HAP
     clear hva hvb hve KA KB HKA HKB HGA HGB HRA HRB FA FB PA PB SA SB
     have HAQ : (va = vb ∧ ve = true) ∨ (va ≠ vb ∧ ve = false) := HAP.out.elim (fun h => .inl h.2) (fun h => .inr h)
     clear HAP
     obtain ⟨a0, a1, a2, a3, a4, a5, a6⟩ := H35.out.seven
     obtain ⟨b0, b1, b2, b3, b4, b5, b6⟩ := H45.out.seven
     have ho3 := H35.out.lt
     have ho4 := H45.out.lt
     have a0' := cell_regrown a0
     have a1' := cell_regrown a1
     have a2' := cell_regrown a2
     have a3' := cell_regrown a3
     have a4' := cell_regrown a4
     have a5' := cell_regrown a5
     have a6' := cell_regrown a6
     have b0' := cell_regrown b0
     have b1' := cell_regrown b1
     have b2' := cell_regrown b2
     have b3' := cell_regrown b3
     have b4' := cell_regrown b4
     have b5' := cell_regrown b5
     have b6' := cell_regrown b6
     generalize A.op = xA_op at *
     generalize A.text = xA_text at *
     generalize A.s0 = xA_s0 at *
     generalize A.s1 = xA_s1 at *
     generalize A.s2 = xA_s2 at *
     generalize A.s3 = xA_s3 at *
     generalize A.kids.length = xA_kids_length at *
     generalize B.op = xB_op at *
     generalize B.text = xB_text at *
     generalize B.s0 = xB_s0 at *
     generalize B.s1 = xB_s1 at *
     generalize B.s2 = xB_s2 at *
     generalize B.s3 = xB_s3 at *
     generalize B.kids.length = xB_kids_length at *
     rcases HAQ with ⟨h1, rfl⟩ | ⟨h1, rfl⟩
     ·
      subst h1
      go_upto_region 4 with (fail)
      refine wp_region_quiet_below (by kernel_rfl) (by kernel_rfl) ?_
      repeat (go_big_quiet_step (first
       | (go_at_call 14; with_reducible exact Calls.regrown_of (CW.out _ _))
       | (go_at_call 16; with_reducible exact Calls.regrown_of (C1.out _ _))
       | (go_at_call 16; with_reducible exact Calls.regrown_of (C2.out _ _))
       | (go_at_call 10; with_reducible exact Calls.regrown_of (C3.out _ _))))
      refine wpQuiet_nil ?_
      intro _ hw'
      obtain ⟨⟨dq, osq⟩, hw''⟩ := hw'
      subst hw''
      go_wp2
      go_ret
      exact ⟨ret_bool (by first | rfl | (simp; done) | (simp; exact h1l)), keepb HB5.out (below_regrown _ _ _)⟩
     ·
      have h1l : ¬ va.toList = vb.toList := fun g => h1 (toList_eq g)
      have h1d : decide (va = vb) = false := decide_eq_false h1
      go_upto_region 4 with (fail)
      refine wp_region_quiet_below (by kernel_rfl) (by kernel_rfl) ?_
      repeat (go_big_quiet_step (first
       | (go_at_call 14; with_reducible exact Calls.regrown_of (CW.out _ _))
       | (go_at_call 16; with_reducible exact Calls.regrown_of (C1.out _ _))
       | (go_at_call 16; with_reducible exact Calls.regrown_of (C2.out _ _))
       | (go_at_call 10; with_reducible exact Calls.regrown_of (C3.out _ _))))
      refine wpQuiet_nil ?_
      intro _ hw'
      obtain ⟨⟨dq, osq⟩, hw''⟩ := hw'
      subst hw''
      go_wp2
      go_ret
      exact ⟨ret_bool (by first | rfl | (simp; done) | (simp; exact h1l)), keepb HB5.out (below_regrown _ _ _)⟩
  ·
   skip
   go_wp2_with fail
   refine (awake_any _).mono ?_
   rintro e w9 ⟨rfl, hb9⟩
   go_wp2
   go_ret
   exact ⟨rfl, keepb HB3.out hb9⟩
 ·
  skip
  go_wp2_with fail
  refine (awake_any _).mono ?_
  rintro e w9 ⟨rfl, hb9⟩
  go_wp2
  go_ret
  exact ⟨rfl, keepb HB2.out hb9⟩
end Go.Proofs.Ytonknapfndaalaa
