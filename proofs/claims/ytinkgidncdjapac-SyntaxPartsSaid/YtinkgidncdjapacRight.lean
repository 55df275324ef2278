/- What an expression must have: the walks of the program's functions. -/
import Derived.Test.YtinkgidncdjapacSame
import Derived.Test.YtinkgidncdjapacSplitR
namespace Go.Proofs.Ytinkgidncdjapac
set_option linter.unusedVariables false
open Go.RowKit Go.Sort

def textB (o : Int) (t : ByteArray) : Bool := if o = 1 then !t.toList.isEmpty && decide ((t.size : Int) ≤ 40) else if o = 11 then splitB t else if o = 12 then wordB t else t.toList.isEmpty
def kidsB (o : Int) (m : Nat) : Bool := if o = 1 ∨ o = 2 ∨ o = 3 ∨ o = 11 then m == 0 else if o = 4 ∨ o = 5 then decide (2 ≤ m) else if o = 6 ∨ o = 7 ∨ o = 8 ∨ o = 9 ∨ o = 10 ∨ o = 12 ∨ o = 13 then m == 1 else false
def zB (a b c d : Int) : Bool := a == 0 && b == 0 && c == 0 && d == 0
/-- What an expression must have, but for its kids' own. -/
def ownB (o : Int) (t : ByteArray) (a b c d : Int) (m : Nat) : Bool := textB o t && kidsB o m && !((o == 2) == zB a b c d)
def ownX (x : Ex) : Bool := ownB x.op x.text x.s0 x.s1 x.s2 x.s3 x.kids.length
def allX : Nat → Ex → Bool
  | 0, _ => false
  | n + 1, x => ownX x && x.kids.all (allX n)
theorem allX_succ (n : Nat) (x : Ex) : allX (n + 1) x = (ownX x && x.kids.all (allX n)) := rfl
def rightX (n : Nat) (x : Ex) : Bool := decide (deepX n x ≤ 12) && allX n x
theorem Own.seven {w : World} {g : Nat} {t : TypeId} {v0 v1 v2 v3 v4 v5 v6 : Value} (h : Own w g t [v0, v1, v2, v3, v4, v5, v6]) : w.cell? ⟨g, 0, none⟩ = some v0 ∧ w.cell? ⟨g, 1, none⟩ = some v1 ∧ w.cell? ⟨g, 2, none⟩ = some v2 ∧ w.cell? ⟨g, 3, none⟩ = some v3 ∧ w.cell? ⟨g, 4, none⟩ = some v4 ∧ w.cell? ⟨g, 5, none⟩ = some v5 ∧ w.cell? ⟨g, 6, none⟩ = some v6 := ⟨h.cell 0, h.cell 1, h.cell 2, h.cell 3, h.cell 4, h.cell 5, h.cell 6⟩
@[go_sem 2000] theorem eqz (a b c d : Int) (w : World) :
    (Op.equalIn 10000 24 (.agg #[.int .u64 a, .int .u64 b, .int .u64 c, .int .u64 d]) (.agg #[.int .u64 0, .int .u64 0, .int .u64 0, .int .u64 0])).run Try.prog w = .ok (zB a b c d) w := eq4 a b c d 0 0 0 0 w
theorem below_box (w : World) (A : Obj) : Below w.heap.size w (w.alloc A) := (Below.refl _ _).alloc (Nat.le_refl _) _

set_option maxHeartbeats 1600000 in
theorem text_any (o a b c d : Int) (t : ByteArray) (ko : Option Addr) (m kc : Nat) (w : World) (hs : (t.size : Int) ≤ 60) (hm : Mx w) :
    Calls Try.prog 26 #[.agg #[.int .i64 o, .string t, .int .u64 a, .int .u64 b, .int .u64 c, .int .u64 d, .slice ko m kc]] w fun e w' => e = .returned (.bool (textB o t)) ∧ Below w.heap.size w w' := by
  have HX := Lib.hid (hm.below (below_box w (.cells #[.int .i64 o, .string t, .int .u64 a, .int .u64 b, .int .u64 c, .int .u64 d, .slice ko m kc] 27)))
  have HB := Lib.hid (below_box w (.cells #[.int .i64 o, .string t, .int .u64 a, .int .u64 b, .int .u64 c, .int .u64 d, .slice ko m kc] 27))
  have hs1 : t.size ≤ 1000000 := by omega
  have hs2 : t.size ≤ maxLen := by unfold maxLen; omega
  have S1 := Lib.hid hs1
  have S2 := Lib.hid hs2
  have HT := Lib.hid (show textB o t = if o = 1 then !t.toList.isEmpty && decide ((t.size : Int) ≤ 40) else if o = 11 then splitB t else if o = 12 then wordB t else t.toList.isEmpty from rfl)
  clear hm hs1 hs2
  by_cases h1 : o = 1
  · subst h1
    obtain ⟨b0, hb0⟩ : ∃ b0, t.toList.isEmpty = b0 := ⟨_, rfl⟩
    have HT2 := Lib.hid (show textB 1 t = (!b0 && decide ((t.size : Int) ≤ 40)) by rw [HT.out, if_pos rfl, hb0])
    cases b0
    all_goals
      go_enter Try.func26, Try.ntmps26
      go_wp2
      go_ret
      exact ⟨ret_bool (by rw [HT2.out]; rfl), HB.out⟩
  · have e1 : (o == 1) = false := beq_eq_false_iff_ne.2 h1
    by_cases h2 : o = 11
    · subst h2
      have HT2 := Lib.hid (show textB 11 t = splitB t by rw [HT.out, if_neg (by decide), if_pos rfl])
      clear h1 e1
      go_enter Try.func26, Try.ntmps26
      go_wp2_with fail
      refine (split_any t S1.out _ HX.out).mono ?_
      rintro e w1 ⟨rfl, hb⟩
      go_wp2
      go_ret
      exact ⟨ret_bool HT2.out.symm, HB.out.trans (hb.mono HB.out.size)⟩
    · have e2 : (o == 11) = false := beq_eq_false_iff_ne.2 h2
      by_cases h3 : o = 12
      · subst h3
        have HT2 := Lib.hid (show textB 12 t = wordB t by rw [HT.out, if_neg (by decide), if_neg (by decide), if_pos rfl])
        clear h1 e1 h2 e2
        go_enter Try.func26, Try.ntmps26
        go_wp2_with fail
        refine (word_any t S2.out _).mono ?_
        rintro e w1 ⟨rfl, rfl⟩
        go_wp2
        go_ret
        exact ⟨ret_bool HT2.out.symm, HB.out⟩
      · have e3 : (o == 12) = false := beq_eq_false_iff_ne.2 h3
        have HT2 := Lib.hid (show textB o t = t.toList.isEmpty by rw [HT.out, if_neg h1, if_neg h2, if_neg h3])
        go_enter Try.func26, Try.ntmps26
        go_wp2
        go_ret
        exact ⟨ret_bool HT2.out.symm, HB.out⟩

theorem op_cases (o : Int) : (o = 1 ∨ o = 2 ∨ o = 3 ∨ o = 11 ∨ o = 4 ∨ o = 5 ∨ o = 6 ∨ o = 7 ∨ o = 8 ∨ o = 9 ∨ o = 10 ∨ o = 12 ∨ o = 13) ∨ ((o == 1) = false ∧ (o == 2) = false ∧ (o == 3) = false ∧ (o == 11) = false ∧ (o == 4) = false ∧ (o == 5) = false ∧ (o == 6) = false ∧ (o == 7) = false ∧ (o == 8) = false ∧ (o == 9) = false ∧ (o == 10) = false ∧ (o == 12) = false ∧ (o == 13) = false) := by
  simp only [beq_eq_false_iff_ne]; omega
set_option maxHeartbeats 1600000 in
theorem kids_any (o a b c d : Int) (t : ByteArray) (ko : Option Addr) (m kc : Nat) (w : World) :
    Calls Try.prog 27 #[.agg #[.int .i64 o, .string t, .int .u64 a, .int .u64 b, .int .u64 c, .int .u64 d, .slice ko m kc]] w fun e w' => e = .returned (.bool (kidsB o m)) ∧ Below w.heap.size w w' := by
  have HB := Lib.hid (below_box w (.cells #[.int .i64 o, .string t, .int .u64 a, .int .u64 b, .int .u64 c, .int .u64 d, .slice ko m kc] 27))
  have E0 := Lib.hid (show ((m : Int) == 0) = (m == 0) by rw [Bool.eq_iff_iff, beq_iff_eq, beq_iff_eq]; omega)
  have E1 := Lib.hid (show ((m : Int) == 1) = (m == 1) by rw [Bool.eq_iff_iff, beq_iff_eq, beq_iff_eq]; omega)
  have E2 := Lib.hid (show decide (2 ≤ (m : Int)) = decide (2 ≤ m) by rw [decide_eq_decide]; omega)
  rcases op_cases o with h | ⟨h1, h2, h3, h4, h5, h6, h7, h8, h9, h10, h11, h12, h13⟩
  · rcases h with rfl | rfl | rfl | rfl | rfl | rfl | rfl | rfl | rfl | rfl | rfl | rfl | rfl
    all_goals
      go_enter Try.func27, Try.ntmps27
      go_wp2
      go_ret
      refine ⟨ret_bool ?_, HB.out⟩
      first
        | exact E0.out
        | exact E1.out
        | exact E2.out
  · have HF := Lib.hid (show kidsB o m = false by
      simp only [beq_eq_false_iff_ne] at h1 h2 h3 h4 h5 h6 h7 h8 h9 h10 h11 h12 h13
      unfold kidsB; rw [if_neg (by omega), if_neg (by omega), if_neg (by omega)])
    go_enter Try.func27, Try.ntmps27
    go_wp2
    go_ret
    exact ⟨ret_bool HF.out.symm, HB.out⟩

theorem all_snoc {f : Ex → Bool} {K : List Ex} {k : Nat} {y : Ex} (h : K[k]? = some y) : (K.take (k + 1)).all f = ((K.take k).all f && f y) := by
  have hk := (List.getElem?_eq_some_iff.1 h).1
  have e : K[k] = y := (List.getElem?_eq_some_iff.1 h).2
  rw [List.take_succ_eq_append_getElem hk, List.all_append, e]; simp
theorem all_no {f : Ex → Bool} {K : List Ex} {k : Nat} {y : Ex} (h : K[k]? = some y) (hf : f y = false) : K.all f = false := by
  rw [Bool.eq_false_iff]; intro ha
  have := List.all_eq_true.1 ha y (List.mem_of_getElem? h)
  rw [hf] at this; cases this

set_option maxRecDepth 100000 in
set_option maxHeartbeats 3200000 in
theorem rall_any : ∀ (n : Nat) (x : Ex) (ko : Option Addr) (kc : Nat) (w : World), grt n x = false → HasK w n ko x.kids → Mx w →
    Calls Try.prog 23 #[exv x ko kc] w fun e w' => e = .returned (.bool (allX n x)) ∧ Below w.heap.size w w'
  | 0, x, _, _, _, h, _, _ => by cases h
  | n + 1, .mk o t a b c d K, ko, kc, w, hf, hK, hm => by
    have IH := Lib.hid (fun (y : Ex) (ao : Option Addr) (c : Nat) (W : World) => rall_any n y ao c W)
    have HS := Lib.hid (allX_succ n (.mk o t a b c d K))
    have hl := grt_len hf
    have HK := Lib.hid hK
    have HF := Lib.hid hf
    unfold exv
    simp only [Ex.kids, Ex.op, Ex.text, Ex.s0, Ex.s1, Ex.s2, Ex.s3] at hl HK HS ⊢
    clear hK hf
    obtain ⟨m, hlm⟩ : ∃ m, K.length = m := ⟨_, rfl⟩
    have HM := Lib.hid hlm
    rw [hlm] at hl ⊢
    clear hlm
    obtain ⟨hl1, hl2⟩ := hl
    have HO := Lib.hid (show ownX (.mk o t a b c d K) = (textB o t && kidsB o m && !((o == 2) == zB a b c d)) by unfold ownX ownB; simp only [Ex.kids, Ex.op, Ex.text, Ex.s0, Ex.s1, Ex.s2, Ex.s3]; rw [HM.out])
    have HB0 := Lib.hid (below_box w (.cells #[.int .i64 o, .string t, .int .u64 a, .int .u64 b, .int .u64 c, .int .u64 d, .slice ko m kc] 27))
    have HMX := Lib.hid hm
    have HXB := Lib.hid (hm.below HB0.out)
    have HP := Lib.hid (Own.fresh w 27 [.int .i64 o, .string t, .int .u64 a, .int .u64 b, .int .u64 c, .int .u64 d, .slice ko m kc])
    clear hm
    obtain ⟨b1, hb1⟩ : ∃ b1, textB o t = b1 := ⟨_, rfl⟩
    obtain ⟨b2, hb2⟩ : ∃ b2, kidsB o m = b2 := ⟨_, rfl⟩
    obtain ⟨b3, hb3⟩ : ∃ b3, (o == 2) = b3 := ⟨_, rfl⟩
    obtain ⟨b4, hb4⟩ : ∃ b4, zB a b c d = b4 := ⟨_, rfl⟩
    have TX := Lib.hid (fun (W : World) (dq : Nat) (os : Array Obj) (hW : Mx W) => show Calls Try.prog 26 #[.agg #[.int .i64 o, .string t, .int .u64 a, .int .u64 b, .int .u64 c, .int .u64 d, .slice ko m kc]] (grow (redrawn W dq) os) fun e w' => e = .returned (.bool b1) ∧ Below (grow (redrawn W dq) os).heap.size (grow (redrawn W dq) os) w' from by
      have h := text_any o a b c d t ko m kc (grow (redrawn W dq) os) (by omega) (hW.below (below_regrown _ _ _)); rw [hb1] at h; exact h)
    have KX := Lib.hid (fun (W : World) (dq : Nat) (os : Array Obj) => show Calls Try.prog 27 #[.agg #[.int .i64 o, .string t, .int .u64 a, .int .u64 b, .int .u64 c, .int .u64 d, .slice ko m kc]] (grow (redrawn W dq) os) fun e w' => e = .returned (.bool b2) ∧ Below (grow (redrawn W dq) os).heap.size (grow (redrawn W dq) os) w' from by
      have h := kids_any o a b c d t ko m kc (grow (redrawn W dq) os); rw [hb2] at h; exact h)
    rw [hb1, hb2, hb3, hb4] at HO
    clear hb1 hb2
    have hout : ∀ r, (b1 && b2 && !b3 == b4) = r → Hid (r = false → allX (n + 1) (.mk o t a b c d K) = false) := fun r hr => Lib.hid (fun h => by rw [HS.out, HO.out, hr, h]; rfl)
    obtain ⟨p0, p1, p2, p3, p4, p5, p6⟩ := HP.out.seven
    have hbox := HP.out.lt
    have q0 := cell_regrown p0
    have q1 := cell_regrown p1
    have q2 := cell_regrown p2
    have q3 := cell_regrown p3
    have q4 := cell_regrown p4
    have q5 := cell_regrown p5
    have q6 := cell_regrown p6
    go_enter Try.func23, Try.ntmps23
    go_wp2_with fail
    generalize hW : w.alloc (.cells #[.int .i64 o, .string t, .int .u64 a, .int .u64 b, .int .u64 c, .int .u64 d, .slice ko m kc] 27) = W1 at *
    have HW := Lib.hid hW
    have TX1 := Lib.hid (fun (dq : Nat) (os : Array Obj) => TX.out W1 dq os HXB.out)
    have KX1 := Lib.hid (fun (dq : Nat) (os : Array Obj) => KX.out W1 dq os)
    clear hW TX KX
    cases b1
    · have HN := Lib.hid ((hout _ rfl).out rfl)
      clear hout
      refine wp_region_quiet_below (by kernel_rfl) (by kernel_rfl) ?_
      repeat (go_big_quiet_step (first
        | (go_at_call 26; with_reducible exact Calls.regrown_of (TX1.out _ _))
        | (go_at_call 27; with_reducible exact Calls.regrown_of (KX1.out _ _))))
      refine wpQuiet_nil ?_
      intro _ hw'
      obtain ⟨⟨dq, osq⟩, hw''⟩ := hw'
      subst hw''
      go_wp2
      go_ret
      exact ⟨ret_bool HN.out.symm, HB0.out.trans ((below_regrown _ _ _).mono HB0.out.size)⟩
    · cases b2
      · have HN := Lib.hid ((hout _ rfl).out rfl)
        clear hout
        refine wp_region_quiet_below (by kernel_rfl) (by kernel_rfl) ?_
        repeat (go_big_quiet_step (first
          | (go_at_call 26; with_reducible exact Calls.regrown_of (TX1.out _ _))
          | (go_at_call 27; with_reducible exact Calls.regrown_of (KX1.out _ _))))
        refine wpQuiet_nil ?_
        intro _ hw'
        obtain ⟨⟨dq, osq⟩, hw''⟩ := hw'
        subst hw''
        go_wp2
        go_ret
        exact ⟨ret_bool HN.out.symm, HB0.out.trans ((below_regrown _ _ _).mono HB0.out.size)⟩
      · by_cases e34 : b3 = b4
        · subst e34
          have HN := Lib.hid ((hout false (by cases b3 <;> rfl)).out rfl)
          clear hout
          cases b3
          all_goals
            refine wp_region_quiet_below (by kernel_rfl) (by kernel_rfl) ?_
            repeat (go_big_quiet_step (first
              | (go_at_call 26; with_reducible exact Calls.regrown_of (TX1.out _ _))
              | (go_at_call 27; with_reducible exact Calls.regrown_of (KX1.out _ _))))
            refine wpQuiet_nil ?_
            intro _ hw'
            obtain ⟨⟨dq, osq⟩, hw''⟩ := hw'
            subst hw''
            go_wp2
            go_ret
            exact ⟨ret_bool HN.out.symm, HB0.out.trans ((below_regrown _ _ _).mono HB0.out.size)⟩
        · have HY : Hid (ownX (.mk o t a b c d K) = true) := Lib.hid (by rw [HO.out]; revert e34; cases b3 <;> cases b4 <;> simp)
          clear hout
          have hw1 : Below w.heap.size w W1 := HB0.out
          cases b3 <;> cases b4
          all_goals first
            | (exfalso; exact e34 rfl)
            | skip
          all_goals
            clear e34
            refine wp_region_quiet_below (by kernel_rfl) (by kernel_rfl) ?_
            repeat (go_big_quiet_step (first
              | (go_at_call 26; with_reducible exact Calls.regrown_of (TX1.out _ _))
              | (go_at_call 27; with_reducible exact Calls.regrown_of (KX1.out _ _))))
            refine wpQuiet_nil ?_
            intro _ hw'
            obtain ⟨⟨dq, osq⟩, hw''⟩ := hw'
            subst hw''
            clear TX1 KX1
            generalize hW2 : grow (redrawn W1 dq) osq = W2 at *
            have HB2 := Lib.hid (show Below w.heap.size w W2 from by rw [← hW2]; exact HB0.out.trans ((below_regrown _ _ _).mono HB0.out.size))
            have r6 : W2.cell? ⟨w.heap.size, 6, none⟩ = some (.slice ko m kc) := by rw [← hW2]; exact q6 _ _
            have hs2 : w.heap.size < W2.heap.size := by have h1 := hbox; have h2 := (below_regrown W1 dq osq).size; rw [hW2] at h2; omega
            clear hW2 q0 q1 q2 q3 q4 q5 q6 p0 p1 p2 p3 p4 p5 p6 hb3 hb4 hbox hw1
            go_wp2_with fail
            go_loopw [26] (fun b9 wr => ∃ k : Nat, b9 = .int .i64 (k : Int) ∧ (k : Int) ≤ m ∧ Hid ((K.take k).all (allX n) = true) ∧ Hid (Below w.heap.size w wr))
              (fun b9 _ => m - (intOf b9).toNat)
            case atStart => exact ⟨0, rfl, by omega, Lib.hid rfl, HB2⟩
            case round =>
              obtain ⟨k, rfl, hk2, HA, HB⟩ := hrel
              clear HB2
              by_cases h2 : (k : Int) < m
              · obtain ⟨y, hy⟩ : ∃ y, K[k]? = some y := ⟨_, List.getElem?_eq_getElem (by have := HM.out; omega)⟩
                obtain ⟨g, off, kk, kd, rfl, hg, c0, c1, c2, c3, c4, c5, c6, hr⟩ := HK.out k y hy
                have HR := Lib.hid hr
                have HFY := Lib.hid (grt_kid HF.out hy)
                have HY1 := Lib.hid hy
                obtain ⟨z, hz⟩ : ∃ z, allX n y = z := ⟨_, rfl⟩
                have HZ := Lib.hid hz
                have e0 := keepc c0 HB.out
                have e1 := keepc c1 HB.out
                have e2 := keepc c2 HB.out
                have e3 := keepc c3 HB.out
                have e4 := keepc c4 HB.out
                have e5 := keepc c5 HB.out
                have e6 := keepc c6 HB.out
                have hgr : g < wr.heap.size := Nat.lt_of_lt_of_le hg HB.out.size
                clear hr hy hz c0 c1 c2 c3 c4 c5 c6 hg
                go_wp2_with fail
                refine (IH.out y kk kd _ HFY.out (HasK.below (HB.out.alloc HB.out.size _) HR.out) (HMX.out.below (HB.out.alloc HB.out.size _))).mono ?_
                rintro e w1 ⟨rfl, hb1⟩
                rw [HZ.out]
                have HB1 := Lib.hid (keepb (HB.out.alloc HB.out.size _) hb1)
                clear hb1 e0 e1 e2 e3 e4 e5 e6
                cases z
                · go_wp2
                  go_ret
                  exact ⟨ret_bool (by rw [HS.out, all_no HY1.out HZ.out]; simp), HB1.out⟩
                · have HA1 := Lib.hid (show (K.take (k + 1)).all (allX n) = true by rw [all_snoc HY1.out, HA.out, HZ.out]; rfl)
                  go_wp2
                  go_roundw
                  case rel => exact ⟨k + 1, by go_num, by omega, HA1, HB1⟩
                  case measure => simp [intOf]; omega
              · obtain rfl : k = m := by omega
                have HE := Lib.hid (show allX (n + 1) (.mk o t a b c d K) = true by
                  have h := HA.out; rw [← HM.out, List.take_length] at h
                  rw [HS.out, HY.out, h]; rfl)
                go_wp2
                go_ret
                exact ⟨ret_bool HE.out.symm, HB.out⟩

set_option maxRecDepth 100000 in
set_option maxHeartbeats 1600000 in
theorem right_any (n : Nat) (hn : n ≤ 18) (x : Ex) (ko : Option Addr) (kc : Nat) (w : World) (hf : grt n x = false) (hK : HasK w n ko x.kids) (hm : Mx w) :
    Calls Try.prog 16 #[exv x ko kc] w fun e w' => e = .returned (.bool (rightX n x)) ∧ Below w.heap.size w w' := by
  obtain ⟨m, hlm⟩ : ∃ m, x.kids.length = m := ⟨_, rfl⟩
  obtain ⟨o, ho⟩ : ∃ o, x.op = o := ⟨_, rfl⟩
  have HD := Lib.hid (fun W hW => deep_any n hn x ko kc W hf hW)
  have HA := Lib.hid (fun W hW hM => rall_any n x ko kc W hf hW hM)
  have HK := Lib.hid hK
  have HMX := Lib.hid hm
  have hd := deepX_bd n x
  have HR := Lib.hid (show rightX n x = (decide (deepX n x ≤ 12) && allX n x) from rfl)
  clear hK hm hlm ho
  have HB0 := Lib.hid (fun A => below_box w A)
  obtain ⟨q, hq⟩ : ∃ q, deepX n x = q := ⟨_, rfl⟩
  rw [hq] at hd HR
  have HQ := Lib.hid hq
  clear hq hf
  unfold exv
  go_enter Try.func16, Try.ntmps16
  go_wp2_with fail
  refine (HD.out _ (HasK.below (HB0.out _) HK.out)).mono ?_
  rintro e w1 ⟨rfl, hb1⟩
  rw [HQ.out]
  have HO := Lib.hid ((Own.fresh w 27 [.int .i64 x.op, .string x.text, .int .u64 x.s0, .int .u64 x.s1, .int .u64 x.s2, .int .u64 x.s3, .slice ko x.kids.length kc]).under hb1 (Own.fresh w _ _).lt)
  have HB1 := Lib.hid (keepb (HB0.out _) hb1)
  clear hb1
  obtain ⟨p0, p1, p2, p3, p4, p5, p6⟩ := HO.out.seven
  by_cases h12 : q ≤ 12
  · go_wp2_with fail
    refine (HA.out _ (HasK.below HB1.out HK.out) (HMX.out.below HB1.out)).mono ?_
    rintro e w2 ⟨rfl, hb2⟩
    go_wp2
    go_ret
    exact ⟨ret_bool (by rw [HR.out, decide_eq_true h12]; rfl), keepb HB1.out hb2⟩
  · go_wp2
    go_ret
    exact ⟨ret_bool (by rw [HR.out, decide_eq_false (show ¬ q ≤ 12 by omega)]; rfl), HB1.out⟩

end Go.Proofs.Ytinkgidncdjapac
