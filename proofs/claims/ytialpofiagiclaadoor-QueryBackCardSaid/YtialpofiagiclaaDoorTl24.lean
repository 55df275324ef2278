/- Queries are parsed and written as the document says: the walk of the law QueryTells. -/
import Derived.Test.YtialpofiagiclaaDoorAw24
import Derived.Test.YtialpofiagiclaaDoorOpenR
import Derived.Test.YtialpofiagiclaaDoorQpS
namespace Go.Proofs.YtialpofiagiclaaDoor
set_option linter.unusedVariables false
set_option maxRecDepth 1000000
open Go.RowKit Go.Sort

theorem wide_sml {P : List (List Hp)} (h : wideQ P = false) (hw : ∀ p ∈ P, ∀ x ∈ p, Wfh x) : SmlQ P := by
  unfold wideQ at h
  rw [List.any_eq_false] at h
  have h1 : ∀ p ∈ P, P.length ≤ 20 ∧ p.length ≤ 20 ∧ ∀ x ∈ p, Sml x := fun p hp => by
    have h1 := h p hp
    unfold wideF at h1
    simp only [Bool.or_eq_true, decide_eq_true_eq, not_or, List.any_eq_true, not_exists, not_and] at h1
    refine ⟨by omega, by omega, fun x hx => ?_⟩
    have h2 := h1.2 x hx
    unfold wideH at h2
    simp only [Bool.or_eq_true, decide_eq_true_eq, not_or] at h2
    exact ⟨by omega, by omega, by omega, (hw p hp x hx).1, (hw p hp x hx).2⟩
  refine ⟨?_, fun p hp => (h1 p hp).2.1, fun p hp => (h1 p hp).2.2⟩
  cases P with
  | nil => exact Nat.zero_le _
  | cons p r => exact (h1 p (.head _)).1
theorem SmlQ.nm {P : List (List Hp)} (h : SmlQ P) : ∀ p ∈ P, (p.length : Int) ≤ 1000 ∧ ∀ x ∈ p, x.nm.size ≤ maxLen := fun p hp => ⟨by have := h.p p hp; omega, fun x hx => by have := (h.x p hp x hx).nm; unfold maxLen; omega⟩
/-- What is parsed is small. -/
theorem okP_len (s : ByteArray) : (okP (qryO s)).length ≤ 8 ∧ ∀ p ∈ okP (qryO s), p.length ≤ 12 := by
  cases h : qryO s with
  | ok P => exact (right_sml (qry_right h)).2
  | error p => exact ⟨Nat.zero_le _, fun p hp => by simp [okP] at hp⟩

set_option maxRecDepth 1000000 in
set_option maxHeartbeats 6400000 in
theorem tells24_walk (s : ByteArray) (hs : s.size ≤ maxLen) (P : List (List Hp)) (qo : Option Addr) (qc : Nat) (hP : P.length ≤ maxLen) (hPL : ∀ p ∈ P, p.length ≤ maxLen ∧ ∀ x ∈ p, Wfh x) (w : World) (hq : HasQ w qo P) (ht : Tab w) :
    Calls Tryd.prog 3 #[.string s, .agg #[.slice qo P.length qc]] w fun e w' => e = .returned (.bool true) ∧ Below w.heap.size w w' := by
  have HQ := Lib.hid hq
  have HT := Lib.hid ht
  have HPW := Lib.hid hPL
  have HWD := Lib.hid (fun W' (hb : Below w.heap.size w W') => wide_any P qo qc (by unfold maxLen at hP; omega) (fun p hp => by have := (hPL p hp).1; unfold maxLen at this; omega) W' (hq.below hb))
  have HB0 := Lib.hid ((Below.refl w.heap.size w).alloc (Nat.le_refl _) (.cells #[.slice qo P.length qc] 24))
  obtain ⟨A, hA⟩ : ∃ A, w.heap.size = A := ⟨_, rfl⟩
  have HAW := Lib.hid hA
  have HO0 := Lib.hid (Own.fresh' hA.symm 24 [.slice qo P.length qc])
  obtain ⟨m, hm⟩ : ∃ m, P.length = m := ⟨_, rfl⟩
  have HMM := Lib.hid hm
  rw [hm] at HO0 HB0 HWD hP ⊢
  have HAK := Lib.hid (fun W (hb : Below w.heap.size w W) => awake24_any W (ht.below hb))
  obtain ⟨wd, hwd⟩ : ∃ b, wideQ P = b := ⟨_, rfl⟩
  rw [hwd] at HWD
  have HWQ := Lib.hid hwd
  clear hq ht hPL hm hwd
  go_enter Tryd.func3, Tryd.ntmps3
  go_upto_region 1 with fail
  try rw [hA]
  generalize World.alloc w _ = w1 at *
  clear hA
  have o0 : w1.cell? ⟨A, 0, none⟩ = some (.slice qo m qc) := HO0.out.cell 0
  have ol := HO0.out.lt
  by_cases h1 : (300 : Int) < s.size
  · have h1' : decide ((300 : Int) < s.size) = true := decide_eq_true h1
    clear o0 ol
    go_wp2_with fail
    refine (HAK.out _ HB0.out).mono ?_
    rintro e w9 ⟨rfl, hb9⟩
    go_wp2
    go_ret
    exact ⟨rfl, keepb HB0.out hb9⟩
  have h1' : decide ((300 : Int) < s.size) = false := decide_eq_false h1
  have hs1 : s.size ≤ 1000000 := by omega
  cases wd with
  | true =>
    go_wp2_with fail
    refine (HWD.out _ HB0.out).mono ?_
    rintro e w2 ⟨rfl, hb2⟩
    have HB2 := Lib.hid (keepb HB0.out hb2)
    clear hb2 o0 ol
    go_wp2_with fail
    refine (HAK.out _ HB2.out).mono ?_
    rintro e w9 ⟨rfl, hb9⟩
    go_wp2
    go_ret
    exact ⟨rfl, keepb HB2.out hb9⟩
  | false =>
    have HSM := Lib.hid (wide_sml HWQ.out (fun p hp => (HPW.out p hp).2))
    go_wp2_with fail
    refine (HWD.out _ HB0.out).mono ?_
    rintro e w2 ⟨rfl, hb2⟩
    have HB2 := Lib.hid (keepb HB0.out hb2)
    have HO2 := Lib.hid (HO0.out.under hb2 HO0.out.lt)
    have HP1 := Lib.hid (fun W => pparse_all s hs1 W)
    have HP2 := Lib.hid (fun W => qparse_all s hs1 W)
    have HLN := Lib.hid (okP_len s)
    generalize okE (qryO s) = e0 at *
    generalize okA (qryO s) = a0 at *
    generalize okP (qryO s) = R at *
    clear hb2 o0 ol HB0 HO0 HWD h1
    go_wp2_with fail
    refine (HP1.out _).mono ?_
    rintro e w3 ⟨⟨qo1, qc1, rfl, hq1⟩, hb3⟩
    have HB3 := Lib.hid (keepb HB2.out hb3)
    have HO3 := Lib.hid (HO2.out.under hb3 HO2.out.lt)
    clear hb3 HB2 HO2 HP1
    have hbl : Below w3.heap.size w3 ((w3.alloc (.cells #[.slice qo1 R.length qc1] 24)).alloc (.cells #[.int .i64 e0, .int .i64 a0, .int .i64 0, .int .i64 0] 29)) := ((Below.refl _ _).alloc (Nat.le_refl _) _).alloc (by simp) _
    have HOQ4 := Lib.hid ((Own.fresh w3 24 [.slice qo1 R.length qc1]).on_alloc (.cells #[.int .i64 e0, .int .i64 a0, .int .i64 0, .int .i64 0] 29))
    have hof := Own.fresh (w3.alloc (.cells #[.slice qo1 R.length qc1] 24)) 29 [.int .i64 e0, .int .i64 a0, .int .i64 0, .int .i64 0]
    rw [show (w3.alloc (.cells #[.slice qo1 R.length qc1] 24)).heap.size = w3.heap.size + 1 from by simp] at hof
    have HOF4 := Lib.hid hof
    have HB4 := Lib.hid (HB3.out.trans (hbl.mono HB3.out.size))
    clear hof
    have hbl4 := hbl
    clear hbl
    go_upto_region 4 with fail
    have e9 : (w3.alloc (.cells #[.slice qo1 R.length qc1] 24)).heap.size = w3.heap.size + 1 := by simp
    try rw [e9]
    clear e9
    generalize World.alloc (World.alloc w3 _) _ = w4 at *
    obtain ⟨X, hX⟩ : ∃ X, w3.heap.size = X := ⟨_, rfl⟩
    have HX4 := Lib.hid hX
    rw [hX] at HOQ4 HOF4
    try rw [hX]
    clear hX
    have HO4 := Lib.hid (HO3.out.under hbl4 HO3.out.lt)
    have HQ4 := Lib.hid (hq1.below hbl4)
    clear HO3 hbl4 hq1
    go_wp2_with fail
    refine (HP2.out _).mono ?_
    rintro e w5 ⟨⟨qo2, qc2, rfl, hq2⟩, hb5⟩
    have HB5 := Lib.hid (keepb HB4.out hb5)
    have HO5 := Lib.hid (HO4.out.under hb5 HO4.out.lt)
    have HOQ5 := Lib.hid (HOQ4.out.under hb5 HOQ4.out.lt)
    have HOF5 := Lib.hid (HOF4.out.under hb5 HOF4.out.lt)
    have HQ5 := Lib.hid (HQ4.out.below hb5)
    clear hb5 HB4 HO4 HP2 HOQ4 HOF4 HQ4
    have hbl : Below w5.heap.size w5 ((w5.alloc (.cells #[.slice qo2 R.length qc2] 24)).alloc (.cells #[.int .i64 e0, .int .i64 a0, .int .i64 0, .int .i64 0] 29)) := ((Below.refl _ _).alloc (Nat.le_refl _) _).alloc (by simp) _
    have HOQ6 := Lib.hid ((Own.fresh w5 24 [.slice qo2 R.length qc2]).on_alloc (.cells #[.int .i64 e0, .int .i64 a0, .int .i64 0, .int .i64 0] 29))
    have hof := Own.fresh (w5.alloc (.cells #[.slice qo2 R.length qc2] 24)) 29 [.int .i64 e0, .int .i64 a0, .int .i64 0, .int .i64 0]
    rw [show (w5.alloc (.cells #[.slice qo2 R.length qc2] 24)).heap.size = w5.heap.size + 1 from by simp] at hof
    have HOF6 := Lib.hid hof
    have HB6 := Lib.hid (HB5.out.trans (hbl.mono HB5.out.size))
    clear hof
    have hbl6 := hbl
    clear hbl
    go_upto_region 5 with fail
    have e9 : (w5.alloc (.cells #[.slice qo2 R.length qc2] 24)).heap.size = w5.heap.size + 1 := by simp
    try rw [e9]
    clear e9
    generalize World.alloc (World.alloc w5 _) _ = w6 at *
    obtain ⟨Y, hX⟩ : ∃ X, w5.heap.size = X := ⟨_, rfl⟩
    have HX6 := Lib.hid hX
    rw [hX] at HOQ6 HOF6
    try rw [hX]
    clear hX
    have HO6 := Lib.hid (HO5.out.under hbl6 HO5.out.lt)
    have HOQ7 := Lib.hid (HOQ5.out.under hbl6 HOQ5.out.lt)
    have HOF7 := Lib.hid (HOF5.out.under hbl6 HOF5.out.lt)
    have HQ6 := Lib.hid (HQ5.out.below hbl6)
    have HQ7 := Lib.hid (hq2.below hbl6)
    have HQ8 := Lib.hid (HQ.out.below HB6.out)
    have HT6 := Lib.hid (HT.out.below HB6.out)
    clear HO5 HOQ5 HOF5 HQ5 hq2 hbl6
    have CA := Lib.hid (fun (d : Nat) (os : Array Obj) => HAK.out (grow (redrawn w6 d) os) (HB6.out.trans ((below_regrown w6 d os).mono HB6.out.size)))
    have CS := Lib.hid (fun (d : Nat) (os : Array Obj) => rsameq_any R qo1 qo2 qc1 qc2 (by have := HLN.out.1; omega) (fun p hp => by have := HLN.out.2 p hp; omega) (grow (redrawn w6 d) os) (HQ6.out.below (below_regrown w6 d os)) (HQ7.out.below (below_regrown w6 d os)))
    have CP := Lib.hid (fun (d : Nat) (os : Array Obj) => pprint_any P qo qc HSM.out (grow (redrawn w6 d) os) (HQ8.out.below (below_regrown w6 d os)) (HT6.out.below (below_regrown w6 d os)))
    have CQ := Lib.hid (fun (d : Nat) (os : Array Obj) => rprint_any P qo qc HSM.out (grow (redrawn w6 d) os) (HQ8.out.below (below_regrown w6 d os)))
    have CR := Lib.hid (fun (d : Nat) (os : Array Obj) => qright_any P qo qc (by have := HSM.out.n; omega) HSM.out.nm (grow (redrawn w6 d) os) (HQ8.out.below (below_regrown w6 d os)))
    have CT := Lib.hid (fun (d : Nat) (os : Array Obj) => rqright_any P qo qc (by have := HSM.out.n; omega) HSM.out.nm (grow (redrawn w6 d) os) (HQ8.out.below (below_regrown w6 d os)))
    rw [HMM.out] at CP CQ CR CT
    generalize qpS P = PS0 at *
    generalize rightQ P = RQ at *
    obtain ⟨n, hn⟩ : ∃ n, R.length = n := ⟨_, rfl⟩
    rw [hn] at CS HOQ7 HOQ6
    rw [hn]
    have x0 : w6.cell? ⟨A, 0, none⟩ = some (.slice qo m qc) := HO6.out.cell 0
    have xl := HO6.out.lt
    have y0 : w6.cell? ⟨X, 0, none⟩ = some (.slice qo1 n qc1) := HOQ7.out.cell 0
    have yl := HOQ7.out.lt
    have z0 : w6.cell? ⟨Y, 0, none⟩ = some (.slice qo2 n qc2) := HOQ6.out.cell 0
    have zl := HOQ6.out.lt
    have f0 : w6.cell? ⟨X + 1, 0, none⟩ = some (.int .i64 e0) := HOF7.out.cell 0
    have f1 : w6.cell? ⟨X + 1, 1, none⟩ = some (.int .i64 a0) := HOF7.out.cell 1
    have f2 : w6.cell? ⟨X + 1, 2, none⟩ = some (.int .i64 0) := HOF7.out.cell 2
    have f3 : w6.cell? ⟨X + 1, 3, none⟩ = some (.int .i64 0) := HOF7.out.cell 3
    have fl := HOF7.out.lt
    have g0 : w6.cell? ⟨Y + 1, 0, none⟩ = some (.int .i64 e0) := HOF6.out.cell 0
    have g1 : w6.cell? ⟨Y + 1, 1, none⟩ = some (.int .i64 a0) := HOF6.out.cell 1
    have g2 : w6.cell? ⟨Y + 1, 2, none⟩ = some (.int .i64 0) := HOF6.out.cell 2
    have g3 : w6.cell? ⟨Y + 1, 3, none⟩ = some (.int .i64 0) := HOF6.out.cell 3
    have gl := HOF6.out.lt
    have rx0 := cell_regrown x0
    have ry0 := cell_regrown y0
    have rz0 := cell_regrown z0
    have rf0 := cell_regrown f0
    have rf1 := cell_regrown f1
    have rf2 := cell_regrown f2
    have rf3 := cell_regrown f3
    have rg0 := cell_regrown g0
    have rg1 := cell_regrown g1
    have rg2 := cell_regrown g2
    have rg3 := cell_regrown g3
    refine wp_region_quiet_below (by kernel_rfl) (by kernel_rfl) ?_
    repeat (go_big_quiet_step (first
      | (go_at_call 7; with_reducible exact Calls.regrown_of (CA.out _ _))
      | (go_at_call 10; with_reducible exact Calls.regrown_of (CS.out _ _))
      | (go_at_call 11; with_reducible exact Calls.regrown_of (CP.out _ _))
      | (go_at_call 12; with_reducible exact Calls.regrown_of (CQ.out _ _))
      | (go_at_call 13; with_reducible exact Calls.regrown_of (CR.out _ _))
      | (go_at_call 14; with_reducible exact Calls.regrown_of (CT.out _ _))))
    refine wpQuiet_nil ?_
    intro _ hw'
    obtain ⟨⟨dq, osq⟩, hw''⟩ := hw'
    subst hw''
    go_wp2
    go_ret
    exact ⟨rfl, keepb HB6.out (below_regrown _ _ _)⟩
end Go.Proofs.YtialpofiagiclaaDoor
