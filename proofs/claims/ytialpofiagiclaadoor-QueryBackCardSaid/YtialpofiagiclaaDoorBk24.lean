/- A query that may be, as it is written, is parsed as it was: the walk of the law QueryBack. -/
import Derived.Test.YtialpofiagiclaaDoorTl24
namespace Go.Proofs.YtialpofiagiclaaDoor
set_option linter.unusedVariables false
set_option maxRecDepth 1000000
open Go.RowKit Go.Sort

theorem pback_any (P : List (List Hp)) (hr : rightQ P = true) (w : World) : Calls Tryd.prog 8 #[.string (qpS P)] w fun e w' => (∃ qo qc, e = .returned (.tuple #[.agg #[.slice qo P.length qc], .agg #[.int .i64 0, .int .i64 0, .int .i64 0, .int .i64 0]]) ∧ HasQ w' qo P) ∧ Below w.heap.size w w' := by
  have hsz : (qpS P).size ≤ 1000000 := by
    have h := pqp_len (right_sml hr).1
    have e : (qpS P).size = (qpL P).length := by show (qpL P).toArray.size = _; simp
    omega
  have h := pparse_any (qpS P) hsz w
  rw [qry_back hr] at h
  exact h.mono fun e w' h => ⟨h.1, h.2⟩
theorem back_math (s : ByteArray) : (okE (qryO s) = 0 ∧ okA (qryO s) = 0 ∧ rightQ (okP (qryO s)) = true) ∨ (okE (qryO s) ≠ 0 ∧ okP (qryO s) = [] ∧ 0 ≤ okA (qryO s) ∧ okA (qryO s) ≤ (s.size : Int)) := by
  cases h : qryO s with
  | ok P => exact .inl ⟨rfl, rfl, qry_right h⟩
  | error p =>
    have := qry_err h
    refine .inr ⟨?_, rfl, ?_, ?_⟩
    · simp only [okE]; omega
    · simp only [okA]; omega
    · simp only [okA]; omega

set_option maxRecDepth 1000000 in
set_option maxHeartbeats 6400000 in
theorem back24_walk (s : ByteArray) (hs : s.size ≤ maxLen) (P : List (List Hp)) (qo : Option Addr) (qc : Nat) (hP : P.length ≤ maxLen) (hPL : ∀ p ∈ P, p.length ≤ maxLen ∧ ∀ x ∈ p, Wfh x) (w : World) (hq : HasQ w qo P) (ht : Tab w) :
    Calls Tryd.prog 4 #[.string s, .agg #[.slice qo P.length qc]] w fun e w' => e = .returned (.bool true) ∧ Below w.heap.size w w' := by
  have HQ := Lib.hid hq
  have HT := Lib.hid ht
  have HPW := Lib.hid hPL
  have HWD := Lib.hid (fun W' (hb : Below w.heap.size w W') => wide_any P qo qc (by unfold maxLen at hP; omega) (fun p hp => by have := (hPL p hp).1; unfold maxLen at this; omega) W' (hq.below hb))
  have HB0 := Lib.hid ((Below.refl w.heap.size w).alloc (Nat.le_refl _) (.cells #[.slice qo P.length qc] 24))
  obtain ⟨A, hA⟩ : ∃ A, w.heap.size = A := ⟨_, rfl⟩
  have HAW := Lib.hid hA
  have HO0 := Lib.hid (Own.fresh' hA.symm 24 [.slice qo P.length qc])
  obtain ⟨m, hm⟩ : ∃ m, P.length = m := ⟨_, rfl⟩
  have HMM := Lib.hid hm
  rw [hm] at HO0 HB0 HWD hP ⊢
  have HAK := Lib.hid (fun W (hb : Below w.heap.size w W) => awake24_any W (ht.below hb))
  obtain ⟨wd, hwd⟩ : ∃ b, wideQ P = b := ⟨_, rfl⟩
  rw [hwd] at HWD
  have HWQ := Lib.hid hwd
  clear hq ht hPL hm hwd
  go_enter Tryd.func4, Tryd.ntmps4
  go_upto_region 1 with fail
  try rw [hA]
  generalize World.alloc w _ = w1 at *
  clear hA
  have o0 : w1.cell? ⟨A, 0, none⟩ = some (.slice qo m qc) := HO0.out.cell 0
  have ol := HO0.out.lt
  by_cases h1 : (300 : Int) < s.size
  · have h1' : decide ((300 : Int) < s.size) = true := decide_eq_true h1
    clear o0 ol
    go_wp2_with fail
    refine (HAK.out _ HB0.out).mono ?_
    rintro e w9 ⟨rfl, hb9⟩
    go_wp2
    go_ret
    exact ⟨rfl, keepb HB0.out hb9⟩
  have h1' : decide ((300 : Int) < s.size) = false := decide_eq_false h1
  have hs1 : s.size ≤ 1000000 := by omega
  cases wd with
  | true =>
    go_wp2_with fail
    refine (HWD.out _ HB0.out).mono ?_
    rintro e w2 ⟨rfl, hb2⟩
    have HB2 := Lib.hid (keepb HB0.out hb2)
    clear hb2 o0 ol
    go_wp2_with fail
    refine (HAK.out _ HB2.out).mono ?_
    rintro e w9 ⟨rfl, hb9⟩
    go_wp2
    go_ret
    exact ⟨rfl, keepb HB2.out hb9⟩
  | false =>
    have HSM := Lib.hid (wide_sml HWQ.out (fun p hp => (HPW.out p hp).2))
    go_wp2_with fail
    refine (HWD.out _ HB0.out).mono ?_
    rintro e w2 ⟨rfl, hb2⟩
    have HB2 := Lib.hid (keepb HB0.out hb2)
    have HO2 := Lib.hid (HO0.out.under hb2 HO0.out.lt)

    have HP1 := Lib.hid (fun W => pparse_all s hs1 W)
    have HM := Lib.hid (back_math s)
    have HLN := Lib.hid (okP_len s)
    have HT := Lib.hid (HT.out.below HB2.out)
    have HQ := Lib.hid (HQ.out.below HB2.out)
    have HO := Lib.hid HO2.out
    have HSR := Lib.hid (fun (h : rightQ (okP (qryO s)) = true) => (right_sml h).1)
    generalize okE (qryO s) = e1 at *
    generalize okA (qryO s) = a1 at *
    generalize okP (qryO s) = R1 at *
    have hsz : (s.size : Int) ≤ 300 := by omega
    clear hb2 o0 ol HB0 HO0 HWD h1 HO2
    go_wp2_with fail
    refine (HP1.out _).mono ?_
    rintro e w3 ⟨⟨qo1, qc1, rfl, hq1⟩, hb⟩
    have HBn := Lib.hid (keepb HB2.out hb)
    have HO := Lib.hid (HO.out.under hb HO.out.lt)
    have HT := Lib.hid (HT.out.below hb)
    have HQ := Lib.hid (HQ.out.below hb)
    clear hb
    have HB3 := Lib.hid HBn.out
    clear HBn
    have hq1 := hq1
    have hbl : Below w3.heap.size w3 ((w3.alloc (.cells #[.slice qo1 R1.length qc1] 24)).alloc (.cells #[.int .i64 e1, .int .i64 a1, .int .i64 0, .int .i64 0] 29)) := ((Below.refl _ _).alloc (Nat.le_refl _) _).alloc (by simp) _
    have HOQ4 := Lib.hid ((Own.fresh w3 24 [.slice qo1 R1.length qc1]).on_alloc (.cells #[.int .i64 e1, .int .i64 a1, .int .i64 0, .int .i64 0] 29))
    have hof := Own.fresh (w3.alloc (.cells #[.slice qo1 R1.length qc1] 24)) 29 [.int .i64 e1, .int .i64 a1, .int .i64 0, .int .i64 0]
    rw [show (w3.alloc (.cells #[.slice qo1 R1.length qc1] 24)).heap.size = w3.heap.size + 1 from by simp] at hof
    have HOF4 := Lib.hid hof
    have HB4 := Lib.hid (HB3.out.trans (hbl.mono HB3.out.size))
    clear hof
    have hbl4 := hbl
    clear hbl
    go_upto_region 4 with fail
    have e9 : (w3.alloc (.cells #[.slice qo1 R1.length qc1] 24)).heap.size = w3.heap.size + 1 := by simp
    try rw [e9]
    clear e9
    generalize World.alloc (World.alloc w3 _) _ = w4 at *
    obtain ⟨X, hX⟩ : ∃ X, w3.heap.size = X := ⟨_, rfl⟩
    have HX4 := Lib.hid hX
    rw [hX] at HOQ4 HOF4
    try rw [hX]
    clear hX
    have HO := Lib.hid (HO.out.under hbl4 HO.out.lt)
    have HT := Lib.hid (HT.out.below hbl4)
    have HQ := Lib.hid (HQ.out.below hbl4)
    have HOQX := Lib.hid HOQ4.out
    have HOFX := Lib.hid HOF4.out
    have HQX := Lib.hid (hq1.below hbl4)
    clear hbl4 hq1 HOQ4 HOF4
    have x0 : w4.cell? ⟨A, 0, none⟩ = some (.slice qo m qc) := HO.out.cell 0
    have x0l := HO.out.lt
    have y0 : w4.cell? ⟨X, 0, none⟩ = some (.slice qo1 R1.length qc1) := HOQX.out.cell 0
    have y0l := HOQX.out.lt
    have f0 : w4.cell? ⟨X + 1, 0, none⟩ = some (.int .i64 e1) := HOFX.out.cell 0
    have f0l := HOFX.out.lt
    have f1 : w4.cell? ⟨X + 1, 1, none⟩ = some (.int .i64 a1) := HOFX.out.cell 1
    have f1l := HOFX.out.lt
    rcases HM.out with ⟨hE, hA, hr⟩ | ⟨hE, hR, ha0, ha1⟩
    · subst hE
      subst hA
      have HR1 := Lib.hid (qright_any R1 qo1 qc1 (by have := HLN.out.1; omega) (HSR.out hr).nm w4 HQX.out)
      rw [hr] at HR1
      have HRR1 := Lib.hid hr
      have HSM1 := Lib.hid (HSR.out hr)
      clear hr
      go_wp2_with fail
      refine (HR1.out).mono ?_
      rintro e w5 ⟨rfl, hb⟩
      have HBn := Lib.hid (keepb HB4.out hb)
      have HO := Lib.hid (HO.out.under hb HO.out.lt)
      have HT := Lib.hid (HT.out.below hb)
      have HQ := Lib.hid (HQ.out.below hb)
      have HOQX := Lib.hid (HOQX.out.under hb HOQX.out.lt)
      have HOFX := Lib.hid (HOFX.out.under hb HOFX.out.lt)
      have HQX := Lib.hid (HQX.out.below hb)
      clear hb
      have HB5 := Lib.hid HBn.out
      clear HBn
      have y0 : w5.cell? ⟨X, 0, none⟩ = some (.slice qo1 R1.length qc1) := HOQX.out.cell 0
      have y0l := HOQX.out.lt
      have f0 : w5.cell? ⟨X + 1, 0, none⟩ = some (.int .i64 0) := HOFX.out.cell 0
      have f0l := HOFX.out.lt
      have f1 : w5.cell? ⟨X + 1, 1, none⟩ = some (.int .i64 0) := HOFX.out.cell 1
      have f1l := HOFX.out.lt
      have HPP := Lib.hid (pprint_any R1 qo1 qc1 HSM1.out w5 HQX.out HT.out)
      have HPB := Lib.hid (fun W => pback_any R1 HRR1.out W)
      have HSQ := Lib.hid (fun W q2 c2 (h1 : HasQ W qo1 R1) (h2 : HasQ W q2 R1) => rsameq_any R1 qo1 q2 qc1 c2 (by have := HLN.out.1; omega) (fun p hp => by have := HLN.out.2 p hp; omega) W h1 h2)
      generalize qpS R1 = PS1 at *
      go_wp2_with fail
      refine (HPP.out).mono ?_
      rintro e w6 ⟨rfl, hb⟩
      have HBn := Lib.hid (keepb HB5.out hb)
      have HO := Lib.hid (HO.out.under hb HO.out.lt)
      have HT := Lib.hid (HT.out.below hb)
      have HQ := Lib.hid (HQ.out.below hb)
      have HOQX := Lib.hid (HOQX.out.under hb HOQX.out.lt)
      have HOFX := Lib.hid (HOFX.out.under hb HOFX.out.lt)
      have HQX := Lib.hid (HQX.out.below hb)
      clear hb
      have HB6 := Lib.hid HBn.out
      clear HBn
      go_wp2_with fail
      refine (HPB.out _).mono ?_
      rintro e w7 ⟨⟨qo2, qc2, rfl, hq2⟩, hb⟩
      have HBn := Lib.hid (keepb HB6.out hb)
      have HO := Lib.hid (HO.out.under hb HO.out.lt)
      have HT := Lib.hid (HT.out.below hb)
      have HQ := Lib.hid (HQ.out.below hb)
      have HOQX := Lib.hid (HOQX.out.under hb HOQX.out.lt)
      have HOFX := Lib.hid (HOFX.out.under hb HOFX.out.lt)
      have HQX := Lib.hid (HQX.out.below hb)
      clear hb
      have HB7 := Lib.hid HBn.out
      clear HBn
      have hbl : Below w7.heap.size w7 ((w7.alloc (.cells #[.slice qo2 R1.length qc2] 24)).alloc (.cells #[.int .i64 0, .int .i64 0, .int .i64 0, .int .i64 0] 29)) := ((Below.refl _ _).alloc (Nat.le_refl _) _).alloc (by simp) _
      have HOQ8 := Lib.hid ((Own.fresh w7 24 [.slice qo2 R1.length qc2]).on_alloc (.cells #[.int .i64 0, .int .i64 0, .int .i64 0, .int .i64 0] 29))
      have hof := Own.fresh (w7.alloc (.cells #[.slice qo2 R1.length qc2] 24)) 29 [.int .i64 0, .int .i64 0, .int .i64 0, .int .i64 0]
      rw [show (w7.alloc (.cells #[.slice qo2 R1.length qc2] 24)).heap.size = w7.heap.size + 1 from by simp] at hof
      have HOF8 := Lib.hid hof
      have HB8 := Lib.hid (HB7.out.trans (hbl.mono HB7.out.size))
      clear hof
      have hbl8 := hbl
      clear hbl
      go_upto_region 8 with fail
      have e9 : (w7.alloc (.cells #[.slice qo2 R1.length qc2] 24)).heap.size = w7.heap.size + 1 := by simp
      try rw [e9]
      clear e9
      generalize World.alloc (World.alloc w7 _) _ = w8 at *
      obtain ⟨Y, hX⟩ : ∃ X, w7.heap.size = X := ⟨_, rfl⟩
      have HX8 := Lib.hid hX
      rw [hX] at HOQ8 HOF8
      try rw [hX]
      clear hX
      have HO := Lib.hid (HO.out.under hbl8 HO.out.lt)
      have HT := Lib.hid (HT.out.below hbl8)
      have HQ := Lib.hid (HQ.out.below hbl8)
      have HOQX := Lib.hid (HOQX.out.under hbl8 HOQX.out.lt)
      have HOFX := Lib.hid (HOFX.out.under hbl8 HOFX.out.lt)
      have HQX := Lib.hid (HQX.out.below hbl8)
      have HOQY := Lib.hid HOQ8.out
      have HOFY := Lib.hid HOF8.out
      have HQY := Lib.hid (hq2.below hbl8)
      clear hbl8 hq2 HOQ8 HOF8
      have y0 : w8.cell? ⟨X, 0, none⟩ = some (.slice qo1 R1.length qc1) := HOQX.out.cell 0
      have y0l := HOQX.out.lt
      have z0 : w8.cell? ⟨Y, 0, none⟩ = some (.slice qo2 R1.length qc2) := HOQY.out.cell 0
      have z0l := HOQY.out.lt
      have g0 : w8.cell? ⟨Y + 1, 0, none⟩ = some (.int .i64 0) := HOFY.out.cell 0
      have g0l := HOFY.out.lt
      have HSQ := Lib.hid (HSQ.out w8 qo2 qc2 HQX.out HQY.out)
      go_wp2_with fail
      refine (HSQ.out).mono ?_
      rintro e w9 ⟨rfl, hb⟩
      have HBn := Lib.hid (keepb HB8.out hb)
      have HO := Lib.hid (HO.out.under hb HO.out.lt)
      have HT := Lib.hid (HT.out.below hb)
      have HQ := Lib.hid (HQ.out.below hb)
      have HOQX := Lib.hid (HOQX.out.under hb HOQX.out.lt)
      have HOFX := Lib.hid (HOFX.out.under hb HOFX.out.lt)
      have HQX := Lib.hid (HQX.out.below hb)
      have HOQY := Lib.hid (HOQY.out.under hb HOQY.out.lt)
      have HOFY := Lib.hid (HOFY.out.under hb HOFY.out.lt)
      have HQY := Lib.hid (HQY.out.below hb)
      clear hb
      have HB9 := Lib.hid HBn.out
      clear HBn
      clear HSQ
      have x0 : w9.cell? ⟨A, 0, none⟩ = some (.slice qo m qc) := HO.out.cell 0
      have x0l := HO.out.lt
      have HRQ := Lib.hid (qright_any P qo qc (by have := HSM.out.n; omega) HSM.out.nm w9 HQ.out)
      rw [HMM.out] at HRQ
      obtain ⟨RQ, hRQ⟩ : ∃ b, rightQ P = b := ⟨_, rfl⟩
      rw [hRQ] at HRQ
      have HRR := Lib.hid hRQ
      clear hRQ
      go_wp2_with fail
      refine (HRQ.out).mono ?_
      rintro e w21 ⟨rfl, hb⟩
      have HBn := Lib.hid (keepb HB9.out hb)
      have HO := Lib.hid (HO.out.under hb HO.out.lt)
      have HT := Lib.hid (HT.out.below hb)
      have HQ := Lib.hid (HQ.out.below hb)
      clear hb
      have HB21 := Lib.hid HBn.out
      clear HBn
      clear HRQ
      cases RQ with
      | false =>
        go_wp2_with fail
        refine (HAK.out _ HB21.out).mono ?_
        rintro e w22 ⟨rfl, hb⟩
        have HBn := Lib.hid (keepb HB21.out hb)
        have HO := Lib.hid (HO.out.under hb HO.out.lt)
        have HT := Lib.hid (HT.out.below hb)
        have HQ := Lib.hid (HQ.out.below hb)
        clear hb
        have HB22 := Lib.hid HBn.out
        clear HBn
        go_wp2
        go_ret
        exact ⟨rfl, HB22.out⟩
      | true =>
        have x0 : w21.cell? ⟨A, 0, none⟩ = some (.slice qo m qc) := HO.out.cell 0
        have x0l := HO.out.lt
        have HPP := Lib.hid (pprint_any P qo qc HSM.out w21 HQ.out HT.out)
        rw [HMM.out] at HPP
        have HPB := Lib.hid (fun W => pback_any P HRR.out W)
        rw [HMM.out] at HPB
        have HSQ := Lib.hid (fun W q1 c1 (h1 : HasQ W q1 P) (h2 : HasQ W qo P) => rsameq_any P q1 qo c1 qc (by have := HSM.out.n; omega) (fun p hp => by have := HSM.out.p p hp; omega) W h1 h2)
        rw [HMM.out] at HSQ
        generalize qpS P = PS0 at *
        go_wp2_with fail
        refine (HPP.out).mono ?_
        rintro e w23 ⟨rfl, hb⟩
        have HBn := Lib.hid (keepb HB21.out hb)
        have HO := Lib.hid (HO.out.under hb HO.out.lt)
        have HT := Lib.hid (HT.out.below hb)
        have HQ := Lib.hid (HQ.out.below hb)
        clear hb
        have HB23 := Lib.hid HBn.out
        clear HBn
        clear HPP
        go_wp2_with fail
        refine (HPB.out _).mono ?_
        rintro e w24 ⟨⟨qo5, qc5, rfl, hq5⟩, hb⟩
        have HBn := Lib.hid (keepb HB23.out hb)
        have HO := Lib.hid (HO.out.under hb HO.out.lt)
        have HT := Lib.hid (HT.out.below hb)
        have HQ := Lib.hid (HQ.out.below hb)
        clear hb
        have HB24 := Lib.hid HBn.out
        clear HBn
        clear HPB
        have hbl : Below w24.heap.size w24 ((w24.alloc (.cells #[.slice qo5 m qc5] 24)).alloc (.cells #[.int .i64 0, .int .i64 0, .int .i64 0, .int .i64 0] 29)) := ((Below.refl _ _).alloc (Nat.le_refl _) _).alloc (by simp) _
        have HOQ25 := Lib.hid ((Own.fresh w24 24 [.slice qo5 m qc5]).on_alloc (.cells #[.int .i64 0, .int .i64 0, .int .i64 0, .int .i64 0] 29))
        have hof := Own.fresh (w24.alloc (.cells #[.slice qo5 m qc5] 24)) 29 [.int .i64 0, .int .i64 0, .int .i64 0, .int .i64 0]
        rw [show (w24.alloc (.cells #[.slice qo5 m qc5] 24)).heap.size = w24.heap.size + 1 from by simp] at hof
        have HOF25 := Lib.hid hof
        have HB25 := Lib.hid (HB24.out.trans (hbl.mono HB24.out.size))
        clear hof
        have hbl25 := hbl
        clear hbl
        go_upto_region 13 with fail
        have e9 : (w24.alloc (.cells #[.slice qo5 m qc5] 24)).heap.size = w24.heap.size + 1 := by simp
        try rw [e9]
        clear e9
        generalize World.alloc (World.alloc w24 _) _ = w25 at *
        obtain ⟨Z, hX⟩ : ∃ X, w24.heap.size = X := ⟨_, rfl⟩
        have HX25 := Lib.hid hX
        rw [hX] at HOQ25 HOF25
        try rw [hX]
        clear hX
        have HO := Lib.hid (HO.out.under hbl25 HO.out.lt)
        have HT := Lib.hid (HT.out.below hbl25)
        have HQ := Lib.hid (HQ.out.below hbl25)
        have HOQZ := Lib.hid HOQ25.out
        have HOFZ := Lib.hid HOF25.out
        have HQZ := Lib.hid (hq5.below hbl25)
        clear hbl25 hq5 HOQ25 HOF25
        go_wp2_with fail
        refine (HAK.out _ HB25.out).mono ?_
        rintro e w26 ⟨rfl, hb⟩
        have HBn := Lib.hid (keepb HB25.out hb)
        have HO := Lib.hid (HO.out.under hb HO.out.lt)
        have HT := Lib.hid (HT.out.below hb)
        have HQ := Lib.hid (HQ.out.below hb)
        have HOQZ := Lib.hid (HOQZ.out.under hb HOQZ.out.lt)
        have HOFZ := Lib.hid (HOFZ.out.under hb HOFZ.out.lt)
        have HQZ := Lib.hid (HQZ.out.below hb)
        clear hb
        have HB26 := Lib.hid HBn.out
        clear HBn
        have x0 : w26.cell? ⟨A, 0, none⟩ = some (.slice qo m qc) := HO.out.cell 0
        have x0l := HO.out.lt
        have z0 : w26.cell? ⟨Z, 0, none⟩ = some (.slice qo5 m qc5) := HOQZ.out.cell 0
        have z0l := HOQZ.out.lt
        have g0 : w26.cell? ⟨Z + 1, 0, none⟩ = some (.int .i64 0) := HOFZ.out.cell 0
        have g0l := HOFZ.out.lt
        have g1 : w26.cell? ⟨Z + 1, 1, none⟩ = some (.int .i64 0) := HOFZ.out.cell 1
        have g1l := HOFZ.out.lt
        have g2 : w26.cell? ⟨Z + 1, 2, none⟩ = some (.int .i64 0) := HOFZ.out.cell 2
        have g2l := HOFZ.out.lt
        have g3 : w26.cell? ⟨Z + 1, 3, none⟩ = some (.int .i64 0) := HOFZ.out.cell 3
        have g3l := HOFZ.out.lt
        have HSQ := Lib.hid (HSQ.out w26 qo5 qc5 HQZ.out HQ.out)
        go_wp2_with fail
        refine (HSQ.out).mono ?_
        rintro e w27 ⟨rfl, hb⟩
        have HBn := Lib.hid (keepb HB26.out hb)
        have HO := Lib.hid (HO.out.under hb HO.out.lt)
        have HT := Lib.hid (HT.out.below hb)
        have HQ := Lib.hid (HQ.out.below hb)
        have HOQZ := Lib.hid (HOQZ.out.under hb HOQZ.out.lt)
        have HOFZ := Lib.hid (HOFZ.out.under hb HOFZ.out.lt)
        have HQZ := Lib.hid (HQZ.out.below hb)
        clear hb
        have HB27 := Lib.hid HBn.out
        clear HBn
        go_wp2
        go_ret
        exact ⟨rfl, HB27.out⟩
    · subst hR
      have hE' : decide (e1 = 0) = false := decide_eq_false hE
      have ha0' : decide (a1 < 0) = false := decide_eq_false (by omega)
      have ha1' : decide ((s.size : Int) < a1) = false := decide_eq_false (by omega)
      simp only [List.length_nil] at y0
      have HRQ := Lib.hid (qright_any P qo qc (by have := HSM.out.n; omega) HSM.out.nm w4 HQ.out)
      rw [HMM.out] at HRQ
      obtain ⟨RQ, hRQ⟩ : ∃ b, rightQ P = b := ⟨_, rfl⟩
      rw [hRQ] at HRQ
      have HRR := Lib.hid hRQ
      clear hRQ
      go_wp2_with fail
      refine (HRQ.out).mono ?_
      rintro e w31 ⟨rfl, hb⟩
      have HBn := Lib.hid (keepb HB4.out hb)
      have HO := Lib.hid (HO.out.under hb HO.out.lt)
      have HT := Lib.hid (HT.out.below hb)
      have HQ := Lib.hid (HQ.out.below hb)
      clear hb
      have HB31 := Lib.hid HBn.out
      clear HBn
      clear HRQ
      cases RQ with
      | false =>
        go_wp2_with fail
        refine (HAK.out _ HB31.out).mono ?_
        rintro e w32 ⟨rfl, hb⟩
        have HBn := Lib.hid (keepb HB31.out hb)
        have HO := Lib.hid (HO.out.under hb HO.out.lt)
        have HT := Lib.hid (HT.out.below hb)
        have HQ := Lib.hid (HQ.out.below hb)
        clear hb
        have HB32 := Lib.hid HBn.out
        clear HBn
        go_wp2
        go_ret
        exact ⟨rfl, HB32.out⟩
      | true =>
        have x0 : w31.cell? ⟨A, 0, none⟩ = some (.slice qo m qc) := HO.out.cell 0
        have x0l := HO.out.lt
        have HPP := Lib.hid (pprint_any P qo qc HSM.out w31 HQ.out HT.out)
        rw [HMM.out] at HPP
        have HPB := Lib.hid (fun W => pback_any P HRR.out W)
        rw [HMM.out] at HPB
        have HSQ := Lib.hid (fun W q1 c1 (h1 : HasQ W q1 P) (h2 : HasQ W qo P) => rsameq_any P q1 qo c1 qc (by have := HSM.out.n; omega) (fun p hp => by have := HSM.out.p p hp; omega) W h1 h2)
        rw [HMM.out] at HSQ
        generalize qpS P = PS0 at *
        go_wp2_with fail
        refine (HPP.out).mono ?_
        rintro e w33 ⟨rfl, hb⟩
        have HBn := Lib.hid (keepb HB31.out hb)
        have HO := Lib.hid (HO.out.under hb HO.out.lt)
        have HT := Lib.hid (HT.out.below hb)
        have HQ := Lib.hid (HQ.out.below hb)
        clear hb
        have HB33 := Lib.hid HBn.out
        clear HBn
        clear HPP
        go_wp2_with fail
        refine (HPB.out _).mono ?_
        rintro e w34 ⟨⟨qo5, qc5, rfl, hq5⟩, hb⟩
        have HBn := Lib.hid (keepb HB33.out hb)
        have HO := Lib.hid (HO.out.under hb HO.out.lt)
        have HT := Lib.hid (HT.out.below hb)
        have HQ := Lib.hid (HQ.out.below hb)
        clear hb
        have HB34 := Lib.hid HBn.out
        clear HBn
        clear HPB
        have hbl : Below w34.heap.size w34 ((w34.alloc (.cells #[.slice qo5 m qc5] 24)).alloc (.cells #[.int .i64 0, .int .i64 0, .int .i64 0, .int .i64 0] 29)) := ((Below.refl _ _).alloc (Nat.le_refl _) _).alloc (by simp) _
        have HOQ35 := Lib.hid ((Own.fresh w34 24 [.slice qo5 m qc5]).on_alloc (.cells #[.int .i64 0, .int .i64 0, .int .i64 0, .int .i64 0] 29))
        have hof := Own.fresh (w34.alloc (.cells #[.slice qo5 m qc5] 24)) 29 [.int .i64 0, .int .i64 0, .int .i64 0, .int .i64 0]
        rw [show (w34.alloc (.cells #[.slice qo5 m qc5] 24)).heap.size = w34.heap.size + 1 from by simp] at hof
        have HOF35 := Lib.hid hof
        have HB35 := Lib.hid (HB34.out.trans (hbl.mono HB34.out.size))
        clear hof
        have hbl35 := hbl
        clear hbl
        go_upto_region 13 with fail
        have e9 : (w34.alloc (.cells #[.slice qo5 m qc5] 24)).heap.size = w34.heap.size + 1 := by simp
        try rw [e9]
        clear e9
        generalize World.alloc (World.alloc w34 _) _ = w35 at *
        obtain ⟨Z, hX⟩ : ∃ X, w34.heap.size = X := ⟨_, rfl⟩
        have HX35 := Lib.hid hX
        rw [hX] at HOQ35 HOF35
        try rw [hX]
        clear hX
        have HO := Lib.hid (HO.out.under hbl35 HO.out.lt)
        have HT := Lib.hid (HT.out.below hbl35)
        have HQ := Lib.hid (HQ.out.below hbl35)
        have HOQZ := Lib.hid HOQ35.out
        have HOFZ := Lib.hid HOF35.out
        have HQZ := Lib.hid (hq5.below hbl35)
        clear hbl35 hq5 HOQ35 HOF35
        go_wp2_with fail
        refine (HAK.out _ HB35.out).mono ?_
        rintro e w36 ⟨rfl, hb⟩
        have HBn := Lib.hid (keepb HB35.out hb)
        have HO := Lib.hid (HO.out.under hb HO.out.lt)
        have HT := Lib.hid (HT.out.below hb)
        have HQ := Lib.hid (HQ.out.below hb)
        have HOQZ := Lib.hid (HOQZ.out.under hb HOQZ.out.lt)
        have HOFZ := Lib.hid (HOFZ.out.under hb HOFZ.out.lt)
        have HQZ := Lib.hid (HQZ.out.below hb)
        clear hb
        have HB36 := Lib.hid HBn.out
        clear HBn
        have x0 : w36.cell? ⟨A, 0, none⟩ = some (.slice qo m qc) := HO.out.cell 0
        have x0l := HO.out.lt
        have z0 : w36.cell? ⟨Z, 0, none⟩ = some (.slice qo5 m qc5) := HOQZ.out.cell 0
        have z0l := HOQZ.out.lt
        have g0 : w36.cell? ⟨Z + 1, 0, none⟩ = some (.int .i64 0) := HOFZ.out.cell 0
        have g0l := HOFZ.out.lt
        have g1 : w36.cell? ⟨Z + 1, 1, none⟩ = some (.int .i64 0) := HOFZ.out.cell 1
        have g1l := HOFZ.out.lt
        have g2 : w36.cell? ⟨Z + 1, 2, none⟩ = some (.int .i64 0) := HOFZ.out.cell 2
        have g2l := HOFZ.out.lt
        have g3 : w36.cell? ⟨Z + 1, 3, none⟩ = some (.int .i64 0) := HOFZ.out.cell 3
        have g3l := HOFZ.out.lt
        have HSQ := Lib.hid (HSQ.out w36 qo5 qc5 HQZ.out HQ.out)
        go_wp2_with fail
        refine (HSQ.out).mono ?_
        rintro e w37 ⟨rfl, hb⟩
        have HBn := Lib.hid (keepb HB36.out hb)
        have HO := Lib.hid (HO.out.under hb HO.out.lt)
        have HT := Lib.hid (HT.out.below hb)
        have HQ := Lib.hid (HQ.out.below hb)
        have HOQZ := Lib.hid (HOQZ.out.under hb HOQZ.out.lt)
        have HOFZ := Lib.hid (HOFZ.out.under hb HOFZ.out.lt)
        have HQZ := Lib.hid (HQZ.out.below hb)
        clear hb
        have HB37 := Lib.hid HBn.out
        clear HBn
        go_wp2
        go_ret
        exact ⟨rfl, HB37.out⟩
end Go.Proofs.YtialpofiagiclaaDoor
