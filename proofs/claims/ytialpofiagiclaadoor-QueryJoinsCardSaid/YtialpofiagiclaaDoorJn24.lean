/- Two queries with a bar between are the paths of both: the walk of the law QueryJoins. -/
import Derived.Test.YtialpofiagiclaaDoorQpT
import Derived.Test.YtialpofiagiclaaDoorHw
namespace Go.Proofs.YtialpofiagiclaaDoor
set_option linter.unusedVariables false
set_option maxRecDepth 1000000
open Go.RowKit Go.Sort

set_option maxRecDepth 1000000 in
set_option maxHeartbeats 6400000 in
theorem joins24_walk (s : ByteArray) (hs : s.size ≤ maxLen) (t : ByteArray) (ht0 : t.size ≤ maxLen) (w : World) (ht : Tab w) :
    Calls Tryd.prog 5 #[.string s, .string t] w fun e w' => e = .returned (.bool true) ∧ Below w.heap.size w w' := by
  have HAK := Lib.hid (fun W (hb : Below w.heap.size w W) => awake24_any W (ht.below hb))
  have HB0 := Lib.hid (Below.refl w.heap.size w)
  clear ht hs ht0
  go_enter Tryd.func5, Tryd.ntmps5
  by_cases h1 : (200 : Int) < s.size
  · have h1' : decide ((200 : Int) < s.size) = true := decide_eq_true h1
    go_wp2_with fail
    refine (HAK.out _ HB0.out).mono ?_
    rintro e w9 ⟨rfl, hb9⟩
    go_wp2
    go_ret
    exact ⟨rfl, keepb HB0.out hb9⟩
  have h1' : decide ((200 : Int) < s.size) = false := decide_eq_false h1
  by_cases h2 : (200 : Int) < t.size
  · have h2' : decide ((200 : Int) < t.size) = true := decide_eq_true h2
    go_wp2_with fail
    refine (HAK.out _ HB0.out).mono ?_
    rintro e w9 ⟨rfl, hb9⟩
    go_wp2
    go_ret
    exact ⟨rfl, keepb HB0.out hb9⟩
  have h2' : decide ((200 : Int) < t.size) = false := decide_eq_false h2
  have hsS : (s.size : Int) ≤ 200 := by omega
  have hsT : (t.size : Int) ≤ 200 := by omega
  have hsB : (⟨#[124]⟩ : ByteArray).size = 1 := rfl
  have hsU : ((s ++ ⟨#[124]⟩ : ByteArray).size : Int) ≤ 201 := by rw [ByteArray.size_append, hsB]; omega
  have HP1 := Lib.hid (fun W => pparse_all s (by omega) W)
  have HP2 := Lib.hid (fun W => pparse_all t (by omega) W)
  have HP3 := Lib.hid (fun W => pparse_all (s ++ ⟨#[124]⟩ ++ t) (by rw [ByteArray.size_append, ByteArray.size_append, hsB]; omega) W)
  have HJ := Lib.hid (joins_math s t)
  generalize okE (qryO s) = e1 at *
  generalize okA (qryO s) = a1 at *
  generalize okP (qryO s) = R1 at *
  generalize okE (qryO t) = e2 at *
  generalize okA (qryO t) = a2 at *
  generalize okP (qryO t) = R2 at *
  generalize okE (qryO (s ++ ⟨#[124]⟩ ++ t)) = e3 at *
  generalize okA (qryO (s ++ ⟨#[124]⟩ ++ t)) = a3 at *
  generalize okP (qryO (s ++ ⟨#[124]⟩ ++ t)) = R3 at *
  go_wp2_with fail
  refine (HP1.out _).mono ?_
  rintro e w1 ⟨⟨qo1, qc1, rfl, hq1⟩, hb1⟩
  have HB1 := Lib.hid (keepb HB0.out hb1)
  clear hb1 HP1
  have hbl : Below w1.heap.size w1 ((w1.alloc (.cells #[.slice qo1 R1.length qc1] 24)).alloc (.cells #[.int .i64 e1, .int .i64 a1, .int .i64 0, .int .i64 0] 29)) := ((Below.refl _ _).alloc (Nat.le_refl _) _).alloc (by simp) _
  have HOQ2 := Lib.hid ((Own.fresh w1 24 [.slice qo1 R1.length qc1]).on_alloc (.cells #[.int .i64 e1, .int .i64 a1, .int .i64 0, .int .i64 0] 29))
  have hof := Own.fresh (w1.alloc (.cells #[.slice qo1 R1.length qc1] 24)) 29 [.int .i64 e1, .int .i64 a1, .int .i64 0, .int .i64 0]
  rw [show (w1.alloc (.cells #[.slice qo1 R1.length qc1] 24)).heap.size = w1.heap.size + 1 from by simp] at hof
  have HOF2 := Lib.hid hof
  have HB2 := Lib.hid (HB1.out.trans (hbl.mono HB1.out.size))
  clear hof
  have hbl2 := hbl
  clear hbl
  go_upto_region 4 with fail
  have e9 : (w1.alloc (.cells #[.slice qo1 R1.length qc1] 24)).heap.size = w1.heap.size + 1 := by simp
  try rw [e9]
  clear e9
  generalize World.alloc (World.alloc w1 _) _ = w2 at *
  obtain ⟨X, hX⟩ : ∃ X, w1.heap.size = X := ⟨_, rfl⟩
  have HX2 := Lib.hid hX
  rw [hX] at HOQ2 HOF2
  try rw [hX]
  clear hX
  have HOQX := Lib.hid HOQ2.out
  have HOFX := Lib.hid HOF2.out
  have HQX := Lib.hid (hq1.below hbl2)
  clear hbl2 hq1 HOQ2 HOF2
  go_wp2_with fail
  refine (HP2.out _).mono ?_
  rintro e w3 ⟨⟨qo2, qc2, rfl, hq2⟩, hb3⟩
  have HB3 := Lib.hid (keepb HB2.out hb3)
  have HOQX := Lib.hid (HOQX.out.under hb3 HOQX.out.lt)
  have HOFX := Lib.hid (HOFX.out.under hb3 HOFX.out.lt)
  have HQX := Lib.hid (HQX.out.below hb3)
  clear hb3 HP2
  have hbl : Below w3.heap.size w3 ((w3.alloc (.cells #[.slice qo2 R2.length qc2] 24)).alloc (.cells #[.int .i64 e2, .int .i64 a2, .int .i64 0, .int .i64 0] 29)) := ((Below.refl _ _).alloc (Nat.le_refl _) _).alloc (by simp) _
  have HOQ4 := Lib.hid ((Own.fresh w3 24 [.slice qo2 R2.length qc2]).on_alloc (.cells #[.int .i64 e2, .int .i64 a2, .int .i64 0, .int .i64 0] 29))
  have hof := Own.fresh (w3.alloc (.cells #[.slice qo2 R2.length qc2] 24)) 29 [.int .i64 e2, .int .i64 a2, .int .i64 0, .int .i64 0]
  rw [show (w3.alloc (.cells #[.slice qo2 R2.length qc2] 24)).heap.size = w3.heap.size + 1 from by simp] at hof
  have HOF4 := Lib.hid hof
  have HB4 := Lib.hid (HB3.out.trans (hbl.mono HB3.out.size))
  clear hof
  have hbl4 := hbl
  clear hbl
  go_upto_region 5 with fail
  have e9 : (w3.alloc (.cells #[.slice qo2 R2.length qc2] 24)).heap.size = w3.heap.size + 1 := by simp
  try rw [e9]
  clear e9
  generalize World.alloc (World.alloc w3 _) _ = w4 at *
  obtain ⟨Y, hX⟩ : ∃ X, w3.heap.size = X := ⟨_, rfl⟩
  have HX4 := Lib.hid hX
  rw [hX] at HOQ4 HOF4
  try rw [hX]
  clear hX
  have HOQX := Lib.hid (HOQX.out.under hbl4 HOQX.out.lt)
  have HOFX := Lib.hid (HOFX.out.under hbl4 HOFX.out.lt)
  have HQX := Lib.hid (HQX.out.below hbl4)
  have HOQY := Lib.hid HOQ4.out
  have HOFY := Lib.hid HOF4.out
  have HQY := Lib.hid (hq2.below hbl4)
  clear hbl4 hq2 HOQ4 HOF4
  go_wp2_with fail
  refine (HP3.out _).mono ?_
  rintro e w5 ⟨⟨qo3, qc3, rfl, hq3⟩, hb5⟩
  have HB5 := Lib.hid (keepb HB4.out hb5)
  have HOQX := Lib.hid (HOQX.out.under hb5 HOQX.out.lt)
  have HOFX := Lib.hid (HOFX.out.under hb5 HOFX.out.lt)
  have HQX := Lib.hid (HQX.out.below hb5)
  have HOQY := Lib.hid (HOQY.out.under hb5 HOQY.out.lt)
  have HOFY := Lib.hid (HOFY.out.under hb5 HOFY.out.lt)
  have HQY := Lib.hid (HQY.out.below hb5)
  clear hb5 HP3
  have hbl : Below w5.heap.size w5 ((w5.alloc (.cells #[.slice qo3 R3.length qc3] 24)).alloc (.cells #[.int .i64 e3, .int .i64 a3, .int .i64 0, .int .i64 0] 29)) := ((Below.refl _ _).alloc (Nat.le_refl _) _).alloc (by simp) _
  have HOQ6 := Lib.hid ((Own.fresh w5 24 [.slice qo3 R3.length qc3]).on_alloc (.cells #[.int .i64 e3, .int .i64 a3, .int .i64 0, .int .i64 0] 29))
  have hof := Own.fresh (w5.alloc (.cells #[.slice qo3 R3.length qc3] 24)) 29 [.int .i64 e3, .int .i64 a3, .int .i64 0, .int .i64 0]
  rw [show (w5.alloc (.cells #[.slice qo3 R3.length qc3] 24)).heap.size = w5.heap.size + 1 from by simp] at hof
  have HOF6 := Lib.hid hof
  have HB6 := Lib.hid (HB5.out.trans (hbl.mono HB5.out.size))
  clear hof
  have hbl6 := hbl
  clear hbl
  go_upto_region 6 with fail
  have e9 : (w5.alloc (.cells #[.slice qo3 R3.length qc3] 24)).heap.size = w5.heap.size + 1 := by simp
  try rw [e9]
  clear e9
  generalize World.alloc (World.alloc w5 _) _ = w6 at *
  obtain ⟨Z, hX⟩ : ∃ X, w5.heap.size = X := ⟨_, rfl⟩
  have HX6 := Lib.hid hX
  rw [hX] at HOQ6 HOF6
  try rw [hX]
  clear hX
  have HOQX := Lib.hid (HOQX.out.under hbl6 HOQX.out.lt)
  have HOFX := Lib.hid (HOFX.out.under hbl6 HOFX.out.lt)
  have HQX := Lib.hid (HQX.out.below hbl6)
  have HOQY := Lib.hid (HOQY.out.under hbl6 HOQY.out.lt)
  have HOFY := Lib.hid (HOFY.out.under hbl6 HOFY.out.lt)
  have HQY := Lib.hid (HQY.out.below hbl6)
  have HOQZ := Lib.hid HOQ6.out
  have HOFZ := Lib.hid HOF6.out
  have HQZ := Lib.hid (hq3.below hbl6)
  clear hbl6 hq3 HOQ6 HOF6
  have xq : w6.cell? ⟨X, 0, none⟩ = some (.slice qo1 R1.length qc1) := HOQX.out.cell 0
  have xql := HOQX.out.lt
  have x0 : w6.cell? ⟨X + 1, 0, none⟩ = some (.int .i64 e1) := HOFX.out.cell 0
  have xfl := HOFX.out.lt
  have yq : w6.cell? ⟨Y, 0, none⟩ = some (.slice qo2 R2.length qc2) := HOQY.out.cell 0
  have yql := HOQY.out.lt
  have y0 : w6.cell? ⟨Y + 1, 0, none⟩ = some (.int .i64 e2) := HOFY.out.cell 0
  have yfl := HOFY.out.lt
  by_cases hE1 : e1 = 0
  case neg =>
    have hE1' : decide (e1 = 0) = false := decide_eq_false hE1
    go_wp2_with fail
    refine (HAK.out _ HB6.out).mono ?_
    rintro e w9 ⟨rfl, hb9⟩
    go_wp2
    go_ret
    exact ⟨rfl, keepb HB6.out hb9⟩
  by_cases hE2 : e2 = 0
  case neg =>
    have hE2' : decide (e2 = 0) = false := decide_eq_false hE2
    subst hE1
    go_wp2_with fail
    refine (HAK.out _ HB6.out).mono ?_
    rintro e w9 ⟨rfl, hb9⟩
    go_wp2
    go_ret
    exact ⟨rfl, keepb HB6.out hb9⟩
  obtain ⟨⟨ha1, ha8⟩, ⟨hb1, hb8, hL1, hL2⟩, hle, hgt⟩ := HJ.out hE1 hE2
  clear HJ
  subst hE1
  subst hE2
  have HL1 := Lib.hid hL1
  have HL2 := Lib.hid hL2
  clear hL1 hL2
  by_cases h8 : 8 < R1.length + R2.length
  · obtain rfl := hgt h8
    have h8' : decide ((8 : Int) < (R1.length : Int) + (R2.length : Int)) = true := decide_eq_true (by omega)
    clear hle hgt
    go_wp2_with fail
    refine (HAK.out _ HB6.out).mono ?_
    rintro e w9 ⟨rfl, hb9⟩
    have HO9 := HOFZ.out.under hb9 HOFZ.out.lt
    have z0 : w9.cell? ⟨Z + 1, 0, none⟩ = some (.int .i64 3) := HO9.cell 0
    have zl := HO9.lt
    have HB9 := Lib.hid (keepb HB6.out hb9)
    clear hb9 HO9
    go_wp2
    go_ret
    exact ⟨rfl, HB9.out⟩
  obtain ⟨rfl, rfl, rfl⟩ := hle (by omega)
  have h8' : decide ((8 : Int) < (R1.length : Int) + (R2.length : Int)) = false := decide_eq_false (by omega)
  clear hle hgt
  have hR3 : (R1 ++ R2).length = R1.length + R2.length := List.length_append
  obtain ⟨n1, hn1⟩ : ∃ n, R1.length = n := ⟨_, rfl⟩
  obtain ⟨n2, hn2⟩ : ∃ n, R2.length = n := ⟨_, rfl⟩
  rw [hn1, hn2] at hR3
  obtain ⟨X1, hX1⟩ := HQX.out.vals (by omega)
  obtain ⟨X2, hX2⟩ := HQY.out.vals (by omega)
  have HS1 := Lib.hid hX1
  have HS2 := Lib.hid hX2
  have HQC := Lib.hid (fun v W S e (hb : Below w6.heap.size w6 W) (hw : Win S e 1 W v (n1 + n2) (X1 ++ X2)) => (SlQ.app (HS1.out.1.below hb) (HS2.out.1.below hb)).hasq hw hR3.symm (by omega))
  have HSM := Lib.hid (fun W q1 c1 q2 c2 (h1 : HasQ W q1 (R1 ++ R2)) (h2 : HasQ W q2 (R1 ++ R2)) => rsameq_any (R1 ++ R2) q1 q2 c1 c2 (by omega) (fun p hp => by rcases List.mem_append.1 hp with h | h; have := HL1.out p h; omega; have := HL2.out p h; omega) W h1 h2)
  rw [hn1] at xq HS1
  rw [hn2] at yq HS2
  simp only [hn1, hn2] at h8 h8' ha1 ha8 hb1 hb8
  have zq : w6.cell? ⟨Z, 0, none⟩ = some (.slice qo3 (R1 ++ R2).length qc3) := HOQZ.out.cell 0
  have zql := HOQZ.out.lt
  have z0 : w6.cell? ⟨Z + 1, 0, none⟩ = some (.int .i64 0) := HOFZ.out.cell 0
  have z1 : w6.cell? ⟨Z + 1, 1, none⟩ = some (.int .i64 0) := HOFZ.out.cell 1
  have z2 : w6.cell? ⟨Z + 1, 2, none⟩ = some (.int .i64 0) := HOFZ.out.cell 2
  have z3 : w6.cell? ⟨Z + 1, 3, none⟩ = some (.int .i64 0) := HOFZ.out.cell 3
  have zfl := HOFZ.out.lt
  rw [hR3] at zq HSM HQC
  have HQ3 := Lib.hid HQZ.out
  generalize R1 ++ R2 = R3 at *
  clear hX1 hX2 hn1 hn2 hR3 HL1 HL2
  go_upto_region 10 with fail
  have HC := Lib.hid (And.intro xq (And.intro yq (And.intro zq (And.intro z0 (And.intro z1 (And.intro z2 (And.intro z3 (And.intro xql (And.intro yql (And.intro zql zfl))))))))))
  clear xq yq zq z0 z1 z2 z3 xql yql zql zfl x0 y0 xfl yfl
  obtain ⟨ip, hi2, hi3, hi4, hi5⟩ := info_parts9 info_path
  have HIP := Lib.hid (And.intro hi2 (And.intro hi3 (And.intro hi4 hi5)))
  clear hi2 hi3 hi4 hi5
  refine wp_region_heldTz (fun Wx => Below w6.heap.size w6 Wx) 18 (by kernel_rfl) ?_
  have HS := Lib.hid (show Below w6.heap.size w6 (World.drew w6) from (Below.refl _ _).drew)
  refine heldTz.one (i := 0) (by kernel_rfl) (op_call (f := 7) (vs := #[]) rfl (by kernel_rfl) (by go_simp) ((HAK.out _ (keepb HB6.out HS.out)).mono ?_))
  rintro e v1 ⟨he, hb⟩
  refine ⟨_, he, .inr (.inr (HS.out.trans (hb.mono HS.out.size))), ?_⟩
  have HS := Lib.hid (HS.out.trans (hb.mono HS.out.size))
  clear hb he
  go_simp
  refine heldTz.pure 1 rfl (v := ?_) (Or.inl ⟨by rfl, ?_⟩) HS.out ?_; rotate_left; · intro W _; go_simp; try with_reducible rfl
  go_simp
  refine heldTz.takeD 2 [4, 5, 6, 7, 8, 9, 10, 11, 12, 13, 14, 15, 16, 17, 18] rfl (v := ?_) (Or.inl ⟨by rfl, ?_⟩) HS.out ?_; rotate_left; · intro W hW; obtain ⟨c0, c1, c2, c3, c4, c5, c6, l0, l1, l2, l3⟩ := HC.out; have c0 := keepc c0 hW; have c1 := keepc c1 hW; have c2 := keepc c2 hW; have c3 := keepc c3 hW; have c4 := keepc c4 hW; have c5 := keepc c5 hW; have c6 := keepc c6 hW; have l0 := Nat.lt_of_lt_of_le l0 hW.size; have l1 := Nat.lt_of_lt_of_le l1 hW.size; have l2 := Nat.lt_of_lt_of_le l2 hW.size; have l3 := Nat.lt_of_lt_of_le l3 hW.size; go_simp; try with_reducible rfl
  go_simp
  refine heldTz.pure 3 rfl (v := ?_) (Or.inl ⟨by rfl, ?_⟩) HS.out ?_; rotate_left; · intro W _; go_simp; try with_reducible rfl
  go_simp
  refine heldTz.pure 4 rfl (v := ?_) (Or.inl ⟨by rfl, ?_⟩) HS.out ?_; rotate_left; · intro W _; go_simp; try with_reducible rfl
  go_simp
  refine heldTz.pure 5 rfl (v := ?_) (Or.inl ⟨by rfl, ?_⟩) HS.out ?_; rotate_left; · intro W _; go_simp; try with_reducible rfl
  go_simp
  refine heldTz.pure 6 rfl (v := ?_) (Or.inl ⟨by rfl, ?_⟩) HS.out ?_; rotate_left; · intro W _; go_simp; try with_reducible rfl
  go_simp
  refine heldTz.takeD 7 [16, 17, 18] rfl (v := ?_) (Or.inl ⟨by rfl, ?_⟩) HS.out ?_; rotate_left; · intro W hW; obtain ⟨c0, c1, c2, c3, c4, c5, c6, l0, l1, l2, l3⟩ := HC.out; have c0 := keepc c0 hW; have c1 := keepc c1 hW; have c2 := keepc c2 hW; have c3 := keepc c3 hW; have c4 := keepc c4 hW; have c5 := keepc c5 hW; have c6 := keepc c6 hW; have l0 := Nat.lt_of_lt_of_le l0 hW.size; have l1 := Nat.lt_of_lt_of_le l1 hW.size; have l2 := Nat.lt_of_lt_of_le l2 hW.size; have l3 := Nat.lt_of_lt_of_le l3 hW.size; go_simp; try with_reducible rfl
  go_simp
  refine heldTz.pure 9 rfl (v := ?_) (Or.inl ⟨by rfl, ?_⟩) HS.out ?_; rotate_left; · intro W _; go_simp; try with_reducible rfl
  go_simp
  refine heldTz.takeD 10 [11, 14, 15, 16, 17, 18] rfl (v := ?_) (Or.inl ⟨by rfl, ?_⟩) HS.out ?_; rotate_left; · intro W hW; obtain ⟨c0, c1, c2, c3, c4, c5, c6, l0, l1, l2, l3⟩ := HC.out; have c0 := keepc c0 hW; have c1 := keepc c1 hW; have c2 := keepc c2 hW; have c3 := keepc c3 hW; have c4 := keepc c4 hW; have c5 := keepc c5 hW; have c6 := keepc c6 hW; have l0 := Nat.lt_of_lt_of_le l0 hW.size; have l1 := Nat.lt_of_lt_of_le l1 hW.size; have l2 := Nat.lt_of_lt_of_le l2 hW.size; have l3 := Nat.lt_of_lt_of_le l3 hW.size; go_simp; try with_reducible rfl
  go_simp
  refine heldTz.pure 12 rfl (v := ?_) (Or.inl ⟨by rfl, ?_⟩) HS.out ?_; rotate_left; · intro W _; go_simp; try with_reducible rfl
  go_simp
  refine heldTz.takeD 13 [14, 15, 16, 17, 18] rfl (v := ?_) (Or.inl ⟨by rfl, ?_⟩) HS.out ?_; rotate_left; · intro W hW; obtain ⟨c0, c1, c2, c3, c4, c5, c6, l0, l1, l2, l3⟩ := HC.out; have c0 := keepc c0 hW; have c1 := keepc c1 hW; have c2 := keepc c2 hW; have c3 := keepc c3 hW; have c4 := keepc c4 hW; have c5 := keepc c5 hW; have c6 := keepc c6 hW; have l0 := Nat.lt_of_lt_of_le l0 hW.size; have l1 := Nat.lt_of_lt_of_le l1 hW.size; have l2 := Nat.lt_of_lt_of_le l2 hW.size; have l3 := Nat.lt_of_lt_of_le l3 hW.size; go_simp; try with_reducible rfl
  go_simp
  refine heldTz.one (i := 8) (by kernel_rfl) (op_value (v := .slice (some ⟨v1.heap.size, 0, none⟩) 0 0) (w' := v1.alloc (.cells #[] 36)) rfl (by kernel_rfl) (by go_simp; try rfl) ?_)
  have hbl : Below v1.heap.size v1 (v1.alloc (.cells #[] 36)) := (Below.refl _ _).alloc (Nat.le_refl _) _
  refine ⟨.inr (.inr (HS.out.trans (hbl.mono HS.out.size))), ?_⟩
  have HW := Lib.hid (win_zero v1)
  have HSV := Lib.hid HS.out
  have HS := Lib.hid (HS.out.trans (hbl.mono HS.out.size))
  obtain ⟨D, hD⟩ : ∃ D, v1.heap.size = D := ⟨_, rfl⟩
  have HD := Lib.hid (show w6.heap.size ≤ D from by rw [← hD]; exact HSV.out.size)
  have HD2 := Lib.hid (show D ≤ (v1.alloc (.cells #[] 36)).heap.size from by rw [← hD]; exact hbl.size)
  rw [hD] at HW
  generalize v1.alloc _ = v2 at *
  try rw [hD]
  clear hbl hD
  go_simp
  obtain ⟨hi2, hi3, hi4, hi5⟩ := HIP.out
  refine heldTz.one (i := 11) (by kernel_rfl) (op_appq rfl (by kernel_rfl) _ _ 22 22 rfl (fun g => D ≤ g) 36 ip (.slice none 0 0) 1 24 Tryd.underlying22 hi2 hi3 hi4 hi5 rfl (by decide) (.slice (some ⟨D, 0, none⟩) 0 0) 0 [] (by go_simp; try rfl) HW.out (.slice qo1 n1 qc1) n1 X1 (by go_simp; try rfl) ((HS1.out.2.below HS.out).src qc1) (by unfold maxLen; omega) (by omega) ?_)
  intro v3 w7 hw7 hbt
  have HS' := Lib.hid (hbt.below (B := w6.heap.size) HS.out.size (fun g hg => Nat.le_trans HD.out hg))
  have HS := Lib.hid (HS.out.trans HS'.out)
  refine ⟨.inr (.inr HS.out), ?_⟩
  have HW := Lib.hid (hw7.mono (T := fun g => D ≤ g) (fun g _ h => h.elim id (fun h => Nat.le_trans HD2.out h)))
  have HD2 := Lib.hid (Nat.le_trans HD2.out hbt.size)
  clear hw7 hbt
  go_simp
  refine heldTz.one (i := 14) (by kernel_rfl) (op_appq rfl (by kernel_rfl) _ _ 22 22 rfl (fun g => D ≤ g) 36 ip (.slice none 0 0) 1 24 Tryd.underlying22 hi2 hi3 hi4 hi5 rfl (by decide) v3 (0 + n1) ([] ++ X1) (by go_simp; try rfl) HW.out (.slice qo2 n2 qc2) n2 X2 (by go_simp; try rfl) ((HS2.out.2.below HS.out).src qc2) (by unfold maxLen; omega) (by omega) ?_)
  intro v4 w8 hw8 hbt
  have HS' := Lib.hid (hbt.below (B := w6.heap.size) HS.out.size (fun g hg => Nat.le_trans HD.out hg))
  have HS := Lib.hid (HS.out.trans HS'.out)
  refine ⟨.inr (.inr HS.out), ?_⟩
  rw [Nat.zero_add, List.nil_append] at hw8
  obtain ⟨qo4, qc4, rfl, hq4⟩ := HQC.out _ _ _ _ HS.out hw8
  have HQ4 := Lib.hid hq4
  clear hw8 hbt hq4
  go_simp
  refine heldTz.pure 15 rfl (v := ?_) (Or.inl ⟨by rfl, ?_⟩) HS.out ?_; rotate_left; · intro W _; go_simp; try with_reducible rfl
  go_simp
  have HSA := Lib.hid (HSM.out w8 qo3 qc3 qo4 qc4 (HQ3.out.below HS.out) HQ4.out)
  refine heldTz.one (i := 16) (by kernel_rfl) (op_call (f := 10) (vs := #[.agg #[.slice qo3 (n1 + n2) qc3], .agg #[.slice qo4 (n1 + n2) qc4]]) rfl (by kernel_rfl) (by go_simp) (HSA.out.mono ?_))
  rintro e w9 ⟨he, hb⟩
  refine ⟨_, he, .inr (.inr (HS.out.trans (hb.mono HS.out.size))), ?_⟩
  have HS := Lib.hid (HS.out.trans (hb.mono HS.out.size))
  clear hb he
  go_simp
  refine heldTz.pure 17 rfl (v := ?_) (Or.inl ⟨by rfl, ?_⟩) HS.out ?_; rotate_left; · intro W _; go_simp; try with_reducible rfl
  go_simp
  refine heldTz.one (i := 18) (by kernel_rfl) (op_value (v := .bool true) (w' := w9) rfl (by kernel_rfl) (by go_simp; try rfl) ?_)
  refine ⟨.inr (.inr HS.out), ?_⟩
  go_simp
  refine heldTz.done (by kernel_rfl) ?_ _
  have HE := Lib.hid (keepb HB6.out HS.out)
  go_simp
  try go_wp2
  go_ret
  exact ⟨rfl, HE.out⟩
end Go.Proofs.YtialpofiagiclaaDoor
