/- A step, as it is written: axisSign and hop of the program. -/
import Derived.Test.YtialpofiagiclaaDoorQpG
import Derived.Lib.ItoaLen
namespace Go.Proofs.YtialpofiagiclaaDoor
set_option linter.unusedVariables false
set_option maxRecDepth 1000000
open Go.RowKit Go.Sort

/-- The sign of an axis. -/
def axS (n : Int) : ByteArray := if n = 1 then ⟨#[47]⟩ else if n = 2 then ⟨#[47, 47]⟩ else if n = 3 then ⟨#[94]⟩ else if n = 4 then ⟨#[43]⟩ else ⟨#[]⟩
theorem axS_size (n : Int) : (axS n).size ≤ 2 := by
  unfold axS
  repeat' split
  all_goals decide
theorem kdS_size (n : Int) : (kdS n).size ≤ 6 := by
  unfold kdS
  repeat' split
  all_goals decide
set_option maxHeartbeats 800000 in
theorem axissign_any (n : Int) (w : World) : Calls Tryd.prog 39 #[.int .i64 n] w fun e w' => e = .returned (.string (axS n)) ∧ w' = w := by
  have H := Lib.hid (show axS n = if n = 1 then ⟨#[47]⟩ else if n = 2 then ⟨#[47, 47]⟩ else if n = 3 then ⟨#[94]⟩ else if n = 4 then ⟨#[43]⟩ else ⟨#[]⟩ from rfl)
  obtain ⟨r, hr⟩ : ∃ r, axS n = r := ⟨_, rfl⟩
  rw [hr] at H ⊢
  clear hr
  by_cases h1 : n = 1
  · subst h1
    go_enter Tryd.func39, Tryd.ntmps39
    go_wp2
    go_ret
    exact ⟨by rw [H.out]; rfl, rfl⟩
  · skip
    by_cases h2 : n = 2
    · subst h2
      go_enter Tryd.func39, Tryd.ntmps39
      go_wp2
      go_ret
      exact ⟨by rw [H.out]; rfl, rfl⟩
    · skip
      by_cases h3 : n = 3
      · subst h3
        go_enter Tryd.func39, Tryd.ntmps39
        go_wp2
        go_ret
        exact ⟨by rw [H.out]; rfl, rfl⟩
      · skip
        by_cases h4 : n = 4
        · subst h4
          go_enter Tryd.func39, Tryd.ntmps39
          go_wp2
          go_ret
          exact ⟨by rw [H.out]; rfl, rfl⟩
        · skip
          rw [if_neg h1, if_neg h2, if_neg h3, if_neg h4] at H
          go_enter Tryd.func39, Tryd.ntmps39
          go_wp2
          go_ret
          exact ⟨by rw [H.out]; rfl, rfl⟩

/-- A step, as it is written: its parts, one behind the other. -/
def hpA (x : Hp) : ByteArray := axS x.ax ++ (if x.nm.toList.isEmpty = true then kdS x.kd else x.nm)
def hpB (x : Hp) : ByteArray := if x.is.toList.isEmpty = true then hpA x else hpA x ++ (⟨#[61]⟩ ++ textS x.is)
def hpC (x : Hp) : ByteArray := if x.has.toList.isEmpty = true then hpB x else hpB x ++ (⟨#[126]⟩ ++ textS x.has)
def hpS (x : Hp) : ByteArray := if 0 < x.nth then hpC x ++ (⟨#[91]⟩ ++ ⟨(Lib.itoa x.nth).toArray⟩ ++ ⟨#[93]⟩) else hpC x
theorem textS_size (s : ByteArray) : (textS s).size ≤ 4 * s.size + 2 := by
  unfold textS
  rw [ofL_size, List.length_append]
  have := wrT_len s s.size
  simp only [List.length_cons, List.length_nil]
  omega
theorem itoa_size {n : Int} (h0 : -9223372036854775808 ≤ n) (h1 : n ≤ 9223372036854775807) : (⟨(Lib.itoa n).toArray⟩ : ByteArray).size ≤ 21 := by
  show (Lib.itoa n).toArray.size ≤ 21
  rw [List.size_toArray]
  exact Lib.itoa_length_le n h0 h1
/-- What may be written at all. -/
structure Sml (x : Hp) : Prop where
  nm : x.nm.size ≤ 60
  is : x.is.size ≤ 60
  has : x.has.size ≤ 60
  lo : -9223372036854775808 ≤ x.nth
  hi : x.nth ≤ 9223372036854775807
theorem hpA_size {x : Hp} (h : Sml x) : (hpA x).size ≤ 62 := by
  unfold hpA
  rw [ByteArray.size_append]
  have h1 := axS_size x.ax
  have h2 := kdS_size x.kd
  have h3 := h.nm
  split <;> omega
theorem hpB_size {x : Hp} (h : Sml x) : (hpB x).size ≤ 305 := by
  have h1 := hpA_size h
  unfold hpB
  split
  · omega
  · rw [ByteArray.size_append, ByteArray.size_append]
    have h2 := textS_size x.is
    have h3 := h.is
    have h4 : (⟨#[61]⟩ : ByteArray).size = 1 := rfl
    omega
theorem hpC_size {x : Hp} (h : Sml x) : (hpC x).size ≤ 548 := by
  have h1 := hpB_size h
  unfold hpC
  split
  · omega
  · rw [ByteArray.size_append, ByteArray.size_append]
    have h2 := textS_size x.has
    have h3 := h.has
    have h4 : (⟨#[126]⟩ : ByteArray).size = 1 := rfl
    omega
theorem hpS_size {x : Hp} (h : Sml x) : (hpS x).size ≤ 571 := by
  have h1 := hpC_size h
  unfold hpS
  split
  · rw [ByteArray.size_append, ByteArray.size_append, ByteArray.size_append]
    have h2 := itoa_size h.lo h.hi
    have h4 : (⟨#[91]⟩ : ByteArray).size = 1 := rfl
    have h5 : (⟨#[93]⟩ : ByteArray).size = 1 := rfl
    omega
  · omega
theorem tab_below {w w' : World} {name : String} {k : IntKind} {zs : List Int} (h : Lib.TabIs Tryd.prog w name k zs) (hb : Below w.heap.size w w') : Lib.TabIs Tryd.prog w' name k zs := by
  unfold Lib.TabIs World.var? at h ⊢
  cases hg : Tryd.prog.globalNamed name with
  | none => rw [hg] at h; cases h
  | some g =>
    rw [hg] at h
    have hlt : g < w.heap.size := by
      by_cases hl : g < w.heap.size
      · exact hl
      · have : w.heap[g]? = none := Array.getElem?_eq_none (by omega)
        simp only [Option.bind_some, this] at h
        cases h
    simp only [Option.bind_some] at h ⊢
    rw [hb.block g hlt]
    exact h
/-- Itoa's table, in a world. -/
def Tab (w : World) : Prop := Lib.TabIs Tryd.prog w "internal/strconv.uint64pow10" .u64 Lib.pow10Tab
theorem Tab.below {w w' : World} (h : Tab w) (hb : Below w.heap.size w w') : Tab w' := tab_below h hb
theorem itoa_any {n : Int} (h0 : -9223372036854775808 ≤ n) (h1 : n ≤ 9223372036854775807) (w : World) (h : Tab w) : Calls Tryd.prog 42 #[.int .i64 n] w fun e w' => e = .returned (.string ⟨(Lib.itoa n).toArray⟩) ∧ Below w.heap.size w w' :=
  (Tryd.strconv_Itoa n h0 h1 w h).mono fun e w' ⟨he, k, os, hw⟩ => ⟨he, by rw [hw]; exact ⟨rfl, rfl, rfl, by show w.heap.size ≤ (w.heap ++ os).size; rw [Array.size_append]; omega, fun j hj => by show (w.heap ++ os)[j]? = _; exact Array.getElem?_append_left hj⟩⟩

set_option maxRecDepth 1000000 in
set_option maxHeartbeats 3200000 in
theorem phop_any (x : Hp) (hs : Sml x) (w : World) (ht : Tab w) : Calls Tryd.prog 24 #[.agg #[.int .i64 x.ax, .int .i64 x.kd, .string x.nm, .string x.is, .string x.has, .int .i64 x.nth]] w fun e w' => e = .returned (.string (hpS x)) ∧ Below w.heap.size w w' := by
  have HS := Lib.hid hs
  obtain ⟨B, hB⟩ : ∃ B, w.heap.size = B := ⟨_, rfl⟩
  have HBW := Lib.hid hB
  have HT0 := Lib.hid ((show Tab w from ht).below ((Below.refl w.heap.size w).alloc (Nat.le_refl _) (.cells #[.int .i64 x.ax, .int .i64 x.kd, .string x.nm, .string x.is, .string x.has, .int .i64 x.nth] 38)))
  have HB0 := Lib.hid ((Below.refl w.heap.size w).alloc (Nat.le_refl _) (.cells #[.int .i64 x.ax, .int .i64 x.kd, .string x.nm, .string x.is, .string x.has, .int .i64 x.nth] 38))
  have HX0 := Lib.hid (show Hq (w.alloc (.cells #[.int .i64 x.ax, .int .i64 x.kd, .string x.nm, .string x.is, .string x.has, .int .i64 x.nth] 38)) w.heap.size x from Own.fresh w 38 [.int .i64 x.ax, .int .i64 x.kd, .string x.nm, .string x.is, .string x.has, .int .i64 x.nth])
  rw [hB] at HB0 HX0
  clear hs ht
  go_enter Tryd.func24, Tryd.ntmps24
  go_upto_region 1 with fail
  try rw [hB]
  generalize World.alloc w _ = w1 at *
  clear hB
  have g0 : w1.cell? ⟨B, 0, none⟩ = some (.int .i64 x.ax) := HX0.out.cell 0
  have g1 : w1.cell? ⟨B, 1, none⟩ = some (.int .i64 x.kd) := HX0.out.cell 1
  have g2 : w1.cell? ⟨B, 2, none⟩ = some (.string x.nm) := HX0.out.cell 2
  have g3 : w1.cell? ⟨B, 3, none⟩ = some (.string x.is) := HX0.out.cell 3
  have g4 : w1.cell? ⟨B, 4, none⟩ = some (.string x.has) := HX0.out.cell 4
  have g5 : w1.cell? ⟨B, 5, none⟩ = some (.int .i64 x.nth) := HX0.out.cell 5
  have gl := HX0.out.lt
  have l0 := axS_size x.ax
  have l1 := kdS_size x.kd
  have l2 := HS.out.nm
  go_wp2_with fail
  refine (axissign_any x.ax _).mono ?_
  rintro e w2 ⟨rfl, rfl⟩
  go_upto_if 9 with fail
  clear g0 g1 g2 g3 g4 g5 gl l0 l1 l2
  go_cut [3] (fun v3 wx => v3 = .string (hpA x) ∧ Hid (Hq wx B x) ∧ Hid (Below B w wx) ∧ Hid (Tab wx))
  case first =>
    have g0 : w2.cell? ⟨B, 0, none⟩ = some (.int .i64 x.ax) := HX0.out.cell 0
    have g1 : w2.cell? ⟨B, 1, none⟩ = some (.int .i64 x.kd) := HX0.out.cell 1
    have g2 : w2.cell? ⟨B, 2, none⟩ = some (.string x.nm) := HX0.out.cell 2
    have g3 : w2.cell? ⟨B, 3, none⟩ = some (.string x.is) := HX0.out.cell 3
    have g4 : w2.cell? ⟨B, 4, none⟩ = some (.string x.has) := HX0.out.cell 4
    have g5 : w2.cell? ⟨B, 5, none⟩ = some (.int .i64 x.nth) := HX0.out.cell 5
    have gl := HX0.out.lt
    have l0 := axS_size x.ax
    have l1 := kdS_size x.kd
    have l2 := HS.out.nm
    obtain ⟨z, hz⟩ : ∃ z, x.nm.toList.isEmpty = z := ⟨_, rfl⟩
    cases z with
    | true =>
      rw [hz]
      have HE := Lib.hid (show hpA x = axS x.ax ++ kdS x.kd from by unfold hpA; rw [if_pos hz])
      have HZ := Lib.hid hz
      generalize axS x.ax = pp at *
      go_wp2_with fail
      refine (kindword_any x.kd _).mono ?_
      rintro e w5 ⟨rfl, rfl⟩
      generalize kdS x.kd = tt at *
      go_wp2_with fail
      go_meet
      exact ⟨by rw [HE.out], HX0, HB0, HT0⟩
    | false =>
      rw [hz]
      have HE := Lib.hid (show hpA x = axS x.ax ++ x.nm from by unfold hpA; rw [if_neg (by rw [hz]; decide)])
      generalize axS x.ax = pp at *
      go_wp2_with fail
      go_meet
      exact ⟨by rw [HE.out], HX0, HB0, HT0⟩
  case rest =>
    obtain ⟨rfl, HX1, HB1, HT1⟩ := hcut
    clear HX0 HB0 HT0
    have g0 : wc.cell? ⟨B, 0, none⟩ = some (.int .i64 x.ax) := HX1.out.cell 0
    have g1 : wc.cell? ⟨B, 1, none⟩ = some (.int .i64 x.kd) := HX1.out.cell 1
    have g2 : wc.cell? ⟨B, 2, none⟩ = some (.string x.nm) := HX1.out.cell 2
    have g3 : wc.cell? ⟨B, 3, none⟩ = some (.string x.is) := HX1.out.cell 3
    have g4 : wc.cell? ⟨B, 4, none⟩ = some (.string x.has) := HX1.out.cell 4
    have g5 : wc.cell? ⟨B, 5, none⟩ = some (.int .i64 x.nth) := HX1.out.cell 5
    have gl := HX1.out.lt
    go_upto_if 21 with fail
    clear g0 g1 g2 g3 g4 g5 gl
    go_cut [3] (fun v3 wx => v3 = .string (hpB x) ∧ Hid (Hq wx B x) ∧ Hid (Below B w wx) ∧ Hid (Tab wx))
    case first =>
      have g0 : wc.cell? ⟨B, 0, none⟩ = some (.int .i64 x.ax) := HX1.out.cell 0
      have g1 : wc.cell? ⟨B, 1, none⟩ = some (.int .i64 x.kd) := HX1.out.cell 1
      have g2 : wc.cell? ⟨B, 2, none⟩ = some (.string x.nm) := HX1.out.cell 2
      have g3 : wc.cell? ⟨B, 3, none⟩ = some (.string x.is) := HX1.out.cell 3
      have g4 : wc.cell? ⟨B, 4, none⟩ = some (.string x.has) := HX1.out.cell 4
      have g5 : wc.cell? ⟨B, 5, none⟩ = some (.int .i64 x.nth) := HX1.out.cell 5
      have gl := HX1.out.lt
      obtain ⟨z, hz⟩ : ∃ z, x.is.toList.isEmpty = z := ⟨_, rfl⟩
      cases z with
      | true =>
        rw [hz]
        have HE := Lib.hid (show hpB x = hpA x from by unfold hpB; rw [if_pos hz])
        go_wp2_with fail
        go_meet
        exact ⟨by rw [HE.out], HX1, HB1, HT1⟩
      | false =>
        rw [hz]
        have HE := Lib.hid (show hpB x = hpA x ++ (⟨#[61]⟩ ++ textS x.is) from by unfold hpB; rw [if_neg (by rw [hz]; decide)])
        have hsz := hpA_size HS.out
        have htz := textS_size x.is
        have hfz := HS.out.is
        have HTX := Lib.hid (fun W => text_any x.is (by have := HS.out.is; omega) W)
        go_wp2_with fail
        refine (HTX.out _).mono ?_
        rintro e w5 ⟨rfl, hb5⟩
        have H5 := Lib.hid (HX1.out.under hb5 HX1.out.lt)
        have HB5 := Lib.hid (HB1.out.trans (hb5.mono (by rw [← HBW.out]; exact HB1.out.size)))
        have HT5 := Lib.hid (HT1.out.below hb5)
        clear g0 g1 g2 g3 g4 g5 gl
        clear hb5 HTX
        generalize textS x.is = tt at *
        generalize hpA x = pp at *
        go_wp2_with fail
        go_meet
        exact ⟨by rw [HE.out], H5, HB5, HT5⟩
    case rest =>
      obtain ⟨rfl, HX2, HB2, HT2⟩ := hcut
      clear HX1 HB1 HT1
      have g0 : wc.cell? ⟨B, 0, none⟩ = some (.int .i64 x.ax) := HX2.out.cell 0
      have g1 : wc.cell? ⟨B, 1, none⟩ = some (.int .i64 x.kd) := HX2.out.cell 1
      have g2 : wc.cell? ⟨B, 2, none⟩ = some (.string x.nm) := HX2.out.cell 2
      have g3 : wc.cell? ⟨B, 3, none⟩ = some (.string x.is) := HX2.out.cell 3
      have g4 : wc.cell? ⟨B, 4, none⟩ = some (.string x.has) := HX2.out.cell 4
      have g5 : wc.cell? ⟨B, 5, none⟩ = some (.int .i64 x.nth) := HX2.out.cell 5
      have gl := HX2.out.lt
      go_upto_if 30 with fail
      clear g0 g1 g2 g3 g4 g5 gl
      go_cut [3] (fun v3 wx => v3 = .string (hpC x) ∧ Hid (Hq wx B x) ∧ Hid (Below B w wx) ∧ Hid (Tab wx))
      case first =>
        have g0 : wc.cell? ⟨B, 0, none⟩ = some (.int .i64 x.ax) := HX2.out.cell 0
        have g1 : wc.cell? ⟨B, 1, none⟩ = some (.int .i64 x.kd) := HX2.out.cell 1
        have g2 : wc.cell? ⟨B, 2, none⟩ = some (.string x.nm) := HX2.out.cell 2
        have g3 : wc.cell? ⟨B, 3, none⟩ = some (.string x.is) := HX2.out.cell 3
        have g4 : wc.cell? ⟨B, 4, none⟩ = some (.string x.has) := HX2.out.cell 4
        have g5 : wc.cell? ⟨B, 5, none⟩ = some (.int .i64 x.nth) := HX2.out.cell 5
        have gl := HX2.out.lt
        obtain ⟨z, hz⟩ : ∃ z, x.has.toList.isEmpty = z := ⟨_, rfl⟩
        cases z with
        | true =>
          rw [hz]
          have HE := Lib.hid (show hpC x = hpB x from by unfold hpC; rw [if_pos hz])
          go_wp2_with fail
          go_meet
          exact ⟨by rw [HE.out], HX2, HB2, HT2⟩
        | false =>
          rw [hz]
          have HE := Lib.hid (show hpC x = hpB x ++ (⟨#[126]⟩ ++ textS x.has) from by unfold hpC; rw [if_neg (by rw [hz]; decide)])
          have hsz := hpB_size HS.out
          have htz := textS_size x.has
          have hfz := HS.out.has
          have HTX := Lib.hid (fun W => text_any x.has (by have := HS.out.has; omega) W)
          go_wp2_with fail
          refine (HTX.out _).mono ?_
          rintro e w5 ⟨rfl, hb5⟩
          have H5 := Lib.hid (HX2.out.under hb5 HX2.out.lt)
          have HB5 := Lib.hid (HB2.out.trans (hb5.mono (by rw [← HBW.out]; exact HB2.out.size)))
          have HT5 := Lib.hid (HT2.out.below hb5)
          clear g0 g1 g2 g3 g4 g5 gl
          clear hb5 HTX
          generalize textS x.has = tt at *
          generalize hpB x = pp at *
          go_wp2_with fail
          go_meet
          exact ⟨by rw [HE.out], H5, HB5, HT5⟩
      case rest =>
        obtain ⟨rfl, HX3, HB3, HT3⟩ := hcut
        clear HX2 HB2 HT2
        have g0 : wc.cell? ⟨B, 0, none⟩ = some (.int .i64 x.ax) := HX3.out.cell 0
        have g1 : wc.cell? ⟨B, 1, none⟩ = some (.int .i64 x.kd) := HX3.out.cell 1
        have g2 : wc.cell? ⟨B, 2, none⟩ = some (.string x.nm) := HX3.out.cell 2
        have g3 : wc.cell? ⟨B, 3, none⟩ = some (.string x.is) := HX3.out.cell 3
        have g4 : wc.cell? ⟨B, 4, none⟩ = some (.string x.has) := HX3.out.cell 4
        have g5 : wc.cell? ⟨B, 5, none⟩ = some (.int .i64 x.nth) := HX3.out.cell 5
        have gl := HX3.out.lt
        by_cases hz : 0 < x.nth
        · have HE := Lib.hid (show hpS x = hpC x ++ (⟨#[91]⟩ ++ ⟨(Lib.itoa x.nth).toArray⟩ ++ ⟨#[93]⟩) from by unfold hpS; rw [if_pos hz])
          have hsz := hpC_size HS.out
          have htz := itoa_size HS.out.lo HS.out.hi
          have HTX := Lib.hid (itoa_any HS.out.lo HS.out.hi wc HT3.out)
          go_wp2_with fail
          refine HTX.out.mono ?_
          rintro e w5 ⟨rfl, hb5⟩
          have HB5 := Lib.hid (HB3.out.trans (hb5.mono (by rw [← HBW.out]; exact HB3.out.size)))
          clear g0 g1 g2 g3 g4 g5 gl hb5 HTX
          generalize (⟨(Lib.itoa x.nth).toArray⟩ : ByteArray) = tt at *
          generalize hpC x = pp at *
          go_wp2
          go_ret
          exact ⟨ret_str HE.out.symm, by rw [HBW.out]; exact HB5.out⟩
        · have HE := Lib.hid (show hpS x = hpC x from by unfold hpS; rw [if_neg hz])
          go_wp2
          go_ret
          exact ⟨ret_str HE.out.symm, by rw [HBW.out]; exact HB3.out⟩
end Go.Proofs.YtialpofiagiclaaDoor
