/- The reference's hop: a step, as it is written. -/
import Derived.Test.YtialpofiagiclaaDoorQpJ
namespace Go.Proofs.YtialpofiagiclaaDoor
set_option linter.unusedVariables false
set_option maxRecDepth 1000000
open Go.RowKit Go.Sort

theorem ax_at {n : Int} (h : 1 ≤ n ∧ n ≤ 4) : ([.string ⟨#[]⟩, .string ⟨#[47]⟩, .string ⟨#[47, 47]⟩, .string ⟨#[94]⟩, .string ⟨#[43]⟩] : List Value)[n.toNat]? = some (.string (axS n)) := by
  have h : n = 1 ∨ n = 2 ∨ n = 3 ∨ n = 4 := by omega
  rcases h with rfl | rfl | rfl | rfl <;> rfl
theorem kd_at {n : Int} (h : 1 ≤ n ∧ n ≤ 5) : ([.string ⟨#[]⟩, .string ⟨#[35, 114, 117, 108, 101]⟩, .string ⟨#[35, 108, 97, 98, 101, 108]⟩, .string ⟨#[35, 115, 101, 97]⟩, .string ⟨#[35, 116, 101, 120, 116]⟩, .string ⟨#[35, 119, 97, 116, 101, 114]⟩] : List Value)[n.toNat]? = some (.string (kdS n)) := by
  have h : n = 1 ∨ n = 2 ∨ n = 3 ∨ n = 4 ∨ n = 5 := by omega
  rcases h with rfl | rfl | rfl | rfl | rfl <;> rfl
theorem axS_none {n : Int} (h : ¬ (1 ≤ n ∧ n ≤ 4)) : axS n = ⟨#[]⟩ := by
  unfold axS
  rw [if_neg (by omega), if_neg (by omega), if_neg (by omega), if_neg (by omega)]
theorem kdS_none {n : Int} (h : ¬ (1 ≤ n ∧ n ≤ 5)) : kdS n = ⟨#[42]⟩ := by
  unfold kdS
  rw [if_neg (by omega), if_neg (by omega), if_neg (by omega), if_neg (by omega), if_neg (by omega)]
set_option maxHeartbeats 400000 in
theorem axes_any (w : World) : Calls Tryd.prog 44 #[] w fun e w' => ∃ q, e = .returned (.slice (some ⟨q, 0, none⟩) 5 5) ∧ Own w' q 9 [.string ⟨#[]⟩, .string ⟨#[47]⟩, .string ⟨#[47, 47]⟩, .string ⟨#[94]⟩, .string ⟨#[43]⟩] ∧ Below w.heap.size w w' := by
  have H1 := Lib.hid (Own.fresh w 9 [.string ⟨#[]⟩, .string ⟨#[47]⟩, .string ⟨#[47, 47]⟩, .string ⟨#[94]⟩, .string ⟨#[43]⟩])
  have H2 := Lib.hid ((Below.refl w.heap.size w).alloc (Nat.le_refl _) (.cells #[.string ⟨#[]⟩, .string ⟨#[47]⟩, .string ⟨#[47, 47]⟩, .string ⟨#[94]⟩, .string ⟨#[43]⟩] 9))
  go_enter Tryd.func44, Tryd.ntmps44
  go_wp2
  go_ret
  exact ⟨_, rfl, H1.out, H2.out⟩
theorem app3 (a b c : ByteArray) : a ++ b ++ c = a ++ (b ++ c) := by
  apply bytes_eq
  simp [ByteArray.data_append, Array.append_assoc]
theorem decS_itoa {n : Int} (h : 0 ≤ n) : (⟨(Lib.itoa n).toArray⟩ : ByteArray) = decS n.toNat := by
  obtain ⟨k, rfl⟩ : ∃ k : Nat, n = (k : Int) := ⟨n.toNat, by omega⟩
  rw [Lib.itoa_nonneg, Int.toNat_natCast]
  rfl

set_option maxRecDepth 1000000 in
set_option maxHeartbeats 6400000 in
theorem rhop_any (x : Hp) (hs : Sml x) (w : World) : Calls Tryd.prog 27 #[.agg #[.int .i64 x.ax, .int .i64 x.kd, .string x.nm, .string x.is, .string x.has, .int .i64 x.nth]] w fun e w' => e = .returned (.string (hpS x)) ∧ Below w.heap.size w w' := by
  have HS := Lib.hid hs
  obtain ⟨B, hB⟩ : ∃ B, w.heap.size = B := ⟨_, rfl⟩
  have HBW := Lib.hid hB
  have HB0 := Lib.hid ((Below.refl w.heap.size w).alloc (Nat.le_refl _) (.cells #[.int .i64 x.ax, .int .i64 x.kd, .string x.nm, .string x.is, .string x.has, .int .i64 x.nth] 38))
  have HX0 := Lib.hid (show Hq (w.alloc (.cells #[.int .i64 x.ax, .int .i64 x.kd, .string x.nm, .string x.is, .string x.has, .int .i64 x.nth] 38)) w.heap.size x from Own.fresh w 38 [.int .i64 x.ax, .int .i64 x.kd, .string x.nm, .string x.is, .string x.has, .int .i64 x.nth])
  rw [hB] at HB0 HX0
  clear hs
  go_enter Tryd.func27, Tryd.ntmps27
  go_upto_region 1 with fail
  try rw [hB]
  generalize World.alloc w _ = w1 at *
  clear hB
  have g0 : w1.cell? ⟨B, 0, none⟩ = some (.int .i64 x.ax) := HX0.out.cell 0
  have g1 : w1.cell? ⟨B, 1, none⟩ = some (.int .i64 x.kd) := HX0.out.cell 1
  have g2 : w1.cell? ⟨B, 2, none⟩ = some (.string x.nm) := HX0.out.cell 2
  have g3 : w1.cell? ⟨B, 3, none⟩ = some (.string x.is) := HX0.out.cell 3
  have g4 : w1.cell? ⟨B, 4, none⟩ = some (.string x.has) := HX0.out.cell 4
  have g5 : w1.cell? ⟨B, 5, none⟩ = some (.int .i64 x.nth) := HX0.out.cell 5
  have gl := HX0.out.lt
  go_upto_region 2 with fail
  clear g0 g1 g2 g3 g4 g5 gl
  obtain ⟨bb, hbb⟩ : ∃ bb, (decide (1 ≤ x.ax) && decide (x.ax ≤ 4)) = bb := ⟨_, rfl⟩
  go_cut [11] (fun c wx => c = .bool bb ∧ w1 = wx)
  case first =>
    have g0 : w1.cell? ⟨B, 0, none⟩ = some (.int .i64 x.ax) := HX0.out.cell 0
    have g1 : w1.cell? ⟨B, 1, none⟩ = some (.int .i64 x.kd) := HX0.out.cell 1
    have g2 : w1.cell? ⟨B, 2, none⟩ = some (.string x.nm) := HX0.out.cell 2
    have g3 : w1.cell? ⟨B, 3, none⟩ = some (.string x.is) := HX0.out.cell 3
    have g4 : w1.cell? ⟨B, 4, none⟩ = some (.string x.has) := HX0.out.cell 4
    have g5 : w1.cell? ⟨B, 5, none⟩ = some (.int .i64 x.nth) := HX0.out.cell 5
    have gl := HX0.out.lt
    by_cases h1 : 1 ≤ x.ax
    · by_cases h2 : x.ax ≤ 4
      · have hbt : bb = true := by rw [← hbb, decide_eq_true h1, decide_eq_true h2]; rfl
        subst hbt
        clear hbb
        go_wp2_with fail
        go_meet
        exact ⟨rfl, rfl⟩
      · have hbt : bb = false := by rw [← hbb, decide_eq_false h2, Bool.and_false]
        subst hbt
        clear hbb
        go_wp2_with fail
        go_meet
        exact ⟨rfl, rfl⟩
    · have hbt : bb = false := by rw [← hbb, decide_eq_false h1, Bool.false_and]
      subst hbt
      clear hbb
      go_wp2_with fail
      go_meet
      exact ⟨rfl, rfl⟩
  case rest =>
    obtain ⟨rfl, rfl⟩ := hcut
    have HBBX := Lib.hid hbb
    clear hbb
    go_upto_if 11 with fail
    go_cut [3] (fun v3 wx => v3 = .string (axS x.ax) ∧ Hid (Hq wx B x) ∧ Hid (Below B w wx))
    case first =>
      cases bb with
      | true =>
        have hax : 1 ≤ x.ax ∧ x.ax ≤ 4 := by have h := HBBX.out; simpa using h
        have g0 : w1.cell? ⟨B, 0, none⟩ = some (.int .i64 x.ax) := HX0.out.cell 0
        have g1 : w1.cell? ⟨B, 1, none⟩ = some (.int .i64 x.kd) := HX0.out.cell 1
        have g2 : w1.cell? ⟨B, 2, none⟩ = some (.string x.nm) := HX0.out.cell 2
        have g3 : w1.cell? ⟨B, 3, none⟩ = some (.string x.is) := HX0.out.cell 3
        have g4 : w1.cell? ⟨B, 4, none⟩ = some (.string x.has) := HX0.out.cell 4
        have g5 : w1.cell? ⟨B, 5, none⟩ = some (.int .i64 x.nth) := HX0.out.cell 5
        have gl := HX0.out.lt
        have hj0 : 0 ≤ x.ax := by omega
        have hj4 : x.ax < 5 := by omega
        have HAT := Lib.hid (ax_at hax)
        clear hax
        have H0 := Lib.hid (show Hq w1.drew B x from HX0.out.on_drew)
        have HBD := Lib.hid HB0.out.drew
        go_upto_region 3 with fail
        clear g0 g1 g2 g3 g4 g5 gl
        have k0 : w1.cell? ⟨B, 0, none⟩ = some (.int .i64 x.ax) := HX0.out.cell 0
        have kl := HX0.out.lt
        go_region_law ((go_simp; first
          | (go_at_call 44; refine (axes_any _).mono ?_; rintro e w5 ⟨q, rfl, hq, hb⟩
             have H5 := Lib.hid (H0.out.under hb H0.out.lt)
             have HB5 := Lib.hid (HBD.out.trans (hb.mono (by rw [← HBW.out]; exact HBD.out.size)))
             have hcq : w5.cell? ⟨q, x.ax.toNat, none⟩ = some (.string (axS x.ax)) := by rw [hq.cell x.ax.toNat]; exact HAT.out
             have hql := hq.lt
             have k0 : w5.cell? ⟨B, 0, none⟩ = some (.int .i64 x.ax) := H5.out.cell 0
             have kl := H5.out.lt
             clear hq hb)
          | skip))
        all_goals (go_wp2_with fail)
        all_goals go_meet
        all_goals exact ⟨rfl, H5, HB5⟩
      | false =>
        have hax : ¬ (1 ≤ x.ax ∧ x.ax ≤ 4) := by have h := HBBX.out; intro ⟨h1, h2⟩; rw [decide_eq_true h1, decide_eq_true h2] at h; cases h
        have HE := Lib.hid (axS_none hax)
        clear hax
        go_wp2_with fail
        go_meet
        exact ⟨by rw [HE.out], HX0, HB0⟩
    case rest =>
      obtain ⟨rfl, HX1, HB1⟩ := hcut
      clear HX0 HB0
      have g0 : wc.cell? ⟨B, 0, none⟩ = some (.int .i64 x.ax) := HX1.out.cell 0
      have g1 : wc.cell? ⟨B, 1, none⟩ = some (.int .i64 x.kd) := HX1.out.cell 1
      have g2 : wc.cell? ⟨B, 2, none⟩ = some (.string x.nm) := HX1.out.cell 2
      have g3 : wc.cell? ⟨B, 3, none⟩ = some (.string x.is) := HX1.out.cell 3
      have g4 : wc.cell? ⟨B, 4, none⟩ = some (.string x.has) := HX1.out.cell 4
      have g5 : wc.cell? ⟨B, 5, none⟩ = some (.int .i64 x.nth) := HX1.out.cell 5
      have gl := HX1.out.lt
      go_upto_block 0 with fail
      clear g0 g1 g2 g3 g4 g5 gl
      go_cut [3] (fun v3 wx => v3 = .string (hpA x) ∧ Hid (Hq wx B x) ∧ Hid (Below B w wx))
      case first =>
        have g0 : wc.cell? ⟨B, 0, none⟩ = some (.int .i64 x.ax) := HX1.out.cell 0
        have g1 : wc.cell? ⟨B, 1, none⟩ = some (.int .i64 x.kd) := HX1.out.cell 1
        have g2 : wc.cell? ⟨B, 2, none⟩ = some (.string x.nm) := HX1.out.cell 2
        have g3 : wc.cell? ⟨B, 3, none⟩ = some (.string x.is) := HX1.out.cell 3
        have g4 : wc.cell? ⟨B, 4, none⟩ = some (.string x.has) := HX1.out.cell 4
        have g5 : wc.cell? ⟨B, 5, none⟩ = some (.int .i64 x.nth) := HX1.out.cell 5
        have gl := HX1.out.lt
        have l0 := axS_size x.ax
        have l2 := HS.out.nm
        obtain ⟨z, hz⟩ : ∃ z, x.nm.toList.isEmpty = z := ⟨_, rfl⟩
        cases z with
        | false =>
          have HE := Lib.hid (show hpA x = axS x.ax ++ x.nm from by unfold hpA; rw [if_neg (by rw [hz]; decide)])
          generalize axS x.ax = pp at *
          go_wp2_with fail
          go_meet
          exact ⟨by rw [HE.out], HX1, HB1⟩
        | true =>
          have HE := Lib.hid (show hpA x = axS x.ax ++ kdS x.kd from by unfold hpA; rw [if_pos hz])
          generalize axS x.ax = pp at *
          by_cases h1 : 1 ≤ x.kd
          · by_cases h2 : x.kd ≤ 5
            · have hj0 : 0 ≤ x.kd := by omega
              have hj4 : x.kd < 6 := by omega
              have HAT := Lib.hid (kd_at ⟨h1, h2⟩)
              have H0 := Lib.hid (show Hq wc.drew B x from HX1.out.on_drew)
              have HBD := Lib.hid HB1.out.drew
              have hks := kdS_size x.kd
              generalize kdS x.kd = tt at *
              have hsm : ¬ 9223372036854775807 < pp.size + tt.size := by omega
              go_upto_region 8 with fail
              go_region_law ((go_simp; first
                | (go_at_call 36; refine (kinds_any _).mono ?_; rintro e w5 ⟨q, rfl, hq, hb⟩
                   have H5 := Lib.hid (H0.out.under hb H0.out.lt)
                   have HB5 := Lib.hid (HBD.out.trans (hb.mono (by rw [← HBW.out]; exact HBD.out.size)))
                   have hcq : w5.cell? ⟨q, x.kd.toNat, none⟩ = some (.string tt) := by rw [hq.cell x.kd.toNat]; exact HAT.out
                   have hql := hq.lt
                   have k1 : w5.cell? ⟨B, 1, none⟩ = some (.int .i64 x.kd) := H5.out.cell 1
                   have kl := H5.out.lt
                   clear hq hb)
                | skip))
              all_goals (go_wp2_with fail)
              all_goals go_meet
              all_goals exact ⟨by rw [HE.out], H5, HB5⟩
            · have HE2 := Lib.hid (kdS_none (n := x.kd) (by omega))
              go_wp2_with fail
              go_meet
              exact ⟨by rw [HE.out, HE2.out], HX1, HB1⟩
          · have HE2 := Lib.hid (kdS_none (n := x.kd) (by omega))
            go_wp2_with fail
            go_meet
            exact ⟨by rw [HE.out, HE2.out], HX1, HB1⟩
      case rest =>
        obtain ⟨rfl, HX2, HB2⟩ := hcut
        clear HX1 HB1
        have g0 : wc.cell? ⟨B, 0, none⟩ = some (.int .i64 x.ax) := HX2.out.cell 0
        have g1 : wc.cell? ⟨B, 1, none⟩ = some (.int .i64 x.kd) := HX2.out.cell 1
        have g2 : wc.cell? ⟨B, 2, none⟩ = some (.string x.nm) := HX2.out.cell 2
        have g3 : wc.cell? ⟨B, 3, none⟩ = some (.string x.is) := HX2.out.cell 3
        have g4 : wc.cell? ⟨B, 4, none⟩ = some (.string x.has) := HX2.out.cell 4
        have g5 : wc.cell? ⟨B, 5, none⟩ = some (.int .i64 x.nth) := HX2.out.cell 5
        have gl := HX2.out.lt
        go_upto_if 45 with fail
        clear g0 g1 g2 g3 g4 g5 gl
        go_cut [3] (fun v3 wx => v3 = .string (hpB x) ∧ Hid (Hq wx B x) ∧ Hid (Below B w wx))
        case first =>
          have g0 : wc.cell? ⟨B, 0, none⟩ = some (.int .i64 x.ax) := HX2.out.cell 0
          have g1 : wc.cell? ⟨B, 1, none⟩ = some (.int .i64 x.kd) := HX2.out.cell 1
          have g2 : wc.cell? ⟨B, 2, none⟩ = some (.string x.nm) := HX2.out.cell 2
          have g3 : wc.cell? ⟨B, 3, none⟩ = some (.string x.is) := HX2.out.cell 3
          have g4 : wc.cell? ⟨B, 4, none⟩ = some (.string x.has) := HX2.out.cell 4
          have g5 : wc.cell? ⟨B, 5, none⟩ = some (.int .i64 x.nth) := HX2.out.cell 5
          have gl := HX2.out.lt
          obtain ⟨z, hz⟩ : ∃ z, x.is.toList.isEmpty = z := ⟨_, rfl⟩
          cases z with
          | true =>
            rw [hz]
            have HE := Lib.hid (show hpB x = hpA x from by unfold hpB; rw [if_pos hz])
            go_wp2_with fail
            go_meet
            exact ⟨by rw [HE.out], HX2, HB2⟩
          | false =>
            rw [hz]
            have HE := Lib.hid (show hpB x = hpA x ++ ⟨#[61]⟩ ++ textS x.is from by unfold hpB; rw [if_neg (by rw [hz]; decide), app3])
            have hsz := hpA_size HS.out
            have htz := textS_size x.is
            have hfz := HS.out.is
            have HTX := Lib.hid (fun W => rtext_any x.is (by have := HS.out.is; omega) W)
            generalize hpA x = pp at *
            have hpz : (pp ++ (⟨#[61]⟩ : ByteArray)).size ≤ 1000 := by rw [ByteArray.size_append]; have : (⟨#[61]⟩ : ByteArray).size = 1 := rfl; omega
            go_wp2_with fail
            refine (HTX.out _).mono ?_
            rintro e w5 ⟨rfl, hb5⟩
            have H5 := Lib.hid (HX2.out.under hb5 HX2.out.lt)
            have HB5 := Lib.hid (HB2.out.trans (hb5.mono (by rw [← HBW.out]; exact HB2.out.size)))
            clear g0 g1 g2 g3 g4 g5 gl
            clear hb5 HTX
            generalize textS x.is = tt at *
            generalize pp ++ (⟨#[61]⟩ : ByteArray) = pq at *
            go_wp2_with fail
            go_meet
            exact ⟨by rw [HE.out], H5, HB5⟩
        case rest =>
          obtain ⟨rfl, HX3, HB3⟩ := hcut
          clear HX2 HB2
          have g0 : wc.cell? ⟨B, 0, none⟩ = some (.int .i64 x.ax) := HX3.out.cell 0
          have g1 : wc.cell? ⟨B, 1, none⟩ = some (.int .i64 x.kd) := HX3.out.cell 1
          have g2 : wc.cell? ⟨B, 2, none⟩ = some (.string x.nm) := HX3.out.cell 2
          have g3 : wc.cell? ⟨B, 3, none⟩ = some (.string x.is) := HX3.out.cell 3
          have g4 : wc.cell? ⟨B, 4, none⟩ = some (.string x.has) := HX3.out.cell 4
          have g5 : wc.cell? ⟨B, 5, none⟩ = some (.int .i64 x.nth) := HX3.out.cell 5
          have gl := HX3.out.lt
          go_upto_if 54 with fail
          clear g0 g1 g2 g3 g4 g5 gl
          go_cut [3] (fun v3 wx => v3 = .string (hpC x) ∧ Hid (Hq wx B x) ∧ Hid (Below B w wx))
          case first =>
            have g0 : wc.cell? ⟨B, 0, none⟩ = some (.int .i64 x.ax) := HX3.out.cell 0
            have g1 : wc.cell? ⟨B, 1, none⟩ = some (.int .i64 x.kd) := HX3.out.cell 1
            have g2 : wc.cell? ⟨B, 2, none⟩ = some (.string x.nm) := HX3.out.cell 2
            have g3 : wc.cell? ⟨B, 3, none⟩ = some (.string x.is) := HX3.out.cell 3
            have g4 : wc.cell? ⟨B, 4, none⟩ = some (.string x.has) := HX3.out.cell 4
            have g5 : wc.cell? ⟨B, 5, none⟩ = some (.int .i64 x.nth) := HX3.out.cell 5
            have gl := HX3.out.lt
            obtain ⟨z, hz⟩ : ∃ z, x.has.toList.isEmpty = z := ⟨_, rfl⟩
            cases z with
            | true =>
              rw [hz]
              have HE := Lib.hid (show hpC x = hpB x from by unfold hpC; rw [if_pos hz])
              go_wp2_with fail
              go_meet
              exact ⟨by rw [HE.out], HX3, HB3⟩
            | false =>
              rw [hz]
              have HE := Lib.hid (show hpC x = hpB x ++ ⟨#[126]⟩ ++ textS x.has from by unfold hpC; rw [if_neg (by rw [hz]; decide), app3])
              have hsz := hpB_size HS.out
              have htz := textS_size x.has
              have hfz := HS.out.has
              have HTX := Lib.hid (fun W => rtext_any x.has (by have := HS.out.has; omega) W)
              generalize hpB x = pp at *
              have hpz : (pp ++ (⟨#[126]⟩ : ByteArray)).size ≤ 1000 := by rw [ByteArray.size_append]; have : (⟨#[126]⟩ : ByteArray).size = 1 := rfl; omega
              go_wp2_with fail
              refine (HTX.out _).mono ?_
              rintro e w5 ⟨rfl, hb5⟩
              have H5 := Lib.hid (HX3.out.under hb5 HX3.out.lt)
              have HB5 := Lib.hid (HB3.out.trans (hb5.mono (by rw [← HBW.out]; exact HB3.out.size)))
              clear g0 g1 g2 g3 g4 g5 gl
              clear hb5 HTX
              generalize textS x.has = tt at *
              generalize pp ++ (⟨#[126]⟩ : ByteArray) = pq at *
              go_wp2_with fail
              go_meet
              exact ⟨by rw [HE.out], H5, HB5⟩
          case rest =>
            obtain ⟨rfl, HX4, HB4⟩ := hcut
            clear HX3 HB3
            have g0 : wc.cell? ⟨B, 0, none⟩ = some (.int .i64 x.ax) := HX4.out.cell 0
            have g1 : wc.cell? ⟨B, 1, none⟩ = some (.int .i64 x.kd) := HX4.out.cell 1
            have g2 : wc.cell? ⟨B, 2, none⟩ = some (.string x.nm) := HX4.out.cell 2
            have g3 : wc.cell? ⟨B, 3, none⟩ = some (.string x.is) := HX4.out.cell 3
            have g4 : wc.cell? ⟨B, 4, none⟩ = some (.string x.has) := HX4.out.cell 4
            have g5 : wc.cell? ⟨B, 5, none⟩ = some (.int .i64 x.nth) := HX4.out.cell 5
            have gl := HX4.out.lt
            by_cases hz : 0 < x.nth
            · have HE := Lib.hid (show hpS x = hpC x ++ ⟨#[91]⟩ ++ decS x.nth.toNat ++ ⟨#[93]⟩ from by unfold hpS; rw [if_pos hz, decS_itoa (by omega), app3, app3, app3])
              have hsz := hpC_size HS.out
              have htz := decS_size (n := x.nth.toNat) (by have := HS.out.hi; omega)
              have hnn : x.nth = ((x.nth.toNat : Nat) : Int) := by omega
              have HTX := Lib.hid (fun W => rnumber_any (x.nth.toNat + 1) x.nth.toNat (by omega) (by have := HS.out.hi; omega) W)
              rw [← hnn] at HTX
              generalize hpC x = pp at *
              have hpz : (pp ++ (⟨#[91]⟩ : ByteArray)).size ≤ 1000 := by rw [ByteArray.size_append]; have : (⟨#[91]⟩ : ByteArray).size = 1 := rfl; omega
              clear hnn
              go_wp2_with fail
              refine (HTX.out _).mono ?_
              rintro e w5 ⟨rfl, hb5⟩
              have HB5 := Lib.hid (HB4.out.trans (hb5.mono (by rw [← HBW.out]; exact HB4.out.size)))
              clear g0 g1 g2 g3 g4 g5 gl hb5 HTX
              generalize decS x.nth.toNat = tt at *
              generalize pp ++ (⟨#[91]⟩ : ByteArray) = pq at *
              have hqz : (pq ++ tt).size ≤ 2000 := by rw [ByteArray.size_append]; omega
              go_wp2
              go_ret
              exact ⟨ret_str HE.out.symm, by rw [HBW.out]; exact HB5.out⟩
            · have HE := Lib.hid (show hpS x = hpC x from by unfold hpS; rw [if_neg hz])
              go_wp2
              go_ret
              exact ⟨ret_str HE.out.symm, by rw [HBW.out]; exact HB4.out⟩
end Go.Proofs.YtialpofiagiclaaDoor
