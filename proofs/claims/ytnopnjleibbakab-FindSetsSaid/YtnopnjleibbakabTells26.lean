/- Where queries lead is the document's: the walk of the law FindTells. -/
import Derived.Test.YtnopnjleibbakabFtI
import Derived.Test.YtnopnjleibbakabChk26
namespace Go.Proofs.Ytnopnjleibbakab
set_option linter.unusedVariables false
open Go.RowKit Go.Sort

theorem wide_no2 {P : List (List Hp)} (h : wideQ P = false) : P.length ≤ 20 ∧ ∀ p ∈ P, p.length ≤ 20 ∧ ∀ x ∈ p, x.has.size ≤ 60 := by
  have h0 := wide_no h
  refine ⟨h0.1, fun p hp => ⟨(h0.2 p hp).1, fun x hx => ?_⟩⟩
  unfold wideQ at h
  rw [List.any_eq_false] at h
  have h1 := h p hp
  unfold wideF at h1
  simp only [Bool.or_eq_true, decide_eq_true_eq, not_or, List.any_eq_true, not_exists, not_and] at h1
  have h2 := h1.2 x hx
  unfold wideH at h2
  simp only [Bool.or_eq_true, decide_eq_true_eq, not_or] at h2
  omega
theorem from4 (w : World) (n : Nat) : IntsAt (w.alloc (.cells #[.int .i64 (-1), .int .i64 2, .int .i64 0, .int .i64 (n : Int)] 3)) w.heap.size (.slice (some ⟨w.heap.size, 0, none⟩) 4 4) [-1, 2, 0, (n : Int)] := by
  have F := Own.fresh w 3 [.int .i64 (-1), .int .i64 2, .int .i64 0, .int .i64 (n : Int)]
  refine ⟨_, _, rfl, Nat.le_refl _, fun j hj => ⟨_, 0, rfl, F.lt, Nat.le_refl _, ?_⟩⟩
  have hj4 : j < 4 := hj
  match j, hj4 with
  | 0, _ => exact F.cell 0
  | 1, _ => exact F.cell 1
  | 2, _ => exact F.cell 2
  | 3, _ => exact F.cell 3

set_option maxRecDepth 1000000 in
set_option maxHeartbeats 2400000 in
theorem tells_walk (HAW : ∀ w, Mx w → Calls Try.prog 7 #[] w fun e w' => e = .returned (.bool true) ∧ Below w.heap.size w w') (l : Nodes) (ao : Option Addr) (cap : Nat) (s : ByteArray) (P : List (List Hp)) (qo : Option Addr) (qc : Nat)
    (hP : P.length ≤ maxLen) (hPL : ∀ p ∈ P, p.length ≤ maxLen) (W : World) (hmx : Mx W) (hl : Has W ao W.heap.size l) (hq : HasQ W qo P) :
    Calls Try.prog 3 #[.slice ao l.n cap, .string s, .agg #[.slice qo P.length qc]] W fun e w' => e = .returned (.bool true) ∧ Below W.heap.size W w' := by
  have HQ := Lib.hid hq
  have HL := Lib.hid hl
  have HM := Lib.hid hmx
  have HA := Lib.hid (fun W' (hb : Below W.heap.size W W') => HAW W' (hmx.below hb))
  have HW := Lib.hid (fun W' (hb : Below W.heap.size W W') => wide_any P qo qc (by unfold maxLen at hP; omega) (fun p hp => by have := hPL p hp; unfold maxLen at this; omega) W' (hq.below hb))
  have HB0 := Lib.hid ((Below.refl W.heap.size W).alloc (Nat.le_refl _) (.cells #[.slice qo P.length qc] 25))
  have HO0 := Lib.hid (Own.fresh W 25 [.slice qo P.length qc])
  obtain ⟨m, hm⟩ : ∃ m, P.length = m := ⟨_, rfl⟩
  obtain ⟨n, hn⟩ : ∃ n, l.n = n := ⟨_, rfl⟩
  have HMM := Lib.hid hm
  have HNN := Lib.hid hn
  rw [hm] at HO0 HB0 HW ⊢
  rw [hn]
  clear hq hl hmx HAW hP hPL hm hn
  go_enter Try.func3, Try.ntmps3
  go_upto_region 1 with fail
  generalize World.alloc W _ = w1 at *
  have o0 : w1.cell? ⟨W.heap.size, 0, none⟩ = some (.slice qo m qc) := HO0.out.cell 0
  have ol := HO0.out.lt
  by_cases h1 : (40 : Int) < n
  · clear o0 ol
    go_wp2_with fail
    refine (HA.out _ HB0.out).mono ?_
    rintro e w9 ⟨rfl, hb9⟩
    go_wp2
    go_ret
    exact ⟨rfl, keepb HB0.out hb9⟩
  have h1' : decide ((40 : Int) < n) = false := decide_eq_false h1
  by_cases h2 : (100 : Int) < s.size
  · clear o0 ol
    go_wp2_with fail
    refine (HA.out _ HB0.out).mono ?_
    rintro e w9 ⟨rfl, hb9⟩
    go_wp2
    go_ret
    exact ⟨rfl, keepb HB0.out hb9⟩
  have h2' : decide ((100 : Int) < s.size) = false := decide_eq_false h2
  go_wp2_with fail
  refine (HW.out _ HB0.out).mono ?_
  rintro e w2 ⟨rfl, hb2⟩
  have HB2 := Lib.hid (keepb HB0.out hb2)
  have HO2 := Lib.hid (HO0.out.under hb2 ol)
  clear hb2 o0 ol HB0 HO0 h1' h2'
  cases hwd : wideQ P with
  | true =>
    go_wp2_with fail
    refine (HA.out _ HB2.out).mono ?_
    rintro e w9 ⟨rfl, hb9⟩
    go_wp2
    go_ret
    exact ⟨rfl, keepb HB2.out hb9⟩
  | false =>
    have HWN := Lib.hid (wide_no hwd)
    have HWH := Lib.hid (wide_no2 hwd)
    clear hwd HW
    have HFD := Lib.hid (fun (W' : World) (hb : Below W.heap.size W W') => find_any l ao cap s (by omega) P qo qc W.heap.size (by have := HNN.out; omega) (by have := HWN.out.1; omega) (fun p hp => by have := (HWN.out.2 p hp).1; omega) W' hb.size (HL.out.keep hb (Nat.le_refl _)) (HM.out.below hb) (HQ.out.below hb))
    have HRF := Lib.hid (fun (W' : World) (hb : Below W.heap.size W W') => rfind_any l ao cap s (by omega) P qo qc W.heap.size (by have := HNN.out; omega) (by have := HWN.out.1; omega) (fun p hp => ⟨by have := (HWN.out.2 p hp).1; omega, fun x hx => by have := (HWH.out.2 p hp).2 x hx; omega⟩) W' hb.size (HL.out.keep hb (Nat.le_refl _)) (HQ.out.below hb))
    have HSP := Lib.hid (fun (x : Hp) (v : Value) (L : List Int) (hL : (L.length : Int) ≤ 1000) (C : Nat) (W' : World) (hb : Below W.heap.size W W') (hv : IntsAt W' C v L) => step_any l ao cap s (by omega) x W.heap.size (by have := HNN.out; omega) v L C hL W' hb.size (HL.out.keep hb (Nat.le_refl _)) (HM.out.below hb) hv)
    have HRS := Lib.hid (fun (x : Hp) (hx : (x.has.size : Int) ≤ 1000000) (v : Value) (L : List Int) (hL : (L.length : Int) ≤ 1000) (C : Nat) (W' : World) (hb : Below W.heap.size W W') (hv : IntsAt W' C v L) => rstep_any l ao cap s (by omega) x hx W.heap.size (by have := HNN.out; omega) v L C hL W' hb.size (HL.out.keep hb (Nat.le_refl _)) hv)
    have HFL := Lib.hid (show ((findL l s P).length : Int) ≤ 1000 from by unfold findL; have := sel_len (metP l s P) l.n; have := HNN.out; omega)
    have HSL := Lib.hid (fun (L : List Int) (x : Hp) => show ((stepL l s L x).length : Int) ≤ 1000 from by have := step_len l s L x; have := HNN.out; omega)
    simp only [HMM.out, HNN.out] at HFD HRF HSP HRS
    have o0 : w2.cell? ⟨W.heap.size, 0, none⟩ = some (.slice qo m qc) := HO2.out.cell 0
    have ol := HO2.out.lt
    by_cases hm1 : (0 : Int) < m
    · obtain ⟨p, hp⟩ : ∃ p, P[0]? = some p := ⟨_, List.getElem?_eq_getElem (by have := HMM.out; omega)⟩
      obtain ⟨g, off, po, pc, rfl, hg, hc, hh⟩ := HQ.out 0 p hp
      have hpm := List.mem_of_getElem? hp
      simp only [Nat.add_zero] at hc
      have hcw := keepc hc HB2.out
      have hgw := Nat.lt_of_lt_of_le hg HB2.out.size
      by_cases hp1 : (0 : Int) < p.length
      · obtain ⟨x, hx⟩ : ∃ x, p[0]? = some x := ⟨_, List.getElem?_eq_getElem (by omega)⟩
        obtain ⟨g2, of2, rfl, hg2, a0, a1, a2, a3, a4, a5⟩ := hh 0 x hx
        simp only [Nat.zero_mul, Nat.add_zero] at a0 a1 a2 a3 a4 a5
        have hxh := (HWH.out.2 p hpm).2 x (List.mem_of_getElem? hx)
        obtain ⟨pl, hpl⟩ : ∃ z, p.length = z := ⟨_, rfl⟩
        rw [hpl] at hcw hp1
        clear hc hh hg hpl hp hx hpm
        go_upto_region 4 with fail
        have HFR := Lib.hid (from4 w2 n)
        have HB3 := Lib.hid (HB2.out.alloc HB2.out.size (.cells #[.int .i64 (-1), .int .i64 2, .int .i64 0, .int .i64 (n : Int)] 3))
        have HO3 := Lib.hid (HO2.out.on_alloc (.cells #[.int .i64 (-1), .int .i64 2, .int .i64 0, .int .i64 (n : Int)] 3))
        have hcw3 := keepc hcw ((Below.refl _ _).alloc (Nat.le_refl _) (.cells #[.int .i64 (-1), .int .i64 2, .int .i64 0, .int .i64 (n : Int)] 3))
        go_upto_region 5 with fail
        clear o0 ol HB2 HO2 hcw hgw
        generalize World.alloc w2 _ = w3 at *
        generalize w2.heap.size = G at *
        have HBW := Lib.hid (show Below W.heap.size W w3.drew from HB3.out.drew)
        have HOW := Lib.hid (show Own w3.drew W.heap.size 25 [.slice (some ⟨g, off, none⟩) m qc] from HO3.out.on_drew)
        have HFW := Lib.hid (show IntsAt w3.drew G (.slice (some ⟨G, 0, none⟩) 4 4) [-1, 2, 0, (n : Int)] from HFR.out.below ((Below.refl _ _).drew))
        have c3 : w3.drew.cell? ⟨g, off, none⟩ = some (.slice (some ⟨g2, of2, none⟩) pl pc) := hcw3
        refine wp_region_held (S := fun Wx => Below w3.drew.heap.size w3.drew Wx) (by kernel_rfl) ?_
        change wpAnyH _ _ _ _ _ _ _ _ (World.drew w3)
        clear HB3 HO3 HFR hcw3
        generalize World.drew w3 = wb at *
        have HS := Lib.hid (Below.refl wb.heap.size wb)
        have q0 : wb.cell? ⟨W.heap.size, 0, none⟩ = some (.slice (some ⟨g, off, none⟩) m qc) := HOW.out.cell 0
        have ql := HOW.out.lt
        have b0 := keepc a0 HBW.out
        have b1 := keepc a1 HBW.out
        have b2 := keepc a2 HBW.out
        have b3 := keepc a3 HBW.out
        have b4 := keepc a4 HBW.out
        have b5 := keepc a5 HBW.out
        clear a0 a1 a2 a3 a4 a5
        refine wpAnyH_take (i := 0) (v := ?_) rfl (by kernel_rfl) (by kernel_rfl) (by kernel_rfl) (fun _ _ _ h => h) (Or.inl ⟨by rfl, ?_⟩) HS.out ?_
        rotate_left
        · intro Wx hWx
          go_simp
          try with_reducible rfl
        go_simp
        refine wpAnyH_take (i := 1) (v := ?_) rfl (by kernel_rfl) (by kernel_rfl) (by kernel_rfl) (fun _ _ _ h => h) (Or.inl ⟨by rfl, ?_⟩) HS.out ?_
        rotate_left
        · intro Wx hWx
          go_simp
          try with_reducible rfl
        go_simp
        refine wpAnyH_take (i := 2) (v := ?_) rfl (by kernel_rfl) (by kernel_rfl) (by kernel_rfl) (fun _ _ _ h => h) (Or.inl ⟨by rfl, ?_⟩) HS.out ?_
        rotate_left
        · intro Wx hWx
          go_simp
          try with_reducible rfl
        go_simp
        refine wpAnyH_take (i := 3) (v := ?_) rfl (by kernel_rfl) (by kernel_rfl) (by kernel_rfl) (fun _ _ _ h => h) (Or.inl ⟨by rfl, ?_⟩) HS.out ?_
        rotate_left
        · intro Wx hWx
          go_simp
          try with_reducible rfl
        go_simp
        refine wpAnyH_take (i := 4) (v := ?_) rfl (by kernel_rfl) (by kernel_rfl) (by kernel_rfl) (fun _ _ _ h => h) (Or.inl ⟨by rfl, ?_⟩) HS.out ?_
        rotate_left
        · intro Wx hWx
          have q1 := keepc q0 hWx
          have q2 := Nat.lt_of_lt_of_le ql hWx.size
          go_simp
          try with_reducible rfl
        go_simp
        refine wpAnyH_take (i := 5) (v := ?_) rfl (by kernel_rfl) (by kernel_rfl) (by kernel_rfl) (fun _ _ _ h => h) (Or.inl ⟨by rfl, ?_⟩) HS.out ?_
        rotate_left
        · intro Wx hWx
          go_simp
          try with_reducible rfl
        go_simp
        refine wpAnyH_take (i := 6) (v := ?_) rfl (by kernel_rfl) (by kernel_rfl) (by kernel_rfl) (fun _ _ _ h => h) (Or.inl ⟨by rfl, ?_⟩) HS.out ?_
        rotate_left
        · intro Wx hWx
          have q1 := keepc c3 hWx
          have q2 := World.block_lt_of_cell? _ _ q1
          go_simp
          try with_reducible rfl
        go_simp
        refine wpAnyH_take (i := 7) (v := ?_) rfl (by kernel_rfl) (by kernel_rfl) (by kernel_rfl) (fun _ _ _ h => h) (Or.inl ⟨by rfl, ?_⟩) HS.out ?_
        rotate_left
        · intro Wx hWx
          go_simp
          try with_reducible rfl
        go_simp
        refine wpAnyH_take (i := 8) (v := ?_) rfl (by kernel_rfl) (by kernel_rfl) (by kernel_rfl) (fun _ _ _ h => h) (Or.inl ⟨by rfl, ?_⟩) HS.out ?_
        rotate_left
        · intro Wx hWx
          have d0 := keepc b0 hWx
          have d1 := keepc b1 hWx
          have d2 := keepc b2 hWx
          have d3 := keepc b3 hWx
          have d4 := keepc b4 hWx
          have d5 := keepc b5 hWx
          have q2 := World.block_lt_of_cell? _ _ d0
          go_simp
          try with_reducible rfl
        go_simp
        refine wpAnyH_take (i := 10) (v := ?_) rfl (by kernel_rfl) (by kernel_rfl) (by kernel_rfl) (fun _ _ _ h => h) (Or.inl ⟨by rfl, ?_⟩) HS.out ?_
        rotate_left
        · intro Wx hWx
          go_simp
          try with_reducible rfl
        go_simp
        refine wpAnyH_take (i := 11) (v := ?_) rfl (by kernel_rfl) (by kernel_rfl) (by kernel_rfl) (fun _ _ _ h => h) (Or.inl ⟨by rfl, ?_⟩) HS.out ?_
        rotate_left
        · intro Wx hWx
          go_simp
          try with_reducible rfl
        go_simp
        refine wpAnyH_take (i := 12) (v := ?_) rfl (by kernel_rfl) (by kernel_rfl) (by kernel_rfl) (fun _ _ _ h => h) (Or.inl ⟨by rfl, ?_⟩) HS.out ?_
        rotate_left
        · intro Wx hWx
          go_simp
          try with_reducible rfl
        go_simp
        refine wpAnyH_take (i := 13) (v := ?_) rfl (by kernel_rfl) (by kernel_rfl) (by kernel_rfl) (fun _ _ _ h => h) (Or.inl ⟨by rfl, ?_⟩) HS.out ?_
        rotate_left
        · intro Wx hWx
          go_simp
          try with_reducible rfl
        go_simp
        refine wpAnyH_take (i := 14) (v := ?_) rfl (by kernel_rfl) (by kernel_rfl) (by kernel_rfl) (fun _ _ _ h => h) (Or.inl ⟨by rfl, ?_⟩) HS.out ?_
        rotate_left
        · intro Wx hWx
          have q1 := keepc q0 hWx
          have q2 := Nat.lt_of_lt_of_le ql hWx.size
          go_simp
          try with_reducible rfl
        go_simp
        refine wpAnyH_take (i := 15) (v := ?_) rfl (by kernel_rfl) (by kernel_rfl) (by kernel_rfl) (fun _ _ _ h => h) (Or.inl ⟨by rfl, ?_⟩) HS.out ?_
        rotate_left
        · intro Wx hWx
          go_simp
          try with_reducible rfl
        go_simp
        refine wpAnyH_take (i := 16) (v := ?_) rfl (by kernel_rfl) (by kernel_rfl) (by kernel_rfl) (fun _ _ _ h => h) (Or.inl ⟨by rfl, ?_⟩) HS.out ?_
        rotate_left
        · intro Wx hWx
          have q1 := keepc c3 hWx
          have q2 := World.block_lt_of_cell? _ _ q1
          go_simp
          try with_reducible rfl
        go_simp
        refine wpAnyH_take (i := 17) (v := ?_) rfl (by kernel_rfl) (by kernel_rfl) (by kernel_rfl) (fun _ _ _ h => h) (Or.inl ⟨by rfl, ?_⟩) HS.out ?_
        rotate_left
        · intro Wx hWx
          go_simp
          try with_reducible rfl
        go_simp
        refine wpAnyH_take (i := 18) (v := ?_) rfl (by kernel_rfl) (by kernel_rfl) (by kernel_rfl) (fun _ _ _ h => h) (Or.inl ⟨by rfl, ?_⟩) HS.out ?_
        rotate_left
        · intro Wx hWx
          have d0 := keepc b0 hWx
          have d1 := keepc b1 hWx
          have d2 := keepc b2 hWx
          have d3 := keepc b3 hWx
          have d4 := keepc b4 hWx
          have d5 := keepc b5 hWx
          have q2 := World.block_lt_of_cell? _ _ d0
          go_simp
          try with_reducible rfl
        go_simp
        refine hall_one (i := 9) (by kernel_rfl) (Onward.at_ (I := fun Wx => Below wb.heap.size wb Wx) (R := fun v Wx => IntsAt Wx 0 v (stepL l s [-1, 2, 0, (n : Int)] x)) ?_ rfl ?_)
        · refine onward_call (f := 9) (vs := #[.slice ao n cap, .string s, .slice (some ⟨G, 0, none⟩) 4 4, .agg #[.int .i64 x.ax, .int .i64 x.kd, .string x.nm, .string x.is, .string x.has, .int .i64 x.nth]]) (by kernel_rfl) (by go_simp) ?_
          refine (HSP.out x _ [-1, 2, 0, (n : Int)] (by simp) G _ (keepb HBW.out HS.out) (HFW.out.below HS.out)).mono ?_
          rintro e wy ⟨v, he, ho, hb⟩
          exact ⟨_, he, hb, keepb HS.out hb, ho.ints.mono (Nat.zero_le _)⟩
        rintro vv9 ww hbb hss hrr
        refine ⟨hss, ?_⟩
        clear HS
        have HS := Lib.hid hss
        have HR := Lib.hid hrr
        clear hss hbb hrr
        go_simp
        refine hall_one (i := 19) (by kernel_rfl) (Onward.at_ (I := fun Wx => Below wb.heap.size wb Wx) (R := fun v Wx => IntsAt Wx 0 v (stepL l s [-1, 2, 0, (n : Int)] x)) ?_ rfl ?_)
        · refine onward_call (f := 10) (vs := #[.slice ao n cap, .string s, .slice (some ⟨G, 0, none⟩) 4 4, .agg #[.int .i64 x.ax, .int .i64 x.kd, .string x.nm, .string x.is, .string x.has, .int .i64 x.nth]]) (by kernel_rfl) (by go_simp) ?_
          refine (HRS.out x (by omega) _ [-1, 2, 0, (n : Int)] (by simp) G _ (keepb HBW.out HS.out) (HFW.out.below HS.out)).mono ?_
          rintro e wy ⟨v, he, ho, hb⟩
          exact ⟨_, he, hb, keepb HS.out hb, ho.mono (Nat.zero_le _)⟩
        rintro vv19 ww hbb hss hrr
        refine ⟨hss, ?_⟩
        clear HS
        have HS := Lib.hid hss
        have HR2 := Lib.hid hrr
        have HR1 := Lib.hid (HR.out.below hbb)
        clear hss hbb hrr HR
        go_simp
        refine hall_one (i := 20) (by kernel_rfl) (Onward.at_ (I := fun Wx => Below wb.heap.size wb Wx) (R := fun v _ => v = .bool true) ?_ rfl ?_)
        · refine onward_call (f := 8) (vs := #[vv9, vv19]) (by kernel_rfl) (by go_simp) ?_
          refine (intsat_any _ _ (stepL l s [-1, 2, 0, (n : Int)] x) 0 0 (HSL.out _ x) _ HR1.out HR2.out).mono ?_
          rintro e wy ⟨he, hb⟩
          exact ⟨_, he, hb, keepb HS.out hb, rfl⟩
        rintro vv20 ww hbb hss hrr
        refine ⟨hss, ?_⟩
        clear HS
        subst hrr
        have HS := Lib.hid hss
        clear hss hbb
        go_simp
        refine wpAnyH_take (i := 21) (v := ?_) rfl (by kernel_rfl) (by kernel_rfl) (by kernel_rfl) (fun _ _ _ h => h) (Or.inl ⟨by rfl, ?_⟩) HS.out ?_
        rotate_left
        · intro Wx hWx
          go_simp
          try with_reducible rfl
        go_simp
        refine wpAnyH_done (by kernel_rfl) ?_ _
        have HB4 := Lib.hid (keepb HBW.out HS.out)
        have HO4 := Lib.hid (HOW.out.under HS.out ql)
        clear HBW HOW HS HFW q0 ql c3 b0 b1 b2 b3 b4 b5 HR1 HR2
        have ol := HO4.out.lt
        have o0 : ww.cell? ⟨W.heap.size, 0, none⟩ = some (.slice (some ⟨g, off, none⟩) m qc) := HO4.out.cell 0
        have HBW := Lib.hid (show Below W.heap.size W ww.drew from HB4.out.drew)
        have HOW := Lib.hid (show Own ww.drew W.heap.size 25 [.slice (some ⟨g, off, none⟩) m qc] from HO4.out.on_drew)
        go_wp2_with fail
        refine wp_region_held (S := fun Wx => Below ww.drew.heap.size ww.drew Wx) (by kernel_rfl) ?_
        change wpAnyH _ _ _ _ _ _ _ _ (World.drew ww)
        clear o0 ol HB4 HO4
        generalize World.drew ww = wc at *
        have HS := Lib.hid (Below.refl wc.heap.size wc)
        have q0 : wc.cell? ⟨W.heap.size, 0, none⟩ = some (.slice (some ⟨g, off, none⟩) m qc) := HOW.out.cell 0
        have ql := HOW.out.lt
        refine hall_one (i := 0) (by kernel_rfl) (Onward.at_ (I := fun Wx => Below wc.heap.size wc Wx) (R := fun v _ => v = .bool true) ?_ rfl ?_)
        · refine onward_call (f := 7) (vs := #[]) (by kernel_rfl) (by go_simp) ?_
          refine (HA.out _ (keepb HBW.out HS.out)).mono ?_
          rintro e wy ⟨he, hb⟩
          exact ⟨_, he, hb, keepb HS.out hb, rfl⟩
        rintro vv0 ww hbb hss hrr
        refine ⟨hss, ?_⟩
        clear HS
        subst hrr
        have HS := Lib.hid hss
        clear hss hbb
        go_simp
        refine wpAnyH_take (i := 1) (v := ?_) rfl (by kernel_rfl) (by kernel_rfl) (by kernel_rfl) (fun _ _ _ h => h) (Or.inl ⟨by rfl, ?_⟩) HS.out ?_
        rotate_left
        · intro Wx hWx
          go_simp
          try with_reducible rfl
        go_simp
        refine wpAnyH_take (i := 2) (v := ?_) rfl (by kernel_rfl) (by kernel_rfl) (by kernel_rfl) (fun _ _ _ h => h) (Or.inl ⟨by rfl, ?_⟩) HS.out ?_
        rotate_left
        · intro Wx hWx
          go_simp
          try with_reducible rfl
        go_simp
        refine wpAnyH_take (i := 3) (v := ?_) rfl (by kernel_rfl) (by kernel_rfl) (by kernel_rfl) (fun _ _ _ h => h) (Or.inl ⟨by rfl, ?_⟩) HS.out ?_
        rotate_left
        · intro Wx hWx
          go_simp
          try with_reducible rfl
        go_simp
        refine wpAnyH_take (i := 4) (v := ?_) rfl (by kernel_rfl) (by kernel_rfl) (by kernel_rfl) (fun _ _ _ h => h) (Or.inl ⟨by rfl, ?_⟩) HS.out ?_
        rotate_left
        · intro Wx hWx
          have q1 := keepc q0 hWx
          have q2 := Nat.lt_of_lt_of_le ql hWx.size
          go_simp
          try with_reducible rfl
        go_simp
        refine wpAnyH_take (i := 6) (v := ?_) rfl (by kernel_rfl) (by kernel_rfl) (by kernel_rfl) (fun _ _ _ h => h) (Or.inl ⟨by rfl, ?_⟩) HS.out ?_
        rotate_left
        · intro Wx hWx
          go_simp
          try with_reducible rfl
        go_simp
        refine wpAnyH_take (i := 7) (v := ?_) rfl (by kernel_rfl) (by kernel_rfl) (by kernel_rfl) (fun _ _ _ h => h) (Or.inl ⟨by rfl, ?_⟩) HS.out ?_
        rotate_left
        · intro Wx hWx
          go_simp
          try with_reducible rfl
        go_simp
        refine wpAnyH_take (i := 8) (v := ?_) rfl (by kernel_rfl) (by kernel_rfl) (by kernel_rfl) (fun _ _ _ h => h) (Or.inl ⟨by rfl, ?_⟩) HS.out ?_
        rotate_left
        · intro Wx hWx
          have q1 := keepc q0 hWx
          have q2 := Nat.lt_of_lt_of_le ql hWx.size
          go_simp
          try with_reducible rfl
        go_simp
        refine hall_one (i := 5) (by kernel_rfl) (Onward.at_ (I := fun Wx => Below wc.heap.size wc Wx) (R := fun v Wx => IntsAt Wx 0 v (findL l s P)) ?_ rfl ?_)
        · refine onward_call (f := 11) (vs := #[.slice ao n cap, .string s, .agg #[.slice (some ⟨g, off, none⟩) m qc]]) (by kernel_rfl) (by go_simp) ?_
          refine (HFD.out _ (keepb HBW.out HS.out)).mono ?_
          rintro e wy ⟨v, he, ho, hb⟩
          exact ⟨_, he, hb, keepb HS.out hb, ho.ints.mono (Nat.zero_le _)⟩
        rintro vv5 ww hbb hss hrr
        refine ⟨hss, ?_⟩
        clear HS
        have HS := Lib.hid hss
        have HR := Lib.hid hrr
        clear hss hbb hrr
        go_simp
        refine hall_one (i := 9) (by kernel_rfl) (Onward.at_ (I := fun Wx => Below wc.heap.size wc Wx) (R := fun v Wx => IntsAt Wx 0 v (findL l s P)) ?_ rfl ?_)
        · refine onward_call (f := 12) (vs := #[.slice ao n cap, .string s, .agg #[.slice (some ⟨g, off, none⟩) m qc]]) (by kernel_rfl) (by go_simp) ?_
          refine (HRF.out _ (keepb HBW.out HS.out)).mono ?_
          rintro e wy ⟨v, he, ho, hb⟩
          exact ⟨_, he, hb, keepb HS.out hb, ho.mono (Nat.zero_le _)⟩
        rintro vv9 ww hbb hss hrr
        refine ⟨hss, ?_⟩
        clear HS
        have HS := Lib.hid hss
        have HR2 := Lib.hid hrr
        have HR1 := Lib.hid (HR.out.below hbb)
        clear hss hbb hrr HR
        go_simp
        refine hall_one (i := 10) (by kernel_rfl) (Onward.at_ (I := fun Wx => Below wc.heap.size wc Wx) (R := fun v _ => v = .bool true) ?_ rfl ?_)
        · refine onward_call (f := 8) (vs := #[vv5, vv9]) (by kernel_rfl) (by go_simp) ?_
          refine (intsat_any _ _ (findL l s P) 0 0 HFL.out _ HR1.out HR2.out).mono ?_
          rintro e wy ⟨he, hb⟩
          exact ⟨_, he, hb, keepb HS.out hb, rfl⟩
        rintro vv10 ww hbb hss hrr
        refine ⟨hss, ?_⟩
        clear HS
        subst hrr
        have HS := Lib.hid hss
        clear hss hbb
        go_simp
        refine wpAnyH_take (i := 11) (v := ?_) rfl (by kernel_rfl) (by kernel_rfl) (by kernel_rfl) (fun _ _ _ h => h) (Or.inl ⟨by rfl, ?_⟩) HS.out ?_
        rotate_left
        · intro Wx hWx
          go_simp
          try with_reducible rfl
        go_simp
        refine wpAnyH_take (i := 12) (v := ?_) rfl (by kernel_rfl) (by kernel_rfl) (by kernel_rfl) (fun _ _ _ h => h) (Or.inl ⟨by rfl, ?_⟩) HS.out ?_
        rotate_left
        · intro Wx hWx
          go_simp
          try with_reducible rfl
        go_simp
        refine wpAnyH_done (by kernel_rfl) ?_ _
        go_wp2
        go_ret
        exact ⟨rfl, keepb HBW.out HS.out⟩
      · have hp1' : decide ((0 : Int) < p.length) = false := decide_eq_false hp1
        have HBW := Lib.hid (show Below W.heap.size W w2.drew from HB2.out.drew)
        have HOW := Lib.hid (show Own w2.drew W.heap.size 25 [.slice (some ⟨g, off, none⟩) m qc] from HO2.out.on_drew)
        go_wp2_with fail
        refine wp_region_held (S := fun Wx => Below w2.drew.heap.size w2.drew Wx) (by kernel_rfl) ?_
        change wpAnyH _ _ _ _ _ _ _ _ (World.drew w2)
        clear o0 ol HB2 HO2
        generalize World.drew w2 = wb at *
        have HS := Lib.hid (Below.refl wb.heap.size wb)
        have q0 : wb.cell? ⟨W.heap.size, 0, none⟩ = some (.slice (some ⟨g, off, none⟩) m qc) := HOW.out.cell 0
        have ql := HOW.out.lt
        refine hall_one (i := 0) (by kernel_rfl) (Onward.at_ (I := fun Wx => Below wb.heap.size wb Wx) (R := fun v _ => v = .bool true) ?_ rfl ?_)
        · refine onward_call (f := 7) (vs := #[]) (by kernel_rfl) (by go_simp) ?_
          refine (HA.out _ (keepb HBW.out HS.out)).mono ?_
          rintro e wy ⟨he, hb⟩
          exact ⟨_, he, hb, keepb HS.out hb, rfl⟩
        rintro vv0 ww hbb hss hrr
        refine ⟨hss, ?_⟩
        clear HS
        subst hrr
        have HS := Lib.hid hss
        clear hss hbb
        go_simp
        refine wpAnyH_take (i := 1) (v := ?_) rfl (by kernel_rfl) (by kernel_rfl) (by kernel_rfl) (fun _ _ _ h => h) (Or.inl ⟨by rfl, ?_⟩) HS.out ?_
        rotate_left
        · intro Wx hWx
          go_simp
          try with_reducible rfl
        go_simp
        refine wpAnyH_take (i := 2) (v := ?_) rfl (by kernel_rfl) (by kernel_rfl) (by kernel_rfl) (fun _ _ _ h => h) (Or.inl ⟨by rfl, ?_⟩) HS.out ?_
        rotate_left
        · intro Wx hWx
          go_simp
          try with_reducible rfl
        go_simp
        refine wpAnyH_take (i := 3) (v := ?_) rfl (by kernel_rfl) (by kernel_rfl) (by kernel_rfl) (fun _ _ _ h => h) (Or.inl ⟨by rfl, ?_⟩) HS.out ?_
        rotate_left
        · intro Wx hWx
          go_simp
          try with_reducible rfl
        go_simp
        refine wpAnyH_take (i := 4) (v := ?_) rfl (by kernel_rfl) (by kernel_rfl) (by kernel_rfl) (fun _ _ _ h => h) (Or.inl ⟨by rfl, ?_⟩) HS.out ?_
        rotate_left
        · intro Wx hWx
          have q1 := keepc q0 hWx
          have q2 := Nat.lt_of_lt_of_le ql hWx.size
          go_simp
          try with_reducible rfl
        go_simp
        refine wpAnyH_take (i := 6) (v := ?_) rfl (by kernel_rfl) (by kernel_rfl) (by kernel_rfl) (fun _ _ _ h => h) (Or.inl ⟨by rfl, ?_⟩) HS.out ?_
        rotate_left
        · intro Wx hWx
          go_simp
          try with_reducible rfl
        go_simp
        refine wpAnyH_take (i := 7) (v := ?_) rfl (by kernel_rfl) (by kernel_rfl) (by kernel_rfl) (fun _ _ _ h => h) (Or.inl ⟨by rfl, ?_⟩) HS.out ?_
        rotate_left
        · intro Wx hWx
          go_simp
          try with_reducible rfl
        go_simp
        refine wpAnyH_take (i := 8) (v := ?_) rfl (by kernel_rfl) (by kernel_rfl) (by kernel_rfl) (fun _ _ _ h => h) (Or.inl ⟨by rfl, ?_⟩) HS.out ?_
        rotate_left
        · intro Wx hWx
          have q1 := keepc q0 hWx
          have q2 := Nat.lt_of_lt_of_le ql hWx.size
          go_simp
          try with_reducible rfl
        go_simp
        refine hall_one (i := 5) (by kernel_rfl) (Onward.at_ (I := fun Wx => Below wb.heap.size wb Wx) (R := fun v Wx => IntsAt Wx 0 v (findL l s P)) ?_ rfl ?_)
        · refine onward_call (f := 11) (vs := #[.slice ao n cap, .string s, .agg #[.slice (some ⟨g, off, none⟩) m qc]]) (by kernel_rfl) (by go_simp) ?_
          refine (HFD.out _ (keepb HBW.out HS.out)).mono ?_
          rintro e wy ⟨v, he, ho, hb⟩
          exact ⟨_, he, hb, keepb HS.out hb, ho.ints.mono (Nat.zero_le _)⟩
        rintro vv5 ww hbb hss hrr
        refine ⟨hss, ?_⟩
        clear HS
        have HS := Lib.hid hss
        have HR := Lib.hid hrr
        clear hss hbb hrr
        go_simp
        refine hall_one (i := 9) (by kernel_rfl) (Onward.at_ (I := fun Wx => Below wb.heap.size wb Wx) (R := fun v Wx => IntsAt Wx 0 v (findL l s P)) ?_ rfl ?_)
        · refine onward_call (f := 12) (vs := #[.slice ao n cap, .string s, .agg #[.slice (some ⟨g, off, none⟩) m qc]]) (by kernel_rfl) (by go_simp) ?_
          refine (HRF.out _ (keepb HBW.out HS.out)).mono ?_
          rintro e wy ⟨v, he, ho, hb⟩
          exact ⟨_, he, hb, keepb HS.out hb, ho.mono (Nat.zero_le _)⟩
        rintro vv9 ww hbb hss hrr
        refine ⟨hss, ?_⟩
        clear HS
        have HS := Lib.hid hss
        have HR2 := Lib.hid hrr
        have HR1 := Lib.hid (HR.out.below hbb)
        clear hss hbb hrr HR
        go_simp
        refine hall_one (i := 10) (by kernel_rfl) (Onward.at_ (I := fun Wx => Below wb.heap.size wb Wx) (R := fun v _ => v = .bool true) ?_ rfl ?_)
        · refine onward_call (f := 8) (vs := #[vv5, vv9]) (by kernel_rfl) (by go_simp) ?_
          refine (intsat_any _ _ (findL l s P) 0 0 HFL.out _ HR1.out HR2.out).mono ?_
          rintro e wy ⟨he, hb⟩
          exact ⟨_, he, hb, keepb HS.out hb, rfl⟩
        rintro vv10 ww hbb hss hrr
        refine ⟨hss, ?_⟩
        clear HS
        subst hrr
        have HS := Lib.hid hss
        clear hss hbb
        go_simp
        refine wpAnyH_take (i := 11) (v := ?_) rfl (by kernel_rfl) (by kernel_rfl) (by kernel_rfl) (fun _ _ _ h => h) (Or.inl ⟨by rfl, ?_⟩) HS.out ?_
        rotate_left
        · intro Wx hWx
          go_simp
          try with_reducible rfl
        go_simp
        refine wpAnyH_take (i := 12) (v := ?_) rfl (by kernel_rfl) (by kernel_rfl) (by kernel_rfl) (fun _ _ _ h => h) (Or.inl ⟨by rfl, ?_⟩) HS.out ?_
        rotate_left
        · intro Wx hWx
          go_simp
          try with_reducible rfl
        go_simp
        refine wpAnyH_done (by kernel_rfl) ?_ _
        go_wp2
        go_ret
        exact ⟨rfl, keepb HBW.out HS.out⟩
    · have hm1' : decide ((0 : Int) < m) = false := decide_eq_false hm1
      have HBW := Lib.hid (show Below W.heap.size W w2.drew from HB2.out.drew)
      have HOW := Lib.hid (show Own w2.drew W.heap.size 25 [.slice qo m qc] from HO2.out.on_drew)
      go_wp2_with fail
      refine wp_region_held (S := fun Wx => Below w2.drew.heap.size w2.drew Wx) (by kernel_rfl) ?_
      change wpAnyH _ _ _ _ _ _ _ _ (World.drew w2)
      clear o0 ol HB2 HO2
      generalize World.drew w2 = wb at *
      have HS := Lib.hid (Below.refl wb.heap.size wb)
      have q0 : wb.cell? ⟨W.heap.size, 0, none⟩ = some (.slice qo m qc) := HOW.out.cell 0
      have ql := HOW.out.lt
      refine hall_one (i := 0) (by kernel_rfl) (Onward.at_ (I := fun Wx => Below wb.heap.size wb Wx) (R := fun v _ => v = .bool true) ?_ rfl ?_)
      · refine onward_call (f := 7) (vs := #[]) (by kernel_rfl) (by go_simp) ?_
        refine (HA.out _ (keepb HBW.out HS.out)).mono ?_
        rintro e wy ⟨he, hb⟩
        exact ⟨_, he, hb, keepb HS.out hb, rfl⟩
      rintro vv0 ww hbb hss hrr
      refine ⟨hss, ?_⟩
      clear HS
      subst hrr
      have HS := Lib.hid hss
      clear hss hbb
      go_simp
      refine wpAnyH_take (i := 1) (v := ?_) rfl (by kernel_rfl) (by kernel_rfl) (by kernel_rfl) (fun _ _ _ h => h) (Or.inl ⟨by rfl, ?_⟩) HS.out ?_
      rotate_left
      · intro Wx hWx
        go_simp
        try with_reducible rfl
      go_simp
      refine wpAnyH_take (i := 2) (v := ?_) rfl (by kernel_rfl) (by kernel_rfl) (by kernel_rfl) (fun _ _ _ h => h) (Or.inl ⟨by rfl, ?_⟩) HS.out ?_
      rotate_left
      · intro Wx hWx
        go_simp
        try with_reducible rfl
      go_simp
      refine wpAnyH_take (i := 3) (v := ?_) rfl (by kernel_rfl) (by kernel_rfl) (by kernel_rfl) (fun _ _ _ h => h) (Or.inl ⟨by rfl, ?_⟩) HS.out ?_
      rotate_left
      · intro Wx hWx
        go_simp
        try with_reducible rfl
      go_simp
      refine wpAnyH_take (i := 4) (v := ?_) rfl (by kernel_rfl) (by kernel_rfl) (by kernel_rfl) (fun _ _ _ h => h) (Or.inl ⟨by rfl, ?_⟩) HS.out ?_
      rotate_left
      · intro Wx hWx
        have q1 := keepc q0 hWx
        have q2 := Nat.lt_of_lt_of_le ql hWx.size
        go_simp
        try with_reducible rfl
      go_simp
      refine wpAnyH_take (i := 6) (v := ?_) rfl (by kernel_rfl) (by kernel_rfl) (by kernel_rfl) (fun _ _ _ h => h) (Or.inl ⟨by rfl, ?_⟩) HS.out ?_
      rotate_left
      · intro Wx hWx
        go_simp
        try with_reducible rfl
      go_simp
      refine wpAnyH_take (i := 7) (v := ?_) rfl (by kernel_rfl) (by kernel_rfl) (by kernel_rfl) (fun _ _ _ h => h) (Or.inl ⟨by rfl, ?_⟩) HS.out ?_
      rotate_left
      · intro Wx hWx
        go_simp
        try with_reducible rfl
      go_simp
      refine wpAnyH_take (i := 8) (v := ?_) rfl (by kernel_rfl) (by kernel_rfl) (by kernel_rfl) (fun _ _ _ h => h) (Or.inl ⟨by rfl, ?_⟩) HS.out ?_
      rotate_left
      · intro Wx hWx
        have q1 := keepc q0 hWx
        have q2 := Nat.lt_of_lt_of_le ql hWx.size
        go_simp
        try with_reducible rfl
      go_simp
      refine hall_one (i := 5) (by kernel_rfl) (Onward.at_ (I := fun Wx => Below wb.heap.size wb Wx) (R := fun v Wx => IntsAt Wx 0 v (findL l s P)) ?_ rfl ?_)
      · refine onward_call (f := 11) (vs := #[.slice ao n cap, .string s, .agg #[.slice qo m qc]]) (by kernel_rfl) (by go_simp) ?_
        refine (HFD.out _ (keepb HBW.out HS.out)).mono ?_
        rintro e wy ⟨v, he, ho, hb⟩
        exact ⟨_, he, hb, keepb HS.out hb, ho.ints.mono (Nat.zero_le _)⟩
      rintro vv5 ww hbb hss hrr
      refine ⟨hss, ?_⟩
      clear HS
      have HS := Lib.hid hss
      have HR := Lib.hid hrr
      clear hss hbb hrr
      go_simp
      refine hall_one (i := 9) (by kernel_rfl) (Onward.at_ (I := fun Wx => Below wb.heap.size wb Wx) (R := fun v Wx => IntsAt Wx 0 v (findL l s P)) ?_ rfl ?_)
      · refine onward_call (f := 12) (vs := #[.slice ao n cap, .string s, .agg #[.slice qo m qc]]) (by kernel_rfl) (by go_simp) ?_
        refine (HRF.out _ (keepb HBW.out HS.out)).mono ?_
        rintro e wy ⟨v, he, ho, hb⟩
        exact ⟨_, he, hb, keepb HS.out hb, ho.mono (Nat.zero_le _)⟩
      rintro vv9 ww hbb hss hrr
      refine ⟨hss, ?_⟩
      clear HS
      have HS := Lib.hid hss
      have HR2 := Lib.hid hrr
      have HR1 := Lib.hid (HR.out.below hbb)
      clear hss hbb hrr HR
      go_simp
      refine hall_one (i := 10) (by kernel_rfl) (Onward.at_ (I := fun Wx => Below wb.heap.size wb Wx) (R := fun v _ => v = .bool true) ?_ rfl ?_)
      · refine onward_call (f := 8) (vs := #[vv5, vv9]) (by kernel_rfl) (by go_simp) ?_
        refine (intsat_any _ _ (findL l s P) 0 0 HFL.out _ HR1.out HR2.out).mono ?_
        rintro e wy ⟨he, hb⟩
        exact ⟨_, he, hb, keepb HS.out hb, rfl⟩
      rintro vv10 ww hbb hss hrr
      refine ⟨hss, ?_⟩
      clear HS
      subst hrr
      have HS := Lib.hid hss
      clear hss hbb
      go_simp
      refine wpAnyH_take (i := 11) (v := ?_) rfl (by kernel_rfl) (by kernel_rfl) (by kernel_rfl) (fun _ _ _ h => h) (Or.inl ⟨by rfl, ?_⟩) HS.out ?_
      rotate_left
      · intro Wx hWx
        go_simp
        try with_reducible rfl
      go_simp
      refine wpAnyH_take (i := 12) (v := ?_) rfl (by kernel_rfl) (by kernel_rfl) (by kernel_rfl) (fun _ _ _ h => h) (Or.inl ⟨by rfl, ?_⟩) HS.out ?_
      rotate_left
      · intro Wx hWx
        go_simp
        try with_reducible rfl
      go_simp
      refine wpAnyH_done (by kernel_rfl) ?_ _
      go_wp2
      go_ret
      exact ⟨rfl, keepb HBW.out HS.out⟩
end Go.Proofs.Ytnopnjleibbakab
