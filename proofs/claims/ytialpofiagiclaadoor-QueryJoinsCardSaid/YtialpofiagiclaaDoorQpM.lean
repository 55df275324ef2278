/- Queries that may be: the walks of the program's Right. -/
import Derived.Test.YtialpofiagiclaaDoorQpL
namespace Go.Proofs.YtialpofiagiclaaDoor
set_option linter.unusedVariables false
set_option maxRecDepth 1000000
open Go.RowKit Go.Sort

def nmB (x : Hp) : Bool := x.nm.toList.isEmpty || wordB x.nm && x.kd == 0
def rightH (x : Hp) : Bool := decide (1 ≤ x.ax) && decide (x.ax ≤ 4) && decide (0 ≤ x.kd) && decide (x.kd ≤ 5) && nmB x && decide (x.is.size ≤ 40) && decide (x.has.size ≤ 40) && decide (0 ≤ x.nth) && decide (x.nth ≤ 9999)
def rightP (p : List Hp) : Bool := decide (1 ≤ p.length) && decide (p.length ≤ 12) && p.all rightH
def rightQ (P : List (List Hp)) : Bool := decide (1 ≤ P.length) && decide (P.length ≤ 8) && P.all rightP

set_option maxRecDepth 1000000 in
set_option maxHeartbeats 3200000 in
theorem righthop_any (x : Hp) (hs : x.nm.size ≤ maxLen) (w : World) : Calls Tryd.prog 28 #[.agg #[.int .i64 x.ax, .int .i64 x.kd, .string x.nm, .string x.is, .string x.has, .int .i64 x.nth]] w fun e w' => e = .returned (.bool (rightH x)) ∧ Below w.heap.size w w' := by
  have HR := Lib.hid (show rightH x = (decide (1 ≤ x.ax) && decide (x.ax ≤ 4) && decide (0 ≤ x.kd) && decide (x.kd ≤ 5) && nmB x && decide (x.is.size ≤ 40) && decide (x.has.size ≤ 40) && decide (0 ≤ x.nth) && decide (x.nth ≤ 9999)) from rfl)
  generalize rightH x = R at *
  have HNM := Lib.hid (show nmB x = (x.nm.toList.isEmpty || wordB x.nm && x.kd == 0) from rfl)
  generalize nmB x = NB at *
  obtain ⟨wb, hwb⟩ : ∃ b, wordB x.nm = b := ⟨_, rfl⟩
  have HW := Lib.hid (fun W => (word_any x.nm hs W).mono fun e w' (h : e = .returned (.bool (wordB x.nm)) ∧ W = w') => (⟨by rw [h.1, hwb], h.2.symm⟩ : e = .returned (.bool wb) ∧ w' = W))
  rw [hwb] at HNM
  have HB := Lib.hid ((Below.refl w.heap.size w).alloc (Nat.le_refl _) (.cells #[.int .i64 x.ax, .int .i64 x.kd, .string x.nm, .string x.is, .string x.has, .int .i64 x.nth] 38))
  have HO := Lib.hid (Own.fresh w 38 [.int .i64 x.ax, .int .i64 x.kd, .string x.nm, .string x.is, .string x.has, .int .i64 x.nth])
  obtain ⟨z0, hz0⟩ : ∃ z, x.nm.toList.isEmpty = z := ⟨_, rfl⟩
  rw [hz0] at HNM
  obtain ⟨k0, hk0⟩ : ∃ z, (x.kd == 0) = z := ⟨_, rfl⟩
  rw [hk0] at HNM
  clear hwb hs

  by_cases h1 : 1 ≤ x.ax
  · skip
    by_cases h2 : x.ax ≤ 4
    · skip
      by_cases h3 : 0 ≤ x.kd
      · skip
        by_cases h4 : x.kd ≤ 5
        · skip
          cases z0 with
          | true =>
            by_cases h6 : x.is.size ≤ 40
            · skip
              by_cases h7 : x.has.size ≤ 40
              · skip
                by_cases h8 : 0 ≤ x.nth
                · skip
                  by_cases h9 : x.nth ≤ 9999
                  · skip
                    have HE := Lib.hid (show R = true by rw [HR.out, HNM.out]; simp [h1, h2, h3, h4, h6, h7, h8, h9])
                    go_enter Tryd.func28, Tryd.ntmps28
                    go_upto_region 1 with fail
                    generalize World.alloc w _ = w1 at *
                    obtain ⟨x0, x1, x2, x3, x4, x5, xg, -⟩ := HO.out.six
                    go_wp2
                    go_ret
                    exact ⟨ret_bool (by first | exact HE.out.symm | (rw [HE.out]; exact decide_eq_false (by omega)) | (rw [HE.out]; exact decide_eq_true (by omega))), HB.out⟩
                  · have HE := Lib.hid (show R = false by rw [HR.out, HNM.out]; simp [h1, h2, h3, h4, h6, h7, h8, h9])
                    go_enter Tryd.func28, Tryd.ntmps28
                    go_upto_region 1 with fail
                    generalize World.alloc w _ = w1 at *
                    obtain ⟨x0, x1, x2, x3, x4, x5, xg, -⟩ := HO.out.six
                    go_wp2
                    go_ret
                    exact ⟨ret_bool (by first | exact HE.out.symm | (rw [HE.out]; exact decide_eq_false (by omega)) | (rw [HE.out]; exact decide_eq_true (by omega))), HB.out⟩
                · have HE := Lib.hid (show R = false by rw [HR.out, HNM.out]; simp [h1, h2, h3, h4, h6, h7, h8])
                  go_enter Tryd.func28, Tryd.ntmps28
                  go_upto_region 1 with fail
                  generalize World.alloc w _ = w1 at *
                  obtain ⟨x0, x1, x2, x3, x4, x5, xg, -⟩ := HO.out.six
                  go_wp2
                  go_ret
                  exact ⟨ret_bool (by first | exact HE.out.symm | (rw [HE.out]; exact decide_eq_false (by omega)) | (rw [HE.out]; exact decide_eq_true (by omega))), HB.out⟩
              · have HE := Lib.hid (show R = false by rw [HR.out, HNM.out]; simp [h1, h2, h3, h4, h6, h7])
                go_enter Tryd.func28, Tryd.ntmps28
                go_upto_region 1 with fail
                generalize World.alloc w _ = w1 at *
                obtain ⟨x0, x1, x2, x3, x4, x5, xg, -⟩ := HO.out.six
                go_wp2
                go_ret
                exact ⟨ret_bool (by first | exact HE.out.symm | (rw [HE.out]; exact decide_eq_false (by omega)) | (rw [HE.out]; exact decide_eq_true (by omega))), HB.out⟩
            · have HE := Lib.hid (show R = false by rw [HR.out, HNM.out]; simp [h1, h2, h3, h4, h6])
              go_enter Tryd.func28, Tryd.ntmps28
              go_upto_region 1 with fail
              generalize World.alloc w _ = w1 at *
              obtain ⟨x0, x1, x2, x3, x4, x5, xg, -⟩ := HO.out.six
              go_wp2
              go_ret
              exact ⟨ret_bool (by first | exact HE.out.symm | (rw [HE.out]; exact decide_eq_false (by omega)) | (rw [HE.out]; exact decide_eq_true (by omega))), HB.out⟩
          | false =>
            cases wb with
            | false =>
              have HE := Lib.hid (show R = false by rw [HR.out, HNM.out]; simp)
              go_enter Tryd.func28, Tryd.ntmps28
              go_upto_region 1 with fail
              generalize World.alloc w _ = w1 at *
              obtain ⟨x0, x1, x2, x3, x4, x5, xg, -⟩ := HO.out.six
              go_wp2_with fail
              refine (HW.out _).mono ?_
              rintro e w2 ⟨rfl, rfl⟩
              go_wp2
              go_ret
              exact ⟨ret_bool (by first | exact HE.out.symm | (rw [HE.out]; exact decide_eq_false (by omega)) | (rw [HE.out]; exact decide_eq_true (by omega))), HB.out⟩
            | true =>
              cases k0 with
              | false =>
                have HE := Lib.hid (show R = false by rw [HR.out, HNM.out]; simp)
                go_enter Tryd.func28, Tryd.ntmps28
                go_upto_region 1 with fail
                generalize World.alloc w _ = w1 at *
                obtain ⟨x0, x1, x2, x3, x4, x5, xg, -⟩ := HO.out.six
                go_wp2_with fail
                refine (HW.out _).mono ?_
                rintro e w2 ⟨rfl, rfl⟩
                go_wp2
                go_ret
                exact ⟨ret_bool (by first | exact HE.out.symm | (rw [HE.out]; exact decide_eq_false (by omega)) | (rw [HE.out]; exact decide_eq_true (by omega))), HB.out⟩
              | true =>
                by_cases h6 : x.is.size ≤ 40
                · skip
                  by_cases h7 : x.has.size ≤ 40
                  · skip
                    by_cases h8 : 0 ≤ x.nth
                    · skip
                      by_cases h9 : x.nth ≤ 9999
                      · skip
                        have HE := Lib.hid (show R = true by rw [HR.out, HNM.out]; simp [h1, h2, h3, h4, h6, h7, h8, h9])
                        go_enter Tryd.func28, Tryd.ntmps28
                        go_upto_region 1 with fail
                        generalize World.alloc w _ = w1 at *
                        obtain ⟨x0, x1, x2, x3, x4, x5, xg, -⟩ := HO.out.six
                        go_wp2_with fail
                        refine (HW.out _).mono ?_
                        rintro e w2 ⟨rfl, rfl⟩
                        go_wp2
                        go_ret
                        exact ⟨ret_bool (by first | exact HE.out.symm | (rw [HE.out]; exact decide_eq_false (by omega)) | (rw [HE.out]; exact decide_eq_true (by omega))), HB.out⟩
                      · have HE := Lib.hid (show R = false by rw [HR.out, HNM.out]; simp [h1, h2, h3, h4, h6, h7, h8, h9])
                        go_enter Tryd.func28, Tryd.ntmps28
                        go_upto_region 1 with fail
                        generalize World.alloc w _ = w1 at *
                        obtain ⟨x0, x1, x2, x3, x4, x5, xg, -⟩ := HO.out.six
                        go_wp2_with fail
                        refine (HW.out _).mono ?_
                        rintro e w2 ⟨rfl, rfl⟩
                        go_wp2
                        go_ret
                        exact ⟨ret_bool (by first | exact HE.out.symm | (rw [HE.out]; exact decide_eq_false (by omega)) | (rw [HE.out]; exact decide_eq_true (by omega))), HB.out⟩
                    · have HE := Lib.hid (show R = false by rw [HR.out, HNM.out]; simp [h1, h2, h3, h4, h6, h7, h8])
                      go_enter Tryd.func28, Tryd.ntmps28
                      go_upto_region 1 with fail
                      generalize World.alloc w _ = w1 at *
                      obtain ⟨x0, x1, x2, x3, x4, x5, xg, -⟩ := HO.out.six
                      go_wp2_with fail
                      refine (HW.out _).mono ?_
                      rintro e w2 ⟨rfl, rfl⟩
                      go_wp2
                      go_ret
                      exact ⟨ret_bool (by first | exact HE.out.symm | (rw [HE.out]; exact decide_eq_false (by omega)) | (rw [HE.out]; exact decide_eq_true (by omega))), HB.out⟩
                  · have HE := Lib.hid (show R = false by rw [HR.out, HNM.out]; simp [h1, h2, h3, h4, h6, h7])
                    go_enter Tryd.func28, Tryd.ntmps28
                    go_upto_region 1 with fail
                    generalize World.alloc w _ = w1 at *
                    obtain ⟨x0, x1, x2, x3, x4, x5, xg, -⟩ := HO.out.six
                    go_wp2_with fail
                    refine (HW.out _).mono ?_
                    rintro e w2 ⟨rfl, rfl⟩
                    go_wp2
                    go_ret
                    exact ⟨ret_bool (by first | exact HE.out.symm | (rw [HE.out]; exact decide_eq_false (by omega)) | (rw [HE.out]; exact decide_eq_true (by omega))), HB.out⟩
                · have HE := Lib.hid (show R = false by rw [HR.out, HNM.out]; simp [h1, h2, h3, h4, h6])
                  go_enter Tryd.func28, Tryd.ntmps28
                  go_upto_region 1 with fail
                  generalize World.alloc w _ = w1 at *
                  obtain ⟨x0, x1, x2, x3, x4, x5, xg, -⟩ := HO.out.six
                  go_wp2_with fail
                  refine (HW.out _).mono ?_
                  rintro e w2 ⟨rfl, rfl⟩
                  go_wp2
                  go_ret
                  exact ⟨ret_bool (by first | exact HE.out.symm | (rw [HE.out]; exact decide_eq_false (by omega)) | (rw [HE.out]; exact decide_eq_true (by omega))), HB.out⟩
        · have HE := Lib.hid (show R = false by rw [HR.out]; simp [h1, h2, h3, h4])
          go_enter Tryd.func28, Tryd.ntmps28
          go_upto_region 1 with fail
          generalize World.alloc w _ = w1 at *
          obtain ⟨x0, x1, x2, x3, x4, x5, xg, -⟩ := HO.out.six
          go_wp2
          go_ret
          exact ⟨ret_bool (by first | exact HE.out.symm | (rw [HE.out]; exact decide_eq_false (by omega)) | (rw [HE.out]; exact decide_eq_true (by omega))), HB.out⟩
      · have HE := Lib.hid (show R = false by rw [HR.out]; simp [h1, h2, h3])
        go_enter Tryd.func28, Tryd.ntmps28
        go_upto_region 1 with fail
        generalize World.alloc w _ = w1 at *
        obtain ⟨x0, x1, x2, x3, x4, x5, xg, -⟩ := HO.out.six
        go_wp2
        go_ret
        exact ⟨ret_bool (by first | exact HE.out.symm | (rw [HE.out]; exact decide_eq_false (by omega)) | (rw [HE.out]; exact decide_eq_true (by omega))), HB.out⟩
    · have HE := Lib.hid (show R = false by rw [HR.out]; simp [h1, h2])
      go_enter Tryd.func28, Tryd.ntmps28
      go_upto_region 1 with fail
      generalize World.alloc w _ = w1 at *
      obtain ⟨x0, x1, x2, x3, x4, x5, xg, -⟩ := HO.out.six
      go_wp2
      go_ret
      exact ⟨ret_bool (by first | exact HE.out.symm | (rw [HE.out]; exact decide_eq_false (by omega)) | (rw [HE.out]; exact decide_eq_true (by omega))), HB.out⟩
  · have HE := Lib.hid (show R = false by rw [HR.out]; simp [h1])
    go_enter Tryd.func28, Tryd.ntmps28
    go_upto_region 1 with fail
    generalize World.alloc w _ = w1 at *
    obtain ⟨x0, x1, x2, x3, x4, x5, xg, -⟩ := HO.out.six
    go_wp2
    go_ret
    exact ⟨ret_bool (by first | exact HE.out.symm | (rw [HE.out]; exact decide_eq_false (by omega)) | (rw [HE.out]; exact decide_eq_true (by omega))), HB.out⟩

theorem rightP_nm {p : List Hp} (h : p.all rightH = true) {x : Hp} (hx : x ∈ p) : rightH x = true := List.all_eq_true.1 h x hx
theorem all_take {α : Type} {f : α → Bool} {L : List α} {k : Nat} {y : α} (h : L[k]? = some y) : (L.take (k + 1)).all f = ((L.take k).all f && f y) := by
  rw [List.take_add_one, h, List.all_append]; simp
theorem all_miss {α : Type} {f : α → Bool} {L : List α} {k : Nat} {y : α} (h : L[k]? = some y) (hf : f y = false) : L.all f = false := by
  cases ha : L.all f with
  | false => rfl
  | true => exact absurd (List.all_eq_true.1 ha y (List.mem_of_getElem? h)) (by rw [hf]; decide)

set_option maxRecDepth 1000000 in
set_option maxHeartbeats 3200000 in
theorem qright_any (P : List (List Hp)) (qo : Option Addr) (qc : Nat) (hP : (P.length : Int) ≤ 1000) (hPL : ∀ p ∈ P, (p.length : Int) ≤ 1000 ∧ ∀ x ∈ p, x.nm.size ≤ maxLen) (w : World) (hq : HasQ w qo P) :
    Calls Tryd.prog 13 #[.agg #[.slice qo P.length qc]] w fun e w' => e = .returned (.bool (rightQ P)) ∧ Below w.heap.size w w' := by
  have HQ := Lib.hid hq
  have HPL := Lib.hid hPL
  have HR := Lib.hid (show rightQ P = (decide (1 ≤ P.length) && decide (P.length ≤ 8) && P.all rightP) from rfl)
  generalize rightQ P = R at *
  obtain ⟨m, hm⟩ : ∃ m, P.length = m := ⟨_, rfl⟩
  have HM := Lib.hid hm
  rw [hm] at HR hP ⊢
  have HB0 := Lib.hid ((Below.refl w.heap.size w).alloc (Nat.le_refl _) (.cells #[.slice qo m qc] 24))
  have HO0 := Lib.hid (Own.fresh w 24 [.slice qo m qc])
  clear hq hPL hm
  by_cases h1 : 1 ≤ m
  · by_cases h8 : m ≤ 8
    · have HR2 := Lib.hid (show R = P.all rightP by rw [HR.out]; simp [h1, h8])
      have g1 : ¬ (m : Int) < 1 := by omega
      have g8 : ¬ (8 : Int) < m := by omega
      go_enter Tryd.func13, Tryd.ntmps13
      go_wp2_with fail
      generalize World.alloc w _ = w1 at *
      go_loopw [20] (fun b20 wr => ∃ k : Nat, b20 = .int .i64 (k : Int) ∧ (k : Int) ≤ m ∧ Hid ((P.take k).all rightP = true) ∧ Hid (Below w.heap.size w wr)) (fun b20 _ => m - (intOf b20).toNat)
      case atStart => exact ⟨0, rfl, by omega, Lib.hid rfl, HB0⟩
      case round =>
        obtain ⟨k, rfl, hk, HA, HB⟩ := hrel
        clear HB0 HO0
        by_cases h2 : (k : Int) < m
        · obtain ⟨p, hp⟩ : ∃ p, P[k]? = some p := ⟨_, List.getElem?_eq_getElem (by have := HM.out; omega)⟩
          obtain ⟨g, off, po, pc, rfl, hg, hc, hh⟩ := HQ.out k p hp
          have HH := Lib.hid hh
          have hpl := HPL.out p (List.mem_of_getElem? hp)
          have HXN := Lib.hid hpl.2
          have hpl := hpl.1
          have HPK := Lib.hid hp
          have hcw := keepc hc HB.out
          have hgw := Nat.lt_of_lt_of_le hg HB.out.size
          have hw1 : IntKind.i64.wrap ((k : Int) + 1) = (k : Int) + 1 := by rw [IntKind.wrap_i64]; omega
          obtain ⟨n2, hn2⟩ : ∃ n, p.length = n := ⟨_, rfl⟩
          have HN2 := Lib.hid hn2
          rw [hn2] at hcw hpl
          have HPR := Lib.hid (show rightP p = (decide (1 ≤ p.length) && decide (p.length ≤ 12) && p.all rightH) from rfl)
          rw [hn2] at HPR
          clear hh hp hc hg hn2
          by_cases h3 : 1 ≤ n2
          · by_cases h4 : n2 ≤ 12
            · have HPR2 := Lib.hid (show rightP p = p.all rightH by rw [HPR.out]; simp [h3, h4])
              have g3 : ¬ (n2 : Int) < 1 := by omega
              have g4 : ¬ (12 : Int) < n2 := by omega
              go_wp2_with fail
              go_loopw [34] (fun b34 wr => ∃ q : Nat, b34 = .int .i64 (q : Int) ∧ (q : Int) ≤ n2 ∧ Hid ((p.take q).all rightH = true) ∧ Hid (Below w.heap.size w wr)) (fun b34 _ => n2 - (intOf b34).toNat)
              case atStart => exact ⟨0, rfl, by omega, Lib.hid rfl, HB⟩
              case round =>
                obtain ⟨q, rfl, hq, HA3, HB3⟩ := hrel
                clear HB hcw
                by_cases h5 : (q : Int) < n2
                · obtain ⟨x, hx⟩ : ∃ x, p[q]? = some x := ⟨_, List.getElem?_eq_getElem (by have := HN2.out; omega)⟩
                  obtain ⟨g2, of2, rfl, hg2, c0, c1, c2, c3, c4, c5⟩ := HH.out q x hx
                  have hxn := HXN.out x (List.mem_of_getElem? hx)
                  have HXQ := Lib.hid hx
                  have d0 := keepc c0 HB3.out
                  have d1 := keepc c1 HB3.out
                  have d2 := keepc c2 HB3.out
                  have d3 := keepc c3 HB3.out
                  have d4 := keepc c4 HB3.out
                  have d5 := keepc c5 HB3.out
                  have hg2w := Nat.lt_of_lt_of_le hg2 HB3.out.size
                  have hw2 : IntKind.i64.wrap ((q : Int) + 1) = (q : Int) + 1 := by rw [IntKind.wrap_i64]; omega
                  have HRX := Lib.hid (fun W => righthop_any x hxn W)
                  clear hx c0 c1 c2 c3 c4 c5 hg2 hxn
                  have HB4 := Lib.hid (HB3.out.alloc HB3.out.size (.cells #[.int .i64 x.ax, .int .i64 x.kd, .string x.nm, .string x.is, .string x.has, .int .i64 x.nth] 38))
                  have HX4 := Lib.hid (Own.fresh wr 38 [.int .i64 x.ax, .int .i64 x.kd, .string x.nm, .string x.is, .string x.has, .int .i64 x.nth])
                  obtain ⟨rx, hrx⟩ : ∃ b, rightH x = b := ⟨_, rfl⟩
                  rw [hrx] at HRX
                  have HRQ := Lib.hid hrx
                  clear hrx
                  go_upto_region 11 with fail
                  generalize World.alloc wr _ = w4 at *
                  obtain ⟨y0, y1, y2, y3, y4, y5, yg, -⟩ := HX4.out.six
                  clear HB3 d0 d1 d2 d3 d4 d5 hg2w
                  go_wp2_with fail
                  refine (HRX.out _).mono ?_
                  rintro e w5 ⟨rfl, hb5⟩
                  have HB5 := Lib.hid (keepb HB4.out hb5)
                  clear hb5 HB4 HX4 y0 y1 y2 y3 y4 y5 yg
                  cases rx with
                  | false =>
                    have HE := Lib.hid (show R = false by rw [HR2.out]; exact all_miss HPK.out (by rw [HPR2.out]; exact all_miss HXQ.out HRQ.out))
                    go_wp2
                    go_ret
                    exact ⟨ret_bool HE.out.symm, HB5.out⟩
                  | true =>
                    have HA4 := Lib.hid (show (p.take (q + 1)).all rightH = true by rw [all_take HXQ.out, HA3.out, HRQ.out]; rfl)
                    go_wp2
                    go_roundw
                    case rel => exact ⟨q + 1, by go_num, by omega, HA4, HB5⟩
                    case measure => simp [intOf]; omega
                · obtain rfl : q = n2 := by omega
                  have HA4 := Lib.hid (show (P.take (k + 1)).all rightP = true by
                    have h := HA3.out
                    rw [List.take_of_length_le (by rw [HN2.out]; omega)] at h
                    rw [all_take HPK.out, HA.out, HPR2.out, h]; rfl)
                  go_wp2
                  go_roundw
                  case rel => exact ⟨k + 1, by go_num, by omega, HA4, HB3⟩
                  case measure => simp [intOf]; omega
            · have HE := Lib.hid (show R = false by rw [HR2.out]; exact all_miss HPK.out (by rw [HPR.out]; simp [h4]))
              have g3 : ¬ (n2 : Int) < 1 := by omega
              have g4 : (12 : Int) < n2 := by omega
              go_wp2
              go_ret
              exact ⟨ret_bool HE.out.symm, HB.out⟩
          · have HE := Lib.hid (show R = false by rw [HR2.out]; exact all_miss HPK.out (by rw [HPR.out]; simp [h3]))
            have g3 : (n2 : Int) < 1 := by omega
            go_wp2
            go_ret
            exact ⟨ret_bool HE.out.symm, HB.out⟩
        · obtain rfl : k = m := by omega
          have HE := Lib.hid (show R = true by rw [HR2.out, ← HA.out, List.take_of_length_le (by rw [HM.out]; omega)])
          go_wp2
          go_ret
          exact ⟨ret_bool HE.out.symm, HB.out⟩
    · have HE := Lib.hid (show R = false by rw [HR.out]; simp [h8])
      have g1 : ¬ (m : Int) < 1 := by omega
      have g8 : (8 : Int) < m := by omega
      go_enter Tryd.func13, Tryd.ntmps13
      go_wp2
      go_ret
      exact ⟨ret_bool HE.out.symm, HB0.out⟩
  · have HE := Lib.hid (show R = false by rw [HR.out]; simp [h1])
    have g1 : (m : Int) < 1 := by omega
    go_enter Tryd.func13, Tryd.ntmps13
    go_wp2
    go_ret
    exact ⟨ret_bool HE.out.symm, HB0.out⟩

end Go.Proofs.YtialpofiagiclaaDoor
