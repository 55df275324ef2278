/- Queries that may be: the walks of the reference's Right. -/
import Derived.Test.YtialpofiagiclaaDoorQpM
namespace Go.Proofs.YtialpofiagiclaaDoor
set_option linter.unusedVariables false
set_option maxRecDepth 1000000
open Go.RowKit Go.Sort

set_option maxRecDepth 1000000 in
set_option maxHeartbeats 3200000 in
theorem rqright_any (P : List (List Hp)) (qo : Option Addr) (qc : Nat) (hP : (P.length : Int) ≤ 1000) (hPL : ∀ p ∈ P, (p.length : Int) ≤ 1000 ∧ ∀ x ∈ p, x.nm.size ≤ maxLen) (w : World) (hq : HasQ w qo P) :
    Calls Tryd.prog 14 #[.agg #[.slice qo P.length qc]] w fun e w' => e = .returned (.bool (rightQ P)) ∧ Below w.heap.size w w' := by
  have HQ := Lib.hid hq
  have HPL := Lib.hid hPL
  have HR := Lib.hid (show rightQ P = (decide (1 ≤ P.length) && decide (P.length ≤ 8) && P.all rightP) from rfl)
  generalize rightQ P = R at *
  obtain ⟨m, hm⟩ : ∃ m, P.length = m := ⟨_, rfl⟩
  have HM := Lib.hid hm
  rw [hm] at HR hP ⊢
  have HB0 := Lib.hid ((Below.refl w.heap.size w).alloc (Nat.le_refl _) (.cells #[.slice qo m qc] 24))
  have HO0 := Lib.hid (Own.fresh w 24 [.slice qo m qc])
  clear hq hPL hm
  go_enter Tryd.func14, Tryd.ntmps14
  go_wp2_with fail
  generalize World.alloc w _ = w1 at *
  go_loopw [3] (fun b3 wr => ∃ k : Nat, b3 = .int .i64 (k : Int) ∧ (k : Int) ≤ m ∧ Hid ((P.take k).all rightP = true) ∧ Hid (Below w.heap.size w wr) ∧ Hid (Own wr w.heap.size 24 [.slice qo m qc])) (fun b3 _ => m - (intOf b3).toNat)
  case atStart => exact ⟨0, rfl, by omega, Lib.hid rfl, HB0, HO0⟩
  case round =>
    obtain ⟨k, rfl, hk, HA, HB, HO⟩ := hrel
    clear HB0 HO0
    have p0 : wr.cell? ⟨w.heap.size, 0, none⟩ = some (.slice qo m qc) := HO.out.cell 0
    have pl := HO.out.lt
    by_cases h2 : (k : Int) < m
    · obtain ⟨p, hp⟩ : ∃ p, P[k]? = some p := ⟨_, List.getElem?_eq_getElem (by have := HM.out; omega)⟩
      obtain ⟨g, off, po, pc, rfl, hg, hc, hh⟩ := HQ.out k p hp
      have HH := Lib.hid hh
      have hpl := HPL.out p (List.mem_of_getElem? hp)
      have HXN := Lib.hid hpl.2
      have hpl := hpl.1
      have HPK := Lib.hid hp
      have HC0 := Lib.hid hc
      have HG0 := Lib.hid hg
      have hw1 : IntKind.i64.wrap ((k : Int) + 1) = (k : Int) + 1 := by rw [IntKind.wrap_i64]; omega
      obtain ⟨n2, hn2⟩ : ∃ n, p.length = n := ⟨_, rfl⟩
      have HN2 := Lib.hid hn2
      rw [hn2] at HC0 hpl
      have HPR := Lib.hid (show rightP p = (decide (1 ≤ p.length) && decide (p.length ≤ 12) && p.all rightH) from rfl)
      rw [hn2] at HPR
      clear hh hp hc hg hn2
      go_wp2_with fail
      clear p0 pl
      go_loopw [4] (fun b4 wr => ∃ q : Nat, b4 = .int .i64 (q : Int) ∧ (q : Int) ≤ n2 ∧ Hid ((p.take q).all rightH = true) ∧ Hid (Below w.heap.size w wr) ∧ Hid (Own wr w.heap.size 24 [.slice (some ⟨g, off, none⟩) m qc])) (fun b4 _ => n2 - (intOf b4).toNat)
      case atStart => exact ⟨0, rfl, by omega, Lib.hid rfl, HB, HO⟩
      case round =>
        obtain ⟨q, rfl, hq, HA3, HB3, HO3⟩ := hrel
        clear HB HO
        have p0 : wr.cell? ⟨w.heap.size, 0, none⟩ = some (.slice (some ⟨g, off, none⟩) m qc) := HO3.out.cell 0
        have pl := HO3.out.lt
        have hcw := keepc HC0.out HB3.out
        have hgw := Nat.lt_of_lt_of_le HG0.out HB3.out.size
        by_cases h5 : (q : Int) < n2
        · obtain ⟨x, hx⟩ : ∃ x, p[q]? = some x := ⟨_, List.getElem?_eq_getElem (by have := HN2.out; omega)⟩
          obtain ⟨g2, of2, rfl, hg2, c0, c1, c2, c3, c4, c5⟩ := HH.out q x hx
          have hxn := HXN.out x (List.mem_of_getElem? hx)
          have HXQ := Lib.hid hx
          have d0 := keepc c0 HB3.out
          have d1 := keepc c1 HB3.out
          have d2 := keepc c2 HB3.out
          have d3 := keepc c3 HB3.out
          have d4 := keepc c4 HB3.out
          have d5 := keepc c5 HB3.out
          have hg2w := Nat.lt_of_lt_of_le hg2 HB3.out.size
          have hw2 : IntKind.i64.wrap ((q : Int) + 1) = (q : Int) + 1 := by rw [IntKind.wrap_i64]; omega
          clear hx c0 c1 c2 c3 c4 c5 hg2
          have HB4 := Lib.hid (HB3.out.alloc HB3.out.size (.cells #[.int .i64 x.ax, .int .i64 x.kd, .string x.nm, .string x.is, .string x.has, .int .i64 x.nth] 38))
          have HX4 := Lib.hid (Own.fresh wr 38 [.int .i64 x.ax, .int .i64 x.kd, .string x.nm, .string x.is, .string x.has, .int .i64 x.nth])
          have HO4 := Lib.hid (HO3.out.on_alloc (.cells #[.int .i64 x.ax, .int .i64 x.kd, .string x.nm, .string x.is, .string x.has, .int .i64 x.nth] 38))
          have HRH := Lib.hid (show rightH x = (decide (1 ≤ x.ax) && decide (x.ax ≤ 4) && decide (0 ≤ x.kd) && decide (x.kd ≤ 5) && nmB x && decide (x.is.size ≤ 40) && decide (x.has.size ≤ 40) && decide (0 ≤ x.nth) && decide (x.nth ≤ 9999)) from rfl)
          have HNM := Lib.hid (show nmB x = (x.nm.toList.isEmpty || wordB x.nm && x.kd == 0) from rfl)
          obtain ⟨wb, hwb⟩ : ∃ b, wordB x.nm = b := ⟨_, rfl⟩
          have HW := Lib.hid (fun W => (rword_any x.nm hxn W).mono fun e w' (h : e = .returned (.bool (wordB x.nm)) ∧ W = w') => (⟨by rw [h.1, hwb], h.2.symm⟩ : e = .returned (.bool wb) ∧ w' = W))
          rw [hwb] at HNM
          obtain ⟨z0, hz0⟩ : ∃ z, x.nm.toList.isEmpty = z := ⟨_, rfl⟩
          rw [hz0] at HNM
          obtain ⟨k0, hk0⟩ : ∃ z, (x.kd == 0) = z := ⟨_, rfl⟩
          rw [hk0] at HNM
          clear hwb hxn
          go_upto_region 8 with fail
          generalize World.alloc wr _ = w4 at *
          obtain ⟨y0, y1, y2, y3, y4, y5, yg, -⟩ := HX4.out.six
          clear d0 d1 d2 d3 d4 d5 hg2w p0 pl hcw hgw HB3 HO3
          by_cases h1 : 1 ≤ x.ax
          · skip
            by_cases a2 : x.ax ≤ 4
            · skip
              by_cases h3 : 0 ≤ x.kd
              · skip
                by_cases h4 : x.kd ≤ 5
                · skip
                  cases z0 with
                  | true =>
                    by_cases h6 : x.is.size ≤ 40
                    · skip
                      by_cases h7 : x.has.size ≤ 40
                      · skip
                        by_cases h8 : 0 ≤ x.nth
                        · skip
                          by_cases h9 : x.nth ≤ 9999
                          · skip
                            have HA4 := Lib.hid (show (p.take (q + 1)).all rightH = true by rw [all_take HXQ.out, HA3.out, HRH.out, HNM.out]; simp [h1, a2, h3, h4, h6, h7, h8, h9])
                            go_wp2
                            go_roundw
                            case rel => exact ⟨q + 1, by go_num, by omega, HA4, HB4, HO4⟩
                            case measure => simp [intOf]; omega
                          · skip
                            have HE := Lib.hid (show R = false by rw [HR.out, all_miss HPK.out (by rw [HPR.out, all_miss HXQ.out (by rw [HRH.out, HNM.out]; simp [h1, a2, h3, h4, h6, h7, h8, h9])]; simp)]; simp)
                            go_wp2
                            go_ret
                            exact ⟨ret_bool HE.out.symm, HB4.out⟩
                        · skip
                          have HE := Lib.hid (show R = false by rw [HR.out, all_miss HPK.out (by rw [HPR.out, all_miss HXQ.out (by rw [HRH.out, HNM.out]; simp [h1, a2, h3, h4, h6, h7, h8])]; simp)]; simp)
                          go_wp2
                          go_ret
                          exact ⟨ret_bool HE.out.symm, HB4.out⟩
                      · skip
                        have HE := Lib.hid (show R = false by rw [HR.out, all_miss HPK.out (by rw [HPR.out, all_miss HXQ.out (by rw [HRH.out, HNM.out]; simp [h1, a2, h3, h4, h6, h7])]; simp)]; simp)
                        go_wp2
                        go_ret
                        exact ⟨ret_bool HE.out.symm, HB4.out⟩
                    · skip
                      have HE := Lib.hid (show R = false by rw [HR.out, all_miss HPK.out (by rw [HPR.out, all_miss HXQ.out (by rw [HRH.out, HNM.out]; simp [h1, a2, h3, h4, h6])]; simp)]; simp)
                      go_wp2
                      go_ret
                      exact ⟨ret_bool HE.out.symm, HB4.out⟩
                  | false =>
                    cases k0 with
                    | false =>
                      have hn0 : (x.kd != 0) = true := by rw [bne, hk0]; rfl
                      have g1 : decide (x.ax < 1) = false := decide_eq_false (by omega)
                      have g2 : decide (4 < x.ax) = false := decide_eq_false (by omega)
                      have g3 : decide (x.kd < 0) = false := decide_eq_false (by omega)
                      have g4 : decide (5 < x.kd) = false := decide_eq_false (by omega)
                      have HE := Lib.hid (show R = false by rw [HR.out, all_miss HPK.out (by rw [HPR.out, all_miss HXQ.out (by rw [HRH.out, HNM.out]; simp [h1, a2, h3, h4])]; simp)]; simp)
                      go_wp2
                      go_ret
                      exact ⟨ret_bool HE.out.symm, HB4.out⟩
                    | true =>
                      cases wb with
                      | false =>
                        have HE := Lib.hid (show R = false by rw [HR.out, all_miss HPK.out (by rw [HPR.out, all_miss HXQ.out (by rw [HRH.out, HNM.out]; simp [h1, a2, h3, h4])]; simp)]; simp)
                        have g1 : decide (x.ax < 1) = false := decide_eq_false (by omega)
                        have g2 : decide (4 < x.ax) = false := decide_eq_false (by omega)
                        have hn0 : (x.kd != 0) = false := by rw [bne, hk0]; rfl
                        have g3 : decide (x.kd < 0) = false := decide_eq_false (by omega)
                        have g4 : decide (5 < x.kd) = false := decide_eq_false (by omega)
                        go_wp2_with fail
                        refine (HW.out _).mono ?_
                        rintro e w5 ⟨rfl, rfl⟩
                        go_wp2
                        go_ret
                        exact ⟨ret_bool HE.out.symm, HB4.out⟩
                      | true =>
                        by_cases h6 : x.is.size ≤ 40
                        · skip
                          by_cases h7 : x.has.size ≤ 40
                          · skip
                            by_cases h8 : 0 ≤ x.nth
                            · skip
                              by_cases h9 : x.nth ≤ 9999
                              · skip
                                have fh6 : decide (40 < x.is.size) = false := decide_eq_false (by omega)
                                have fh7 : decide (40 < x.has.size) = false := decide_eq_false (by omega)
                                have fh8 : decide (x.nth < 0) = false := decide_eq_false (by omega)
                                have fh9 : decide (9999 < x.nth) = false := decide_eq_false (by omega)
                                have HA4 := Lib.hid (show (p.take (q + 1)).all rightH = true by rw [all_take HXQ.out, HA3.out, HRH.out, HNM.out]; simp [h1, a2, h3, h4, h6, h7, h8, h9])
                                have g1 : decide (x.ax < 1) = false := decide_eq_false (by omega)
                                have g2 : decide (4 < x.ax) = false := decide_eq_false (by omega)
                                have hn0 : (x.kd != 0) = false := by rw [bne, hk0]; rfl
                                have g3 : decide (x.kd < 0) = false := decide_eq_false (by omega)
                                have g4 : decide (5 < x.kd) = false := decide_eq_false (by omega)
                                go_wp2_with fail
                                refine (HW.out _).mono ?_
                                rintro e w5 ⟨rfl, rfl⟩
                                go_wp2
                                go_roundw
                                case rel => exact ⟨q + 1, by go_num, by omega, HA4, HB4, HO4⟩
                                case measure => simp [intOf]; omega
                              · skip
                                have fh6 : decide (40 < x.is.size) = false := decide_eq_false (by omega)
                                have fh7 : decide (40 < x.has.size) = false := decide_eq_false (by omega)
                                have fh8 : decide (x.nth < 0) = false := decide_eq_false (by omega)
                                have fh9 : decide (9999 < x.nth) = true := decide_eq_true (by omega)
                                have HE := Lib.hid (show R = false by rw [HR.out, all_miss HPK.out (by rw [HPR.out, all_miss HXQ.out (by rw [HRH.out, HNM.out]; simp [h1, a2, h3, h4, h6, h7, h8, h9])]; simp)]; simp)
                                have g1 : decide (x.ax < 1) = false := decide_eq_false (by omega)
                                have g2 : decide (4 < x.ax) = false := decide_eq_false (by omega)
                                have hn0 : (x.kd != 0) = false := by rw [bne, hk0]; rfl
                                have g3 : decide (x.kd < 0) = false := decide_eq_false (by omega)
                                have g4 : decide (5 < x.kd) = false := decide_eq_false (by omega)
                                go_wp2_with fail
                                refine (HW.out _).mono ?_
                                rintro e w5 ⟨rfl, rfl⟩
                                go_wp2
                                go_ret
                                exact ⟨ret_bool HE.out.symm, HB4.out⟩
                            · skip
                              have fh6 : decide (40 < x.is.size) = false := decide_eq_false (by omega)
                              have fh7 : decide (40 < x.has.size) = false := decide_eq_false (by omega)
                              have fh8 : decide (x.nth < 0) = true := decide_eq_true (by omega)
                              have HE := Lib.hid (show R = false by rw [HR.out, all_miss HPK.out (by rw [HPR.out, all_miss HXQ.out (by rw [HRH.out, HNM.out]; simp [h1, a2, h3, h4, h6, h7, h8])]; simp)]; simp)
                              have g1 : decide (x.ax < 1) = false := decide_eq_false (by omega)
                              have g2 : decide (4 < x.ax) = false := decide_eq_false (by omega)
                              have hn0 : (x.kd != 0) = false := by rw [bne, hk0]; rfl
                              have g3 : decide (x.kd < 0) = false := decide_eq_false (by omega)
                              have g4 : decide (5 < x.kd) = false := decide_eq_false (by omega)
                              go_wp2_with fail
                              refine (HW.out _).mono ?_
                              rintro e w5 ⟨rfl, rfl⟩
                              go_wp2
                              go_ret
                              exact ⟨ret_bool HE.out.symm, HB4.out⟩
                          · skip
                            have fh6 : decide (40 < x.is.size) = false := decide_eq_false (by omega)
                            have fh7 : decide (40 < x.has.size) = true := decide_eq_true (by omega)
                            have HE := Lib.hid (show R = false by rw [HR.out, all_miss HPK.out (by rw [HPR.out, all_miss HXQ.out (by rw [HRH.out, HNM.out]; simp [h1, a2, h3, h4, h6, h7])]; simp)]; simp)
                            have g1 : decide (x.ax < 1) = false := decide_eq_false (by omega)
                            have g2 : decide (4 < x.ax) = false := decide_eq_false (by omega)
                            have hn0 : (x.kd != 0) = false := by rw [bne, hk0]; rfl
                            have g3 : decide (x.kd < 0) = false := decide_eq_false (by omega)
                            have g4 : decide (5 < x.kd) = false := decide_eq_false (by omega)
                            go_wp2_with fail
                            refine (HW.out _).mono ?_
                            rintro e w5 ⟨rfl, rfl⟩
                            go_wp2
                            go_ret
                            exact ⟨ret_bool HE.out.symm, HB4.out⟩
                        · skip
                          have fh6 : decide (40 < x.is.size) = true := decide_eq_true (by omega)
                          have HE := Lib.hid (show R = false by rw [HR.out, all_miss HPK.out (by rw [HPR.out, all_miss HXQ.out (by rw [HRH.out, HNM.out]; simp [h1, a2, h3, h4, h6])]; simp)]; simp)
                          have g1 : decide (x.ax < 1) = false := decide_eq_false (by omega)
                          have g2 : decide (4 < x.ax) = false := decide_eq_false (by omega)
                          have hn0 : (x.kd != 0) = false := by rw [bne, hk0]; rfl
                          have g3 : decide (x.kd < 0) = false := decide_eq_false (by omega)
                          have g4 : decide (5 < x.kd) = false := decide_eq_false (by omega)
                          go_wp2_with fail
                          refine (HW.out _).mono ?_
                          rintro e w5 ⟨rfl, rfl⟩
                          go_wp2
                          go_ret
                          exact ⟨ret_bool HE.out.symm, HB4.out⟩
                · skip
                  have HE := Lib.hid (show R = false by rw [HR.out, all_miss HPK.out (by rw [HPR.out, all_miss HXQ.out (by rw [HRH.out]; simp [h1, a2, h3, h4])]; simp)]; simp)
                  go_wp2
                  go_ret
                  exact ⟨ret_bool HE.out.symm, HB4.out⟩
              · skip
                have HE := Lib.hid (show R = false by rw [HR.out, all_miss HPK.out (by rw [HPR.out, all_miss HXQ.out (by rw [HRH.out]; simp [h1, a2, h3])]; simp)]; simp)
                go_wp2
                go_ret
                exact ⟨ret_bool HE.out.symm, HB4.out⟩
            · skip
              have HE := Lib.hid (show R = false by rw [HR.out, all_miss HPK.out (by rw [HPR.out, all_miss HXQ.out (by rw [HRH.out]; simp [h1, a2])]; simp)]; simp)
              go_wp2
              go_ret
              exact ⟨ret_bool HE.out.symm, HB4.out⟩
          · skip
            have HE := Lib.hid (show R = false by rw [HR.out, all_miss HPK.out (by rw [HPR.out, all_miss HXQ.out (by rw [HRH.out]; simp [h1])]; simp)]; simp)
            go_wp2
            go_ret
            exact ⟨ret_bool HE.out.symm, HB4.out⟩
        · obtain rfl : q = n2 := by omega
          by_cases h3 : 1 ≤ q
          · by_cases h4 : q ≤ 12
            · have g3 : ¬ (q : Int) < 1 := by omega
              have g4 : ¬ (12 : Int) < q := by omega
              have HA4 := Lib.hid (show (P.take (k + 1)).all rightP = true by
                have h := HA3.out
                rw [List.take_of_length_le (by rw [HN2.out]; omega)] at h
                rw [all_take HPK.out, HA.out, HPR.out, h]; simp [h3, h4])
              go_wp2
              go_roundw
              case rel => exact ⟨k + 1, by go_num, by omega, HA4, HB3, HO3⟩
              case measure => simp [intOf]; omega
            · have HE := Lib.hid (show R = false by rw [HR.out, all_miss HPK.out (by rw [HPR.out]; simp [h4])]; simp)
              have g3 : ¬ (q : Int) < 1 := by omega
              have g4 : (12 : Int) < q := by omega
              go_wp2
              go_ret
              exact ⟨ret_bool HE.out.symm, HB3.out⟩
          · have HE := Lib.hid (show R = false by rw [HR.out, all_miss HPK.out (by rw [HPR.out]; simp [h3])]; simp)
            have g3 : (q : Int) < 1 := by omega
            go_wp2
            go_ret
            exact ⟨ret_bool HE.out.symm, HB3.out⟩
    · obtain rfl : k = m := by omega
      have HR2 := Lib.hid (show R = (decide (1 ≤ k) && decide (k ≤ 8)) by rw [HR.out, ← List.take_of_length_le (l := P) (i := k) (by rw [HM.out]; omega), HA.out]; simp)
      by_cases h3 : 1 ≤ k
      · by_cases h4 : k ≤ 8
        · have HE := Lib.hid (show R = true by rw [HR2.out]; simp [h3, h4])
          have g3 : ¬ (k : Int) < 1 := by omega
          have g5 : (1 : Int) ≤ k := by omega
          have g4 : (k : Int) ≤ 8 := by omega
          go_wp2
          go_ret
          exact ⟨ret_bool HE.out.symm, HB.out⟩
        · have HE := Lib.hid (show R = false by rw [HR2.out]; simp [h4])
          have g3 : ¬ (k : Int) < 1 := by omega
          have g5 : (1 : Int) ≤ k := by omega
          have g4 : ¬ (k : Int) ≤ 8 := by omega
          go_wp2
          go_ret
          exact ⟨ret_bool HE.out.symm, HB.out⟩
      · have HE := Lib.hid (show R = false by rw [HR2.out]; simp [h3])
        have g5 : ¬ (1 : Int) ≤ k := by omega
        go_wp2
        go_ret
        exact ⟨ret_bool HE.out.symm, HB.out⟩
end Go.Proofs.YtialpofiagiclaaDoor
