/- Is a query more than is looked at: the walk of the law's wide. -/
import Derived.Test.YtialpofiagiclaaDoorQpN
namespace Go.Proofs.YtialpofiagiclaaDoor
set_option linter.unusedVariables false
set_option maxRecDepth 1000000
open Go.RowKit Go.Sort

theorem any_take {α : Type} {f : α → Bool} {L : List α} {k : Nat} {y : α} (h : L[k]? = some y) : (L.take (k + 1)).any f = ((L.take k).any f || f y) := by
  rw [List.take_add_one, h, List.any_append]; simp
theorem any_hit {α : Type} {f : α → Bool} {L : List α} {k : Nat} {y : α} (h : L[k]? = some y) (hf : f y = true) : L.any f = true := List.any_eq_true.2 ⟨y, List.mem_of_getElem? h, hf⟩
def wideH (x : Hp) : Bool := decide (60 < x.nm.size) || decide (60 < x.is.size) || decide (60 < x.has.size)
def wideF (m : Nat) (p : List Hp) : Bool := decide (20 < m) || decide (20 < p.length) || p.any wideH
def wideQ (P : List (List Hp)) : Bool := P.any (wideF P.length)

set_option maxRecDepth 1000000 in
set_option maxHeartbeats 3200000 in
theorem wide_any (P : List (List Hp)) (qo : Option Addr) (qc : Nat) (hP : (P.length : Int) ≤ 9223372036854775807) (hPL : ∀ p ∈ P, (p.length : Int) ≤ 9223372036854775807) (w : World) (hq : HasQ w qo P) :
    Calls Tryd.prog 6 #[.agg #[.slice qo P.length qc]] w fun e w' => e = .returned (.bool (wideQ P)) ∧ Below w.heap.size w w' := by
  have HQ := Lib.hid hq
  have HPL := Lib.hid hPL
  have HR := Lib.hid (show wideQ P = P.any (wideF P.length) from rfl)
  generalize wideQ P = R at *
  obtain ⟨m, hm⟩ : ∃ m, P.length = m := ⟨_, rfl⟩
  have HM := Lib.hid hm
  rw [hm] at HR hP ⊢
  have HB0 := Lib.hid ((Below.refl w.heap.size w).alloc (Nat.le_refl _) (.cells #[.slice qo m qc] 24))
  have HO0 := Lib.hid (Own.fresh w 24 [.slice qo m qc])
  clear hq hPL hm
  go_enter Tryd.func6, Tryd.ntmps6
  go_wp2_with fail
  generalize World.alloc w _ = w1 at *
  go_loopw [3] (fun b3 wr => ∃ k : Nat, b3 = .int .i64 (k : Int) ∧ (k : Int) ≤ m ∧ Hid ((P.take k).any (wideF m) = false) ∧ Hid (Below w.heap.size w wr) ∧ Hid (Own wr w.heap.size 24 [.slice qo m qc])) (fun b3 _ => m - (intOf b3).toNat)
  case atStart => exact ⟨0, rfl, by omega, Lib.hid rfl, HB0, HO0⟩
  case round =>
    obtain ⟨k, rfl, hk, HA, HB, HO⟩ := hrel
    clear HB0 HO0
    have p0 : wr.cell? ⟨w.heap.size, 0, none⟩ = some (.slice qo m qc) := HO.out.cell 0
    have pl := HO.out.lt
    by_cases h2 : (k : Int) < m
    · obtain ⟨p, hp⟩ : ∃ p, P[k]? = some p := ⟨_, List.getElem?_eq_getElem (by have := HM.out; omega)⟩
      obtain ⟨g, off, po, pc, rfl, hg, hc, hh⟩ := HQ.out k p hp
      have HH := Lib.hid hh
      have hpl := HPL.out p (List.mem_of_getElem? hp)
      have HPK := Lib.hid hp
      have HC0 := Lib.hid hc
      have HG0 := Lib.hid hg
      have hw1 : IntKind.i64.wrap ((k : Int) + 1) = (k : Int) + 1 := by rw [IntKind.wrap_i64]; omega
      obtain ⟨n2, hn2⟩ : ∃ n, p.length = n := ⟨_, rfl⟩
      have HN2 := Lib.hid hn2
      rw [hn2] at HC0 hpl
      have HPR := Lib.hid (show wideF m p = (decide (20 < m) || decide (20 < p.length) || p.any wideH) from rfl)
      rw [hn2] at HPR
      have hcw := keepc HC0.out HB.out
      have hgw := Nat.lt_of_lt_of_le HG0.out HB.out.size
      clear hh hp hc hg hn2
      by_cases hm20 : 20 < m
      · have f1 : decide (20 < m) = true := decide_eq_true hm20
        have HE := Lib.hid (show R = true by rw [HR.out]; exact any_hit HPK.out (by rw [HPR.out, f1]; rfl))
        go_wp2
        go_ret
        exact ⟨ret_bool HE.out.symm, HB.out⟩
      · have f1 : decide (20 < m) = false := decide_eq_false hm20
        by_cases hn20 : 20 < n2
        · have f2 : decide (20 < n2) = true := decide_eq_true hn20
          have HE := Lib.hid (show R = true by rw [HR.out]; exact any_hit HPK.out (by rw [HPR.out, f1, f2]; rfl))
          go_wp2
          go_ret
          exact ⟨ret_bool HE.out.symm, HB.out⟩
        · have f2 : decide (20 < n2) = false := decide_eq_false hn20
          have HPR2 := Lib.hid (show wideF m p = p.any wideH by rw [HPR.out, f1, f2]; rfl)
          go_wp2_with fail
          clear p0 pl hcw hgw
          go_loopw [4] (fun b4 wr => ∃ q : Nat, b4 = .int .i64 (q : Int) ∧ (q : Int) ≤ n2 ∧ Hid ((p.take q).any wideH = false) ∧ Hid (Below w.heap.size w wr) ∧ Hid (Own wr w.heap.size 24 [.slice (some ⟨g, off, none⟩) m qc])) (fun b4 _ => n2 - (intOf b4).toNat)
          case atStart => exact ⟨0, rfl, by omega, Lib.hid rfl, HB, HO⟩
          case round =>
            obtain ⟨q, rfl, hq, HA3, HB3, HO3⟩ := hrel
            clear HB HO
            have p0 : wr.cell? ⟨w.heap.size, 0, none⟩ = some (.slice (some ⟨g, off, none⟩) m qc) := HO3.out.cell 0
            have pl := HO3.out.lt
            have hcw := keepc HC0.out HB3.out
            have hgw := Nat.lt_of_lt_of_le HG0.out HB3.out.size
            by_cases h5 : (q : Int) < n2
            · obtain ⟨x, hx⟩ : ∃ x, p[q]? = some x := ⟨_, List.getElem?_eq_getElem (by have := HN2.out; omega)⟩
              obtain ⟨g2, of2, rfl, hg2, c0, c1, c2, c3, c4, c5⟩ := HH.out q x hx
              have HXQ := Lib.hid hx
              have d0 := keepc c0 HB3.out
              have d1 := keepc c1 HB3.out
              have d2 := keepc c2 HB3.out
              have d3 := keepc c3 HB3.out
              have d4 := keepc c4 HB3.out
              have d5 := keepc c5 HB3.out
              have hg2w := Nat.lt_of_lt_of_le hg2 HB3.out.size
              have hw2 : IntKind.i64.wrap ((q : Int) + 1) = (q : Int) + 1 := by rw [IntKind.wrap_i64]; omega
              clear hx c0 c1 c2 c3 c4 c5 hg2
              have HB4 := Lib.hid (HB3.out.alloc HB3.out.size (.cells #[.int .i64 x.ax, .int .i64 x.kd, .string x.nm, .string x.is, .string x.has, .int .i64 x.nth] 38))
              have HX4 := Lib.hid (Own.fresh wr 38 [.int .i64 x.ax, .int .i64 x.kd, .string x.nm, .string x.is, .string x.has, .int .i64 x.nth])
              have HO4 := Lib.hid (HO3.out.on_alloc (.cells #[.int .i64 x.ax, .int .i64 x.kd, .string x.nm, .string x.is, .string x.has, .int .i64 x.nth] 38))
              have HRH := Lib.hid (show wideH x = (decide (60 < x.nm.size) || decide (60 < x.is.size) || decide (60 < x.has.size)) from rfl)
              go_upto_region 10 with fail
              generalize World.alloc wr _ = w4 at *
              obtain ⟨y0, y1, y2, y3, y4, y5, yg, -⟩ := HX4.out.six
              clear d0 d1 d2 d3 d4 d5 hg2w p0 pl hcw hgw HB3 HO3
              by_cases h6 : 60 < x.nm.size
              · have e1 : decide (60 < x.nm.size) = true := decide_eq_true h6
                have HE := Lib.hid (show R = true by rw [HR.out]; exact any_hit HPK.out (by rw [HPR2.out]; exact any_hit HXQ.out (by rw [HRH.out, e1]; rfl)))
                go_wp2
                go_ret
                exact ⟨ret_bool HE.out.symm, HB4.out⟩
              · have e1 : decide (60 < x.nm.size) = false := decide_eq_false h6
                by_cases h7 : 60 < x.is.size
                · have e2 : decide (60 < x.is.size) = true := decide_eq_true h7
                  have HE := Lib.hid (show R = true by rw [HR.out]; exact any_hit HPK.out (by rw [HPR2.out]; exact any_hit HXQ.out (by rw [HRH.out, e1, e2]; rfl)))
                  go_wp2
                  go_ret
                  exact ⟨ret_bool HE.out.symm, HB4.out⟩
                · have e2 : decide (60 < x.is.size) = false := decide_eq_false h7
                  by_cases h8 : 60 < x.has.size
                  · have e3 : decide (60 < x.has.size) = true := decide_eq_true h8
                    have HE := Lib.hid (show R = true by rw [HR.out]; exact any_hit HPK.out (by rw [HPR2.out]; exact any_hit HXQ.out (by rw [HRH.out, e1, e2, e3]; rfl)))
                    go_wp2
                    go_ret
                    exact ⟨ret_bool HE.out.symm, HB4.out⟩
                  · have e3 : decide (60 < x.has.size) = false := decide_eq_false h8
                    have HA4 := Lib.hid (show (p.take (q + 1)).any wideH = false by rw [any_take HXQ.out, HA3.out, HRH.out, e1, e2, e3]; rfl)
                    go_wp2
                    go_roundw
                    case rel => exact ⟨q + 1, by go_num, by omega, HA4, HB4, HO4⟩
                    case measure => simp [intOf]; omega
            · obtain rfl : q = n2 := by omega
              have HA4 := Lib.hid (show (P.take (k + 1)).any (wideF m) = false by
                have h := HA3.out
                rw [List.take_of_length_le (by rw [HN2.out]; omega)] at h
                rw [any_take HPK.out, HA.out, HPR2.out, h]; rfl)
              go_wp2
              go_roundw
              case rel => exact ⟨k + 1, by go_num, by omega, HA4, HB3, HO3⟩
              case measure => simp [intOf]; omega
    · obtain rfl : k = m := by omega
      have HE := Lib.hid (show R = false by rw [HR.out, ← HA.out, List.take_of_length_le (by rw [HM.out]; omega)])
      go_wp2
      go_ret
      exact ⟨ret_bool HE.out.symm, HB.out⟩
end Go.Proofs.YtialpofiagiclaaDoor
