/- The walk of Part, the reference's nest, where the mark may be one. -/
import Derived.Test.YtgpglmponbipbacNestRC
import Derived.Test.YtgpglmponbipbacNestND
import Derived.Test.YtgpglmponbipbacNestRB
namespace Go.Proofs.Ytgpglmponbipbac
set_option linter.unusedVariables false
open Go.RowKit Go.Sort

set_option maxRecDepth 1000000 in
set_option maxHeartbeats 6400000 in
theorem rpart_yes (w : World) (p : Nat) (U : Nat → Prop) (L : List Nd) (top t : Int) (l : Nat) (hn : (L.length : Int) ≤ 1000) (h2 : (l : Int) ≤ (L.length : Int)) (h3 : -1 ≤ t) (h4 : t < (l : Int)) (h : Nest 58 w p U L top) :
    Calls Try.prog 20 #[.pointer (some ⟨p, 0, none⟩), .agg #[.int .i64 (l : Int), .int .i64 t]] w
      fun e w' => ∃ v, e = .returned v ∧ Win (fun b => w.heap.size ≤ b) 53 5 w' v (partL L l).length (rowL (partL L l)) ∧ Below w.heap.size w w' := by
  have hp : p < w.heap.size := by obtain ⟨v, T, h⟩ := h; exact h.own.lt
  obtain ⟨i0, hi0, hz0, hz1, hz2⟩ := info_parts info_leaf
  have IP := Lib.hid (And.intro hi0 (And.intro hz0 (And.intro hz1 hz2)))
  clear hi0 hz0 hz1 hz2
  have HN := Lib.hid h
  have HU := Lib.hid h.ups
  have HR := Lib.hid (Own.fresh w 34 [.int .i64 (l : Int), .int .i64 t])
  have HB : Below w.heap.size w (w.alloc (.cells #[.int .i64 (l : Int), .int .i64 t] 34)) := (Below.refl _ _).alloc (Nat.le_refl _) _
  have HLL := Lib.hid h2
  clear h
  go_enter Try.func20, Try.ntmps20
  go_wp2_with fail
  refine (rmay_yes _ p U L top l t (by omega) HLL.out h3 h4 (HN.out.below HB)).mono ?_
  rintro e w1 ⟨rfl, hb1⟩
  have hR := HR.out.under hb1 HR.out.lt
  have hB := keepb HB hb1
  obtain ⟨v, T, hN⟩ := HN.out.below hB
  obtain ⟨r0, r1, z0, z1⟩ := hR.two
  have HRR := Lib.hid hR
  have HB1 := Lib.hid hB
  have HO := Lib.hid hN.own
  obtain ⟨ao, cap, rfl, -, hS⟩ := hN.win.nodes
  have HS := Lib.hid hS
  clear hR hB hb1 HB hN hS HR
  obtain ⟨k, hk⟩ : ∃ k, L.length = k := ⟨_, rfl⟩
  have HK := Lib.hid hk
  rw [hk] at hn h2 HO
  clear hk
  go_wp2_with fail
  go_loopw [5, 6] (fun b5 b6 wr => ∃ i q : Nat, b6 = .int .i64 (i : Int) ∧ i = l + q ∧ (i : Int) ≤ k ∧ Hid (Win (fun b => w1.heap.size ≤ b) 53 5 wr b5 q (rowL ((partL L l).take q))) ∧ Hid (Below w1.heap.size w1 wr))
    (fun _ b6 _ => k - (intOf b6).toNat)
  case atStart => exact ⟨l, 0, rfl, rfl, h2, Lib.hid (Win.nil _ _ _ _), Lib.hid (Below.refl _ _)⟩
  case round =>
    obtain ⟨i, q, rfl, hiq, hik, HWi, HBi⟩ := hrel
    have HIQ := Lib.hid hiq
    have hqb : q ≤ 1000 := by omega
    have hml : w.heap.size < wr.heap.size := by have := HRR.out.lt; have := HBi.out.size; omega
    have hpl : p < wr.heap.size := by have := HO.out.lt; have := HBi.out.size; omega
    clear r0 r1 z0 z1
    obtain ⟨r0, r1, z0, z1⟩ := (HRR.out.under HBi.out HRR.out.lt).two
    obtain ⟨c0, c1, f0, f1⟩ := (HO.out.under HBi.out HO.out.lt).two
    obtain ⟨so, sc, rfl, -, -, -⟩ := HWi.out.form
    by_cases hi : (i : Int) < k
    · obtain ⟨x, hx⟩ : ∃ x, L[i]? = some x := ⟨_, List.getElem?_eq_getElem (by have := HK.out; omega)⟩
      obtain ⟨gx, offx, rfl, _, _, a0, a1, a2, a3, a4⟩ := (HS.out.below HBi.out) i x hx
      have hu := HU.out.1 i x hx
      have hu1 := hu.1
      have hu2 := hu.2
      have HX := Lib.hid hx
      clear hx hu
      by_cases hmx : x.up - (l : Int) < -1
      · clear hiq
        go_upto_region 9 with fail
        have hW2 : Below wr.heap.size wr (wr.alloc (.cells #[.int .i64 x.kd, .string x.nm, .int .i64 x.fr, .int .i64 x.tt, .int .i64 (-1)] 53)) := (Below.refl _ _).alloc (Nat.le_refl _) _
        have hX2 : Own (wr.alloc (.cells #[.int .i64 x.kd, .string x.nm, .int .i64 x.fr, .int .i64 x.tt, .int .i64 (-1)] 53)) wr.heap.size 53 [.int .i64 x.kd, .string x.nm, .int .i64 x.fr, .int .i64 x.tt, .int .i64 (-1)] := Own.fresh wr _ [.int .i64 x.kd, .string x.nm, .int .i64 x.fr, .int .i64 x.tt, .int .i64 (-1)]
        clear a0 a1 a2 a3 a4 c0 c1 f0 f1 r0 r1 z0 z1
        have hsz : (wr.alloc (.cells #[.int .i64 x.kd, .string x.nm, .int .i64 x.fr, .int .i64 x.tt, .int .i64 (-1)] 53)).heap.size = wr.heap.size + 1 := World.size_alloc _ _
        generalize wr.alloc (.cells #[.int .i64 x.kd, .string x.nm, .int .i64 x.fr, .int .i64 x.tt, .int .i64 (-1)] 53) = W2 at *
        have x0 : W2.cell? ⟨wr.heap.size, 0, none⟩ = some (.int .i64 x.kd) := hX2.cell 0
        have x1 : W2.cell? ⟨wr.heap.size, 1, none⟩ = some (.string x.nm) := hX2.cell 1
        have x2 : W2.cell? ⟨wr.heap.size, 2, none⟩ = some (.int .i64 x.fr) := hX2.cell 2
        have x3 : W2.cell? ⟨wr.heap.size, 3, none⟩ = some (.int .i64 x.tt) := hX2.cell 3
        have x4 : W2.cell? ⟨wr.heap.size, 4, none⟩ = some (.int .i64 (-1)) := hX2.cell 4
        have HW2 := Lib.hid (HWi.out.below hW2)
        have HB2 := Lib.hid (HBi.out.trans (hW2.mono HBi.out.size))
        have FN := Lib.hid (fresh_news W2 53 [.int .i64 x.kd, .string x.nm, .int .i64 x.fr, .int .i64 x.tt, .int .i64 (-1)])
        have K1 : q + 1 ≤ maxLen := by unfold maxLen; omega
        have K2 : (q + 1) * 48 ≤ 140737488355328 := by omega
        clear hX2 hW2 hsz
        go_wp2_with (first
          | (at_builtin; refine wpList_append_win _ rfl _ _ 23 rfl (fun b => w1.heap.size ≤ b) 53 _ _ 5 48 Try.underlying23 IP.out.1 IP.out.2.1 IP.out.2.2.1 IP.out.2.2.2 rfl (by decide) _ q (rowL ((partL L l).take q)) rfl (HW2.out.below ((Below.refl _ _).alloc (Nat.le_refl _) _)) ⟨W2.heap.size, 0, none⟩ 1 1 [.int .i64 x.kd, .string x.nm, .int .i64 x.fr, .int .i64 x.tt, .int .i64 (-1)] rfl rfl FN.out (by intro u hu; simp at hu; rcases hu with rfl | rfl | rfl | rfl | rfl <;> rfl) K1 K2 ?_))
        intro v6 w6 hw6 hb6
        have hp1 : (partL L l)[q]? = some ⟨x.kd, x.nm, x.fr, x.tt, (-1)⟩ := by
          unfold partL
          rw [List.getElem?_map, List.getElem?_drop, ← HIQ.out, HX.out]
          simp only [Option.map_some, lessU]
          congr 2
          omega
        have hq1 : q < (partL L l).length := (List.getElem?_eq_some_iff.1 hp1).1
        have hp2 : (partL L l)[q] = ⟨x.kd, x.nm, x.fr, x.tt, (-1)⟩ := (List.getElem?_eq_some_iff.1 hp1).2
        have HW6 : Hid (Win (fun b => w1.heap.size ≤ b) 53 5 w6 v6 (q + 1) (rowL ((partL L l).take (q + 1)))) := Lib.hid (by
          rw [List.take_succ_eq_append_getElem hq1, hp2, rowL_append, rowL_one]
          exact hw6.mono fun g _ hg => by have := HB2.out.size; rcases hg with hg | hg <;> omega)
        have HB6 : Hid (Below w1.heap.size w1 w6) := Lib.hid (HB2.out.trans (((((But.refl (fun b => w1.heap.size ≤ b) W2).alloc _).trans hb6 (fun _ _ h => h))).below HB2.out.size (fun _ h => h)))
        clear hw6 hb6 hp1 hp2 hq1 HW2 HB2 FN HWi HBi x0 x1 x2 x3 x4
        go_wp2
        go_roundw
        case rel => exact ⟨i + 1, q + 1, by go_num, by have := HIQ.out; omega, by omega, HW6, HB6⟩
        case measure => simp [intOf]; omega
      · clear hiq
        go_upto_region 9 with fail
        have hW2 : Below wr.heap.size wr (wr.alloc (.cells #[.int .i64 x.kd, .string x.nm, .int .i64 x.fr, .int .i64 x.tt, .int .i64 (x.up - (l : Int))] 53)) := (Below.refl _ _).alloc (Nat.le_refl _) _
        have hX2 : Own (wr.alloc (.cells #[.int .i64 x.kd, .string x.nm, .int .i64 x.fr, .int .i64 x.tt, .int .i64 (x.up - (l : Int))] 53)) wr.heap.size 53 [.int .i64 x.kd, .string x.nm, .int .i64 x.fr, .int .i64 x.tt, .int .i64 (x.up - (l : Int))] := Own.fresh wr _ [.int .i64 x.kd, .string x.nm, .int .i64 x.fr, .int .i64 x.tt, .int .i64 (x.up - (l : Int))]
        clear a0 a1 a2 a3 a4 c0 c1 f0 f1 r0 r1 z0 z1
        have hsz : (wr.alloc (.cells #[.int .i64 x.kd, .string x.nm, .int .i64 x.fr, .int .i64 x.tt, .int .i64 (x.up - (l : Int))] 53)).heap.size = wr.heap.size + 1 := World.size_alloc _ _
        generalize wr.alloc (.cells #[.int .i64 x.kd, .string x.nm, .int .i64 x.fr, .int .i64 x.tt, .int .i64 (x.up - (l : Int))] 53) = W2 at *
        have x0 : W2.cell? ⟨wr.heap.size, 0, none⟩ = some (.int .i64 x.kd) := hX2.cell 0
        have x1 : W2.cell? ⟨wr.heap.size, 1, none⟩ = some (.string x.nm) := hX2.cell 1
        have x2 : W2.cell? ⟨wr.heap.size, 2, none⟩ = some (.int .i64 x.fr) := hX2.cell 2
        have x3 : W2.cell? ⟨wr.heap.size, 3, none⟩ = some (.int .i64 x.tt) := hX2.cell 3
        have x4 : W2.cell? ⟨wr.heap.size, 4, none⟩ = some (.int .i64 (x.up - (l : Int))) := hX2.cell 4
        have HW2 := Lib.hid (HWi.out.below hW2)
        have HB2 := Lib.hid (HBi.out.trans (hW2.mono HBi.out.size))
        have FN := Lib.hid (fresh_news W2 53 [.int .i64 x.kd, .string x.nm, .int .i64 x.fr, .int .i64 x.tt, .int .i64 (x.up - (l : Int))])
        have K1 : q + 1 ≤ maxLen := by unfold maxLen; omega
        have K2 : (q + 1) * 48 ≤ 140737488355328 := by omega
        clear hX2 hW2 hsz
        go_wp2_with (first
          | (at_builtin; refine wpList_append_win _ rfl _ _ 23 rfl (fun b => w1.heap.size ≤ b) 53 _ _ 5 48 Try.underlying23 IP.out.1 IP.out.2.1 IP.out.2.2.1 IP.out.2.2.2 rfl (by decide) _ q (rowL ((partL L l).take q)) rfl (HW2.out.below ((Below.refl _ _).alloc (Nat.le_refl _) _)) ⟨W2.heap.size, 0, none⟩ 1 1 [.int .i64 x.kd, .string x.nm, .int .i64 x.fr, .int .i64 x.tt, .int .i64 (x.up - (l : Int))] rfl rfl FN.out (by intro u hu; simp at hu; rcases hu with rfl | rfl | rfl | rfl | rfl <;> rfl) K1 K2 ?_))
        intro v6 w6 hw6 hb6
        have hp1 : (partL L l)[q]? = some ⟨x.kd, x.nm, x.fr, x.tt, (x.up - (l : Int))⟩ := by
          unfold partL
          rw [List.getElem?_map, List.getElem?_drop, ← HIQ.out, HX.out]
          simp only [Option.map_some, lessU]
          congr 2
          omega
        have hq1 : q < (partL L l).length := (List.getElem?_eq_some_iff.1 hp1).1
        have hp2 : (partL L l)[q] = ⟨x.kd, x.nm, x.fr, x.tt, (x.up - (l : Int))⟩ := (List.getElem?_eq_some_iff.1 hp1).2
        have HW6 : Hid (Win (fun b => w1.heap.size ≤ b) 53 5 w6 v6 (q + 1) (rowL ((partL L l).take (q + 1)))) := Lib.hid (by
          rw [List.take_succ_eq_append_getElem hq1, hp2, rowL_append, rowL_one]
          exact hw6.mono fun g _ hg => by have := HB2.out.size; rcases hg with hg | hg <;> omega)
        have HB6 : Hid (Below w1.heap.size w1 w6) := Lib.hid (HB2.out.trans (((((But.refl (fun b => w1.heap.size ≤ b) W2).alloc _).trans hb6 (fun _ _ h => h))).below HB2.out.size (fun _ h => h)))
        clear hw6 hb6 hp1 hp2 hq1 HW2 HB2 FN HWi HBi x0 x1 x2 x3 x4
        go_wp2
        go_roundw
        case rel => exact ⟨i + 1, q + 1, by go_num, by have := HIQ.out; omega, by omega, HW6, HB6⟩
        case measure => simp [intOf]; omega
    · have hik2 : i = k := by omega
      go_wp2
      go_ret
      have hlen : (partL L l).length = q := by unfold partL; rw [List.length_map, List.length_drop, HK.out]; omega
      refine ⟨_, rfl, ?_, HB1.out.trans (HBi.out.mono HB1.out.size)⟩
      have h := HWi.out
      rw [List.take_of_length_le (by omega)] at h
      rw [hlen]
      exact h.mono fun g _ hg => Nat.le_trans HB1.out.size hg
end Go.Proofs.Ytgpglmponbipbac
