/- The walks of Tree and Back, the program's. -/
import Derived.Test.YtgpglmponbipbacNestNB
import Derived.BigRegion
namespace Go.Proofs.Ytgpglmponbipbac
set_option linter.unusedVariables false
open Go.RowKit Go.Sort

theorem info_leaf2 : True := trivial
set_option maxHeartbeats 1600000 in
theorem ntree_any (w : World) (p : Nat) (U : Nat → Prop) (L : List Nd) (top : Int) (hn : (L.length : Int) ≤ 1000) (h : Nest 56 w p U L top) :
    Calls Try.prog 24 #[.pointer (some ⟨p, 0, none⟩)] w
      fun e w' => ∃ v, e = .returned v ∧ Win (fun b => w.heap.size ≤ b) 53 5 w' v L.length (rowL L) ∧ Below w.heap.size w w' := by
  obtain ⟨v, T, h⟩ := h
  obtain ⟨c0, c1, f0, f1⟩ := h.own.two
  obtain ⟨ao, cap, rfl, hn2, hs⟩ := h.win.nodes
  have HS := Lib.hid hs
  clear h hs hn2
  go_enter Try.func24, Try.ntmps24
  go_wp2_with fail
  refine (clone_any L ao cap T hn w HS.out).mono ?_
  rintro e w1 ⟨v, rfl, hw, hb⟩
  have HW := Lib.hid hw
  have HB := Lib.hid hb
  clear hw hb
  go_wp2
  go_ret
  exact ⟨_, rfl, HW.out, HB.out⟩

set_option maxHeartbeats 3200000 in
theorem nback_yes (w : World) (p : Nat) (U : Nat → Prop) (L : List Nd) (top t : Int) (l : Nat) (hn : (L.length : Int) ≤ 1000) (h2 : (l : Int) ≤ (L.length : Int)) (h3 : -1 ≤ t) (h4 : t < (l : Int)) (h : Nest 56 w p U L top) :
    Calls Try.prog 16 #[.pointer (some ⟨p, 0, none⟩), .agg #[.int .i64 (l : Int), .int .i64 t]] w fun e w' => e = .returned (.tuple #[]) ∧ But U w w' ∧ Nest 56 w' p U (L.take l) t := by
  have hp : p < w.heap.size := by obtain ⟨v, T, h⟩ := h; exact h.own.lt
  have HN := Lib.hid h
  have HR := Lib.hid (Own.fresh w 33 [.int .i64 (l : Int), .int .i64 t])
  have HB : Below w.heap.size w (w.alloc (.cells #[.int .i64 (l : Int), .int .i64 t] 33)) := (Below.refl _ _).alloc (Nat.le_refl _) _
  have HLL := Lib.hid h2
  clear h
  go_enter Try.func16, Try.ntmps16
  go_wp2_with fail
  refine (nmay_yes _ p U L top l t (by omega) HLL.out h3 h4 (HN.out.below HB)).mono ?_
  rintro e w1 ⟨rfl, hb1⟩
  have hR := HR.out.under hb1 HR.out.lt
  have hB := keepb HB hb1
  obtain ⟨v, T, hN⟩ := HN.out.below hB
  obtain ⟨ao, cap, rfl, hcap, _, _⟩ := hN.win.form
  obtain ⟨r0, r1, z0, z1⟩ := hR.two
  obtain ⟨c0, c1, f0, f1⟩ := hN.own.two
  have H := Lib.hid hN
  have HB1 := Lib.hid hB
  obtain ⟨k, hk⟩ : ∃ k, L.length = k := ⟨_, rfl⟩
  have HK := Lib.hid hk
  rw [hk] at c0 hn h2 hcap
  clear hk hN hR hB hb1 HB
  go_wp2_with fail
  go_region
  all_goals
    go_wp2
    go_end0
    have hwc := H.out.win.cut (m := l) (by have := HK.out; omega)
    rw [rowL_take] at hwc
    have hlen : (L.take l).length = l := by rw [List.length_take]; have := HK.out; omega
    have hO := ((H.out.own.put 0 (.slice ao l cap)).put 1 (.int .i64 t))
    have hb := ((But.refl U w1).setCell (p := ⟨p, 0, none⟩) (fun _ => H.out.terr p (.inl rfl)) (.slice ao l cap)).setCell (p := ⟨p, 1, none⟩) (fun _ => H.out.terr p (.inl rfl)) (.int .i64 t)
    refine ⟨rfl, ((But.of_below (S := U) HB1.out).trans hb (fun _ _ h => h)).drew, .slice ao l cap, T, hO, ?_, H.out.np, H.out.terr, fun g hg => Nat.lt_of_lt_of_le (H.out.lt g hg) hb.size, H.out.ups.cut ⟨h3, h4⟩ (by have := HK.out; omega)⟩
    rw [hlen]
    exact ((hwc.keep (But.put _ p 0 _) (fun g _ hg e => H.out.np (e ▸ hg))).keep (But.put _ p 1 _) (fun g _ hg e => H.out.np (e ▸ hg))).keep (T := fun _ => False) (But.drew (But.refl _ _)) (fun _ _ _ h => h)

end Go.Proofs.Ytgpglmponbipbac
