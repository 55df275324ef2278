/- The walks of New, Close, Mark, (*eyot/eyotref21.Nest). -/
import Derived.Test.YtgpglmponbipbacNestMath
namespace Go.Proofs.Ytgpglmponbipbac
set_option linter.unusedVariables false
open Go.RowKit Go.Sort

set_option maxHeartbeats 800000 in
theorem rnew_any (w : World) : Calls Try.prog 8 #[] w fun e w' => ∃ p, e = .returned (.pointer (some ⟨p, 0, none⟩)) ∧ Below w.heap.size w w' ∧ Nest 58 w' p (fun g => w.heap.size ≤ g ∧ g < w'.heap.size) [] (-1) := by
  go_enter Try.func8, Try.ntmps8
  go_wp2
  go_ret
  refine ⟨w.heap.size, rfl, (Below.refl _ _).alloc (Nat.le_refl _) _, .slice none 0 0, fun _ => False, Own.fresh w _ [.slice none 0 0, .int .i64 (-1)], Win.nil _ _ _ _, fun h => h, fun g h => ?_, fun g h => h.2, fun i x h => by simp at h, by omega, by simp⟩
  rcases h with h | h
  · subst h; simp
  · exact h.elim

theorem rclose_no (w : World) (p : Nat) (U : Nat → Prop) (L : List Nd) (top to : Int) (ht : top < 0) (h : Nest 58 w p U L top) :
    Calls Try.prog 14 #[.pointer (some ⟨p, 0, none⟩), .int .i64 to] w fun e w' => e = .returned (.bool false) ∧ w' = w := by
  obtain ⟨v, T, h⟩ := h
  obtain ⟨c0, c1, f0, f1⟩ := h.own.two
  clear h
  go_enter Try.func14, Try.ntmps14
  go_wp2
  go_ret
  exact ⟨rfl, rfl⟩
set_option maxHeartbeats 3200000 in
theorem rclose_any (w : World) (p : Nat) (U : Nat → Prop) (L : List Nd) (t : Nat) (to : Int) (x : Nd) (hn : (L.length : Int) ≤ 1000) (hx : L[t]? = some x) (h : Nest 58 w p U L (t : Int)) :
    Calls Try.prog 14 #[.pointer (some ⟨p, 0, none⟩), .int .i64 to] w
      fun e w' => e = .returned (.bool true) ∧ But U w w' ∧ Nest 58 w' p U (L.set t ⟨x.kd, x.nm, x.fr, to, x.up⟩) x.up := by
  obtain ⟨v, T, h⟩ := h
  obtain ⟨c0, c1, f0, f1⟩ := h.own.two
  have htl : t < L.length := (List.getElem?_eq_some_iff.1 hx).1
  obtain ⟨g, off, cap, rfl, hg, hcap, hgl⟩ := h.win.has (by omega)
  have k4 := h.win.cellAt (t * 5 + 4) (by omega)
  have k3 := h.win.cellAt (t * 5 + 3) (by omega)
  rw [rowL_get L t x hx _ (by omega), ← Nat.add_assoc] at k4 k3
  have z3 := h.win.thawAt (by omega) (off + t * 5 + 3)
  have H := Lib.hid h
  have HX := Lib.hid hx
  have hpg : p ≠ g := fun e => h.np (e ▸ hg)
  clear h hx
  obtain ⟨k, hk⟩ : ∃ k, L.length = k := ⟨_, rfl⟩
  have HK := Lib.hid hk
  rw [hk] at c0 hn hcap htl
  clear hk
  have d3 : w.cell? ⟨g, off + t * 5 + 3, none⟩ = some (.int .i64 x.tt) := k3
  have d4 : w.cell? ⟨g, off + t * 5 + 4, none⟩ = some (.int .i64 x.up) := k4
  clear k3 k4
  go_enter Try.func14, Try.ntmps14
  go_wp2
  go_still_tail 11, (by kernel_rfl)
  go_wp2
  have HW := Lib.hid (H.out.win.set (t * 5 + 3) (.int .i64 to) (by have := HK.out; omega))
  have HO := Lib.hid (H.out.own.off (p := ⟨g, off + t * 5 + 3, none⟩) hpg (.int .i64 to))
  have HB := Lib.hid ((But.refl U w).setCell (p := ⟨g, off + t * 5 + 3, none⟩) (fun _ => H.out.terr g (.inr hg)) (.int .i64 to))
  have e4 : ((w.setCell ⟨g, off + t * 5 + 3, none⟩ (.int .i64 to)).drew).cell? ⟨g, off + t * 5 + 4, none⟩ = some (.int .i64 x.up) := (World.cell?_setCell_other _ _ _ _ (by simp)).trans d4
  obtain ⟨o0, o1, q0, q1⟩ := (HO.out.on_drew).two
  rw [HK.out] at o0
  clear c0 c1 f0 f1 d3 d4 z3
  rw [← Nat.add_assoc] at HW
  have HW2 : Hid (Win T 53 5 ((w.setCell ⟨g, off + t * 5 + 3, none⟩ (.int .i64 to)).drew) (.slice (some ⟨g, off, none⟩) L.length cap) L.length ((rowL L).set (t * 5 + 3) (.int .i64 to))) := HW
  have HO2 : Hid (Own ((w.setCell ⟨g, off + t * 5 + 3, none⟩ (.int .i64 to)).drew) p 58 [.slice (some ⟨g, off, none⟩) L.length cap, .int .i64 (t : Int)]) := HO
  have HB2 : Hid (But U w ((w.setCell ⟨g, off + t * 5 + 3, none⟩ (.int .i64 to)).drew)) := Lib.hid HB.out.drew
  clear HW HO HB
  generalize (w.setCell ⟨g, off + t * 5 + 3, none⟩ (.int .i64 to)).drew = w2 at *
  go_still_tail 14, (by kernel_rfl)
  go_wp2
  go_ret
  refine ⟨rfl, HB2.out.drew.setCell (p := ⟨p, 1, none⟩) (fun _ => H.out.terr p (.inl rfl)) _, _, T, HO2.out.on_drew.put 1 _, ?_, H.out.np, H.out.terr, fun g hg => Nat.lt_of_lt_of_le (H.out.lt g hg) (by have := HB2.out.size; simpa [World.setCell] using this), H.out.ups.set HX.out⟩
  rw [List.length_set, ← rowL_set L t x to HX.out]
  exact (HW2.out.keep (T := fun _ => False) (But.drew (But.refl _ _)) (fun _ _ _ h => h)).keep (But.put w2.drew p 1 _) (fun g _ hg e => H.out.np (e ▸ hg))

set_option maxHeartbeats 1600000 in
theorem rmark_any (w : World) (p : Nat) (U : Nat → Prop) (L : List Nd) (top : Int) (h : Nest 58 w p U L top) :
    Calls Try.prog 23 #[.pointer (some ⟨p, 0, none⟩)] w fun e w' => e = .returned (.agg #[.int .i64 (L.length : Int), .int .i64 top]) ∧ Below w.heap.size w w' := by
  obtain ⟨v, T, h⟩ := h
  have hp := h.own.lt
  obtain ⟨ao, cap, rfl, hcap, _, _⟩ := h.win.form
  have HO := Lib.hid (h.own.on_alloc (.cells #[.int .i64 0, .int .i64 0] 34))
  have HR := Lib.hid (Own.fresh w 34 [.int .i64 0, .int .i64 0])
  clear h
  obtain ⟨k, hk⟩ : ∃ k, L.length = k := ⟨_, rfl⟩
  rw [hk] at HO ⊢
  clear hk
  have HB : Below w.heap.size w (w.alloc (.cells #[.int .i64 0, .int .i64 0] 34)) := (Below.refl _ _).alloc (Nat.le_refl _) _
  go_enter Try.func23, Try.ntmps23
  go_wp2_with fail
  change Hid (Own (w.alloc (.cells #[.int .i64 0, .int .i64 0] 34)) w.heap.size 34 [.int .i64 0, .int .i64 0]) at HR
  generalize w.alloc (.cells #[.int .i64 0, .int .i64 0] 34) = W at *
  obtain ⟨c0, c1, f0, f1⟩ := HO.out.two
  obtain ⟨r0, r1, z0, z1⟩ := HR.out.two
  go_still_tail 10, (by kernel_rfl)
  go_wp2
  have hF := (HR.out.put 0 (.int .i64 (k : Int))).put 1 (.int .i64 top)
  have hB5 := HB.trans (((But.refl (fun g => g = w.heap.size) W).setCell (p := ⟨w.heap.size, 0, none⟩) (fun _ => rfl) (.int .i64 (k : Int))).setCell (p := ⟨w.heap.size, 1, none⟩) (fun _ => rfl) (.int .i64 top) |>.below (B := w.heap.size) HB.size (fun g hg => by omega))
  have hF2 : Own (((W.setCell ⟨w.heap.size, 0, none⟩ (.int .i64 (k : Int))).setCell ⟨w.heap.size, 1, none⟩ (.int .i64 top)).drew) w.heap.size 34 [.int .i64 (k : Int), .int .i64 top] := hF
  have hB6 : Below w.heap.size w (((W.setCell ⟨w.heap.size, 0, none⟩ (.int .i64 (k : Int))).setCell ⟨w.heap.size, 1, none⟩ (.int .i64 top)).drew) := hB5.drew
  generalize ((W.setCell ⟨w.heap.size, 0, none⟩ (.int .i64 (k : Int))).setCell ⟨w.heap.size, 1, none⟩ (.int .i64 top)).drew = w5 at *
  have y0 := hF2.cell 0
  have y1 := hF2.cell 1
  refine bodyPost_ret (v := .agg #[.int .i64 (k : Int), .int .i64 top]) ?_ rfl ⟨rfl, hB6⟩
  simp at y0 y1
  simp [results, Try.results23, go_sem, y0, y1]

set_option maxHeartbeats 1600000 in
theorem rmay_yes (w : World) (p : Nat) (U : Nat → Prop) (L : List Nd) (top l t : Int) (h1 : 0 ≤ l) (h2 : l ≤ (L.length : Int)) (h3 : -1 ≤ t) (h4 : t < l) (h : Nest 58 w p U L top) :
    Calls Try.prog 28 #[.pointer (some ⟨p, 0, none⟩), .agg #[.int .i64 l, .int .i64 t]] w fun e w' => e = .returned (.bool true) ∧ Below w.heap.size w w' := by
  obtain ⟨v, T, h⟩ := h
  have hp := h.own.lt
  obtain ⟨ao, cap, rfl, hcap, _, _⟩ := h.win.form
  have HO := Lib.hid (h.own.on_alloc (.cells #[.int .i64 l, .int .i64 t] 34))
  have HR := Lib.hid (Own.fresh w 34 [.int .i64 l, .int .i64 t])
  clear h
  obtain ⟨k, hk⟩ : ∃ k, L.length = k := ⟨_, rfl⟩
  rw [hk] at HO h2
  clear hk hcap
  have HB : Below w.heap.size w (w.alloc (.cells #[.int .i64 l, .int .i64 t] 34)) := (Below.refl _ _).alloc (Nat.le_refl _) _
  go_enter Try.func28, Try.ntmps28
  go_wp2_with fail
  change Hid (Own (w.alloc (.cells #[.int .i64 l, .int .i64 t] 34)) w.heap.size 34 [.int .i64 l, .int .i64 t]) at HR
  generalize w.alloc (.cells #[.int .i64 l, .int .i64 t] 34) = W at *
  obtain ⟨c0, c1, f0, f1⟩ := HO.out.two
  obtain ⟨r0, r1, z0, z1⟩ := HR.out.two
  go_quiet (fail)
  go_wp2
  go_ret
  exact ⟨rfl, below_drewN HB _⟩

end Go.Proofs.Ytgpglmponbipbac
