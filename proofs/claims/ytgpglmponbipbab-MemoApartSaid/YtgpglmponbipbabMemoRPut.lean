/- The reference's memo: New, Len, Get, Put. -/
import Derived.Test.YtgpglmponbipbabMemoRef
namespace Go.Proofs.Ytgpglmponbipbab
set_option linter.unusedVariables false
open Go.RowKit Go.Sort

theorem first_is : ∀ (L : List Mm) (a b : Int), hasL L a b = true → ∃ i x, L[i]? = some x ∧ x.ins = a ∧ x.at_ = b ∧ L.find? (same a b) = some x ∧ ∀ (j : Nat) (y : Mm), j < i → L[j]? = some y → ¬ (y.ins = a ∧ y.at_ = b)
  | [], a, b, h => by simp [hasL] at h
  | y :: L, a, b, h => by
    by_cases h1 : same a b y = true
    · have := same_iff.1 h1
      exact ⟨0, y, rfl, this.1, this.2, by rw [List.find?_cons_of_pos h1], fun j z hj => by omega⟩
    · have h2 : hasL L a b = true := by unfold hasL at h ⊢; rwa [List.find?_cons_of_neg h1] at h
      obtain ⟨i, x, hi, hx, hy, hf, hb⟩ := first_is L a b h2
      refine ⟨i + 1, x, by simpa using hi, hx, hy, by rw [List.find?_cons_of_neg h1, hf], fun j z hj hz => ?_⟩
      cases j with
      | zero => simp at hz; subst hz; rwa [same_iff] at h1
      | succ j => exact hb j z (by omega) (by simpa using hz)
theorem rep_set : ∀ (L : List Mm) (i : Nat) (x y : Mm), Apart L → L[i]? = some y → y.ins = x.ins → y.at_ = x.at_ → repL L x = L.set i x
  | [], i, x, y, _, h, _, _ => by simp at h
  | z :: L, 0, x, y, ha, h, h1, h2 => by
    simp at h; subst h
    show (if same x.ins x.at_ z then x else z) :: repL L x = _
    rw [if_pos (same_iff.2 ⟨h1, h2⟩)]
    have : repL L x = L := by
      unfold repL
      conv => rhs; rw [← List.map_id L]
      apply List.map_congr_left
      intro u hu
      have := (List.pairwise_cons.1 ha).1 u hu
      rw [if_neg (by rw [same_iff]; omega)]; rfl
    rw [this]; rfl
  | z :: L, i + 1, x, y, ha, h, h1, h2 => by
    show (if same x.ins x.at_ z then x else z) :: repL L x = _
    have h' : L[i]? = some y := by simpa using h
    have := (List.pairwise_cons.1 ha).1 y (List.mem_of_getElem? h')
    rw [if_neg (by rw [same_iff]; omega), rep_set L i x y (List.pairwise_cons.1 ha).2 h' h1 h2]; rfl
theorem rowM_set : ∀ (L : List Mm) (i : Nat) (x : Mm), i < L.length → ((((((rowM L).set (i * 6) (.int .i64 x.ins)).set (i * 6 + 1) (.int .i64 x.at_)).set (i * 6 + 2) (.bool x.ok)).set (i * 6 + 3) (.int .i64 x.en)).set (i * 6 + 4) (.int .i64 x.far)).set (i * 6 + 5) (.slice x.po x.part.length x.pc) = rowM (L.set i x)
  | y :: L, 0, x, _ => by
    have e : rowM (y :: L) = .int .i64 y.ins :: .int .i64 y.at_ :: .bool y.ok :: .int .i64 y.en :: .int .i64 y.far :: .slice y.po y.part.length y.pc :: rowM L := rfl
    rw [e]; rfl
  | y :: L, i + 1, x, h => by
    have e : rowM (y :: L) = .int .i64 y.ins :: .int .i64 y.at_ :: .bool y.ok :: .int .i64 y.en :: .int .i64 y.far :: .slice y.po y.part.length y.pc :: rowM L := rfl
    have ih := rowM_set L i x (by simpa using h)
    rw [e, show (i + 1) * 6 + 1 = i * 6 + 1 + 6 by omega, show (i + 1) * 6 + 2 = i * 6 + 2 + 6 by omega, show (i + 1) * 6 + 3 = i * 6 + 3 + 6 by omega, show (i + 1) * 6 + 4 = i * 6 + 4 + 6 by omega, show (i + 1) * 6 + 5 = i * 6 + 5 + 6 by omega, show (i + 1) * 6 = i * 6 + 6 by omega]
    simp only [List.set_cons_succ]
    rw [ih]; rfl

/-- Six cells, written one behind the other. -/
def set6 (w : World) (g : Nat) (u0 u1 u2 u3 u4 u5 : Value) : World := (((((w.setCell ⟨g, 0, none⟩ u0).setCell ⟨g, 1, none⟩ u1).setCell ⟨g, 2, none⟩ u2).setCell ⟨g, 3, none⟩ u3).setCell ⟨g, 4, none⟩ u4).setCell ⟨g, 5, none⟩ u5
theorem set6_fold (w : World) (g : Nat) (u0 u1 u2 u3 u4 u5 : Value) : (((((w.setCell ⟨g, 0, none⟩ u0).setCell ⟨g, 1, none⟩ u1).setCell ⟨g, 2, none⟩ u2).setCell ⟨g, 3, none⟩ u3).setCell ⟨g, 4, none⟩ u4).setCell ⟨g, 5, none⟩ u5 = set6 w g u0 u1 u2 u3 u4 u5 := rfl
theorem Own.put6 {w : World} {g : Nat} {t : TypeId} {v0 v1 v2 v3 v4 v5 u0 u1 u2 u3 u4 u5 : Value} (h : Own w g t [v0, v1, v2, v3, v4, v5]) : Own (set6 w g u0 u1 u2 u3 u4 u5) g t [u0, u1, u2, u3, u4, u5] :=
  (((((h.put 0 u0).put 1 u1).put 2 u2).put 3 u3).put 4 u4).put 5 u5
theorem But.put6 (w : World) (g : Nat) (u0 u1 u2 u3 u4 u5 : Value) : But (fun k => k = g) w (set6 w g u0 u1 u2 u3 u4 u5) :=
  ((((((But.refl (fun k => k = g) w).setCell (p := ⟨g, 0, none⟩) (fun _ => rfl) _).setCell (p := ⟨g, 1, none⟩) (fun _ => rfl) _).setCell (p := ⟨g, 2, none⟩) (fun _ => rfl) _).setCell (p := ⟨g, 3, none⟩) (fun _ => rfl) _).setCell (p := ⟨g, 4, none⟩) (fun _ => rfl) _).setCell (p := ⟨g, 5, none⟩) (fun _ => rfl) _

set_option maxHeartbeats 800000 in
theorem rlen_any (w : World) (p : Nat) (U T : Nat → Prop) (most : Int) (L : List Mm) (v : Value) (h : RefRep w p U most L v T) :
    Calls Try.prog 15 #[.pointer (some ⟨p, 0, none⟩)] w fun e w' => e = .returned (.int .i64 (L.length : Int)) ∧ w' = w := by
  obtain ⟨c0, c1, f0, f1⟩ := h.own.two
  obtain ⟨ao, cap, rfl, hcap, hm⟩ := h.win.mem
  clear h hm hcap
  go_enter Try.func15, Try.ntmps15
  go_wp2
  go_ret
  exact ⟨rfl, rfl⟩

set_option maxHeartbeats 800000 in
theorem rnew_any (w : World) (most : Int) :
    Calls Try.prog 8 #[.int .i64 most] w fun e w' => ∃ p v T, e = .returned (.pointer (some ⟨p, 0, none⟩)) ∧ Below w.heap.size w w' ∧ RefRep w' p (fun g => w.heap.size ≤ g ∧ g < w'.heap.size) most [] v T := by
  go_enter Try.func8, Try.ntmps8
  go_wp2
  go_ret
  refine ⟨w.heap.size, .slice none 0 0, fun _ => False, rfl, (Below.refl _ _).alloc (Nat.le_refl _) _, ?_, Win.nil _ _ _ _, fun h => h, ?_, fun g h => h.2, List.Pairwise.nil, by simp; omega⟩
  · exact Own.fresh w _ [.int .i64 most, .slice none 0 0]
  · rintro g (h | h)
    · subst h; simp
    · exact h.elim

set_option maxHeartbeats 1600000 in
theorem rget_any (w : World) (p : Nat) (U T : Nat → Prop) (most : Int) (L : List Mm) (v : Value) (a b : Int) (hn : (L.length : Int) ≤ 1000) (h : RefRep w p U most L v T) :
    Calls Try.prog 12 #[.pointer (some ⟨p, 0, none⟩), .int .i64 a, .int .i64 b] w
      fun e w' => e = .returned (.tuple #[(getL L a b).val, .bool (hasL L a b)]) ∧ Below w.heap.size w w' := by
  have hpw := h.own.lt
  cases hx : hasL L a b with
  | false =>
    have hg : getL L a b = zeroMm := by unfold getL; rw [hasL_none hx]; rfl
    rw [hg]
    have h2 := h.keep (S := fun _ => False) ((But.refl _ w).alloc (.cells #[.int .i64 0, .int .i64 0, .bool false, .int .i64 0, .int .i64 0, .slice none 0 0] 30)) (fun _ _ h => h)
    have H2 := Lib.hid h2
    have hR := Own.fresh w 30 [.int .i64 0, .int .i64 0, .bool false, .int .i64 0, .int .i64 0, .slice none 0 0]
    have hB : Below w.heap.size w (w.alloc (.cells #[.int .i64 0, .int .i64 0, .bool false, .int .i64 0, .int .i64 0, .slice none 0 0] 30)) := (Below.refl _ _).alloc (Nat.le_refl _) _
    clear h h2 hg
    go_enter Try.func12, Try.ntmps12
    go_wp2_with fail
    refine (find_none _ p U T most L v a b hn hx H2.out).mono ?_
    rintro e w1 ⟨rfl, m, rfl⟩
    generalize w.alloc (.cells #[.int .i64 0, .int .i64 0, .bool false, .int .i64 0, .int .i64 0, .slice none 0 0] 30) = W at *
    have r0 : W.cell? ⟨w.heap.size, 0, none⟩ = some (.int .i64 0) := hR.cell 0
    have r1 : W.cell? ⟨w.heap.size, 1, none⟩ = some (.int .i64 0) := hR.cell 1
    have r2 : W.cell? ⟨w.heap.size, 2, none⟩ = some (.bool false) := hR.cell 2
    have r3 : W.cell? ⟨w.heap.size, 3, none⟩ = some (.int .i64 0) := hR.cell 3
    have r4 : W.cell? ⟨w.heap.size, 4, none⟩ = some (.int .i64 0) := hR.cell 4
    have r5 : W.cell? ⟨w.heap.size, 5, none⟩ = some (.slice none 0 0) := hR.cell 5
    have s0 := hR.thaw 0
    have s1 := hR.thaw 1
    have s2 := hR.thaw 2
    have s3 := hR.thaw 3
    have s4 := hR.thaw 4
    have s5 := hR.thaw 5
    have HR := Lib.hid hR
    clear hR H2
    go_wp2
    rw [set6_fold]
    have hF := HR.out.on_drewN m |>.put6 (u0 := .int .i64 0) (u1 := .int .i64 0) (u2 := .bool false) (u3 := .int .i64 0) (u4 := .int .i64 0) (u5 := .slice none 0 0)
    have hb5 := But.put6 (W.drewN m) w.heap.size (.int .i64 0) (.int .i64 0) (.bool false) (.int .i64 0) (.int .i64 0) (.slice none 0 0)
    have hB5 := (below_drewN hB m).trans (hb5.below (B := w.heap.size) (by have := hB.size; simpa using this) (fun g hg => by omega))
    clear hb5
    generalize set6 (W.drewN m) w.heap.size (.int .i64 0) (.int .i64 0) (.bool false) (.int .i64 0) (.int .i64 0) (.slice none 0 0) = w5 at *
    have y0 := hF.cell 0
    have y1 := hF.cell 1
    have y2 := hF.cell 2
    have y3 := hF.cell 3
    have y4 := hF.cell 4
    have y5 := hF.cell 5
    refine bodyPost_ret (v := .tuple #[zeroMm.val, .bool false]) ?_ rfl ⟨rfl, hB5⟩
    simp at y0 y1 y2 y3 y4 y5
    simp [results, Try.results12, go_sem, y0, y1, y2, y3, y4, y5, zeroMm, Mm.val]
  | true =>
    obtain ⟨i, x, hi, hxa, hxb, hf, hbe⟩ := first_is L a b hx
    have hg : getL L a b = x := by unfold getL; rw [hf]; rfl
    rw [hg]
    have h2 := h.keep (S := fun _ => False) ((But.refl _ w).alloc (.cells #[.int .i64 0, .int .i64 0, .bool false, .int .i64 0, .int .i64 0, .slice none 0 0] 30)) (fun _ _ h => h)
    have hil : i < L.length := (List.getElem?_eq_some_iff.1 hi).1
    have hR := Own.fresh w 30 [.int .i64 0, .int .i64 0, .bool false, .int .i64 0, .int .i64 0, .slice none 0 0]
    have hB : Below w.heap.size w (w.alloc (.cells #[.int .i64 0, .int .i64 0, .bool false, .int .i64 0, .int .i64 0, .slice none 0 0] 30)) := (Below.refl _ _).alloc (Nat.le_refl _) _
    obtain ⟨ao, cap, rfl, hcap, hm⟩ := h2.win.mem
    obtain ⟨g, off, rfl, _, hgl, d0, d1, d2, d3, d4, d5, _⟩ := hm i x hi
    have H2 := Lib.hid h2
    have HF := Lib.hid (And.intro hi (And.intro hxa (And.intro hxb hbe)))
    clear h h2 hg hm hi hxa hxb hbe hf hcap
    obtain ⟨n, hnn⟩ : ∃ n, L.length = n := ⟨_, rfl⟩
    have HN := Lib.hid hnn
    rw [hnn] at hil
    go_enter Try.func12, Try.ntmps12
    go_wp2_with fail
    refine (find_some _ p U T most L _ a b i x hn HF.out.1 HF.out.2.1 HF.out.2.2.1 HF.out.2.2.2 H2.out).mono ?_
    rintro e w1 ⟨rfl, m, rfl⟩
    obtain ⟨c0, c1, f0, f1⟩ := H2.out.own.two
    rw [hnn] at c1
    clear hnn
    generalize w.alloc (.cells #[.int .i64 0, .int .i64 0, .bool false, .int .i64 0, .int .i64 0, .slice none 0 0] 30) = W at *
    have r0 : W.cell? ⟨w.heap.size, 0, none⟩ = some (.int .i64 0) := hR.cell 0
    have r1 : W.cell? ⟨w.heap.size, 1, none⟩ = some (.int .i64 0) := hR.cell 1
    have r2 : W.cell? ⟨w.heap.size, 2, none⟩ = some (.bool false) := hR.cell 2
    have r3 : W.cell? ⟨w.heap.size, 3, none⟩ = some (.int .i64 0) := hR.cell 3
    have r4 : W.cell? ⟨w.heap.size, 4, none⟩ = some (.int .i64 0) := hR.cell 4
    have r5 : W.cell? ⟨w.heap.size, 5, none⟩ = some (.slice none 0 0) := hR.cell 5
    have s0 := hR.thaw 0
    have s1 := hR.thaw 1
    have s2 := hR.thaw 2
    have s3 := hR.thaw 3
    have s4 := hR.thaw 4
    have s5 := hR.thaw 5
    have HR := Lib.hid hR
    clear hR H2
    go_wp2
    rw [set6_fold]
    have hF := HR.out.on_drewN m |>.put6 (u0 := .int .i64 x.ins) (u1 := .int .i64 x.at_) (u2 := .bool x.ok) (u3 := .int .i64 x.en) (u4 := .int .i64 x.far) (u5 := .slice x.po x.part.length x.pc)
    have hb5 := But.put6 (W.drewN m) w.heap.size (.int .i64 x.ins) (.int .i64 x.at_) (.bool x.ok) (.int .i64 x.en) (.int .i64 x.far) (.slice x.po x.part.length x.pc)
    have hB5 := (below_drewN hB m).trans (hb5.below (B := w.heap.size) (by have := hB.size; simpa using this) (fun g hg => by omega))
    clear hb5
    generalize set6 (W.drewN m) w.heap.size (.int .i64 x.ins) (.int .i64 x.at_) (.bool x.ok) (.int .i64 x.en) (.int .i64 x.far) (.slice x.po x.part.length x.pc) = w5 at *
    have y0 := hF.cell 0
    have y1 := hF.cell 1
    have y2 := hF.cell 2
    have y3 := hF.cell 3
    have y4 := hF.cell 4
    have y5 := hF.cell 5
    refine bodyPost_ret (v := .tuple #[x.val, .bool true]) ?_ rfl ⟨rfl, hB5⟩
    simp at y0 y1 y2 y3 y4 y5
    simp [results, Try.results12, go_sem, y0, y1, y2, y3, y4, y5, Mm.val]
end Go.Proofs.Ytgpglmponbipbab
