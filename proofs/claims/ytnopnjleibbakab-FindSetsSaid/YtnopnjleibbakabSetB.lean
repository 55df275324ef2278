/- A path whose last step is told anew, in memory. -/
import Derived.Test.YtnopnjleibbakabSetA
namespace Go.Proofs.Ytnopnjleibbakab
set_option linter.unusedVariables false
open Go.RowKit Go.Sort

theorem flat_len (L : List Hp) : (L.flatMap hprow).length = L.length * 6 := by
  induction L with
  | nil => rfl
  | cons x L ih => rw [List.flatMap_cons, List.length_append, ih, List.length_cons]; show 6 + _ = _; omega
theorem flat_cut (L : List Hp) {j : Nat} (hj : j < L.length * 6) : ∃ x, L[j / 6]? = some x ∧ (L.flatMap hprow)[j]? = (hprow x)[j % 6]? := by
  have hk : j / 6 < L.length := by omega
  refine ⟨L[j / 6], List.getElem?_eq_getElem hk, ?_⟩
  have := flat_at L (j / 6) (j % 6) L[j / 6] (List.getElem?_eq_getElem hk) (by omega)
  rw [← this]
  congr 1; omega
theorem Src.ofHops {w : World} {po : Option Addr} {pc : Nat} {L : List Hp} (h : HasH w po L) : Src Try.prog 6 28 (.slice po L.length pc) L.length (L.flatMap hprow) w := by
  rcases Nat.eq_zero_or_pos L.length with h0 | hp
  · have := List.length_eq_zero_iff.1 h0
    subst this
    cases po with
    | none => exact Src.ofNil w Try.underlying28 pc
    | some b => exact Src.ofSlice w Try.underlying28 b 0 pc [] rfl (fun j u h => by simp at h) (fun u h => by simp at h)
  · obtain ⟨g, off, rfl, hg, _⟩ := h 0 L[0] (List.getElem?_eq_getElem hp)
    have one : ∀ u ∈ L.flatMap hprow, u.oneCell' = true := fun u hu => by
      obtain ⟨x, _, hx⟩ := List.mem_flatMap.1 hu
      unfold hprow at hx
      simp only [List.mem_cons, List.not_mem_nil, or_false] at hx
      rcases hx with rfl | rfl | rfl | rfl | rfl | rfl <;> rfl
    refine Src.ofSlice w Try.underlying28 ⟨g, off, none⟩ L.length pc _ (flat_len L) (fun j u hu => ?_) one
    have hj : j < L.length * 6 := by have := (List.getElem?_eq_some_iff.1 hu).1; rw [flat_len] at this; exact this
    obtain ⟨x, hx, e⟩ := flat_cut L hj
    obtain ⟨g', off', e', _, c0, c1, c2, c3, c4, c5⟩ := h (j / 6) x hx
    simp only [Option.some.injEq, Addr.mk.injEq, and_true] at e'
    obtain ⟨rfl, rfl⟩ := e'
    rw [Addr.add_lit, ← hu, e]
    have hm : j % 6 < 6 := by omega
    have ej : off + j = off + j / 6 * 6 + j % 6 := by omega
    rw [ej]
    generalize j % 6 = i at hm ⊢
    match i, hm with
    | 0, _ => exact c0
    | 1, _ => exact c1
    | 2, _ => exact c2
    | 3, _ => exact c3
    | 4, _ => exact c4
    | 5, _ => exact c5
section
variable {P : Program} {Q : Exit → Act → World → Prop}
theorem wpList_append_none (w : World) {ops : Array Oper} {rest : List Oper} {o : Oper} {a : Act} (hg : o.guard = none) (s x : Operand) (t tx : TypeId) (hop : o.op = Op.call { callee := Callee.builtin Builtin.append, args := #[s, x], argTypes := #[t, tx] })
    (D : Nat) (hD : D ≤ w.heap.size) (e : TypeId) (i : TypeInfo) (z : Value) (size bytes : Nat) (h1 : P.underlying t = some (.slice e)) (h2 : P.info? e = some i) (h3 : i.zero = some z) (h4 : i.size = size) (h5 : i.bytes = bytes) (h6 : z.cells.size = size) (h7 : 0 < size)
    (g : Nat) (hgD : D ≤ g) (hh : w.heap[g]? = some (.cells #[] e (0, 0))) (hs : a.eval s = .slice (some ⟨g, 0, none⟩) 0 0) (u : Value) (m : Nat) (news : List Value) (hx : a.eval x = u) (hsrc : Src P size tx u m news w) (b1 : m ≤ maxLen) (b2 : m * bytes ≤ 140737488355328)
    (hK : ∀ v' w', Win (fun g => D ≤ g) e size w' v' m news → Below w.heap.size w w' → wpList P ops Q rest (a.put o.dst v') w') :
    wpList P ops Q (o :: rest) a w := by
  refine wpList_plain hg fun K hK' => ?_
  obtain ⟨v', w', hr, r1, r2⟩ := run_append_none (P := P) w t tx o.type D hD e i z size bytes h1 h2 h3 h4 h5 h6 h7 g hgD hh u m news hsrc b1 b2
  unfold Oper.wp
  simp [execOp, hop, resolve, invoke, builtin, hs, hx, hr, Result.andThen]
  exact hK' _ _ (hK v' w' r1 r2)
end
/-- The last step told anew. -/
theorem Win.free {S : Nat → Prop} {w : World} {g off pc : Nat} {p : List Hp} {x : Hp} (h : Win S 33 6 w (.slice (some ⟨g, off, none⟩) p.length pc) p.length (p.flatMap hprow)) (hp : 0 < p.length) (hx : p[p.length - 1]? = some x) :
    HasH (w.setCells g (off + (p.length - 1) * 6) (hprow (bareX x))) (some ⟨g, off, none⟩) (freeP p) ∧ But (fun j => j = g) w (w.setCells g (off + (p.length - 1) * 6) (hprow (bareX x))) := by
  have h0 := h
  obtain ⟨hl, hcase⟩ := h
  rcases hcase with ⟨h1, h2⟩ | ⟨g', off', cap', cur, hv, hS, hh, hnc, hcm, hsz, ht⟩
  · omega
  simp only [Value.slice.injEq, Option.some.injEq, Addr.mk.injEq, and_true, true_and] at hv
  obtain ⟨⟨rfl, rfl⟩, rfl⟩ := hv
  obtain ⟨o, ho⟩ : ∃ o, off + (p.length - 1) * 6 = o := ⟨_, rfl⟩
  have hr0 : (hprow (bareX x))[0]? = some (.int .i64 (bareX x).ax) ∧ (hprow (bareX x))[1]? = some (.int .i64 (bareX x).kd) ∧ (hprow (bareX x))[2]? = some (.string (bareX x).nm) ∧ (hprow (bareX x))[3]? = some (.string (bareX x).is) ∧ (hprow (bareX x))[4]? = some (.string (bareX x).has) ∧ (hprow (bareX x))[5]? = some (.int .i64 (bareX x).nth) := ⟨rfl, rfl, rfl, rfl, rfl, rfl⟩
  have hr6 : (hprow (bareX x)).length = 6 := rfl
  rw [ho]
  generalize hprow (bareX x) = row at hr0 hr6 ⊢
  obtain ⟨cur', e1, e2, e3, e4⟩ := setCells_row g 33 row o w cur hh
  refine ⟨?_, (But.refl _ w).grown e4 fun k hk _ => by cases hk; rfl⟩
  have hgl : g < (w.setCells g o row).heap.size := lt_of_block e1
  have hcl : p.length * 6 ≤ pc * 6 := Nat.mul_le_mul_right 6 hnc
  have cell : ∀ a, (w.setCells g o row).cell? ⟨g, a, none⟩ = cur'[a]? := fun a => by
    rw [cell_of_row _ g a cur' 33 (0, 0) e1]
  have H := hasH_of h0
  have old : ∀ a, w.cell? ⟨g, a, none⟩ = cur[a]? := fun a => by rw [cell_of_row _ g a cur 33 (0, 0) hh]
  rw [hr6] at e3
  clear ht hh e1 e2 e4 hl h0
  generalize w.setCells g o row = w' at *
  have low : ∀ a, a < o → w'.cell? ⟨g, a, none⟩ = w.cell? ⟨g, a, none⟩ := fun a ha => by
    rw [cell, old, e3, if_neg (by omega)]
  have new : ∀ i, i < 6 → w'.cell? ⟨g, o + i, none⟩ = row[i]? := fun i hi => by
    rw [cell, e3, if_pos (by omega), show o + i - o = i by omega]
  intro k y hy
  have hk : k < p.length := by have := (List.getElem?_eq_some_iff.1 hy).1; rw [freeP_len] at this; exact this
  unfold freeP at hy
  by_cases hkl : k < p.length - 1
  · rw [List.getElem?_append_left (by simp; omega), List.getElem?_take, if_pos hkl] at hy
    obtain ⟨g', off', e', hg, c0, c1, c2, c3, c4, c5⟩ := H k y hy
    simp only [Option.some.injEq, Addr.mk.injEq, and_true] at e'
    obtain ⟨rfl, rfl⟩ := e'
    have hm : k * 6 + 6 ≤ (p.length - 1) * 6 := by omega
    exact ⟨g, off, rfl, hgl, (low _ (by omega)).trans c0, (low _ (by omega)).trans c1, (low _ (by omega)).trans c2, (low _ (by omega)).trans c3, (low _ (by omega)).trans c4, (low _ (by omega)).trans c5⟩
  · have ek : k = p.length - 1 := by omega
    subst ek
    have ey : y = bareX x := by
      rw [List.getElem?_append_right (by simp), List.getElem?_map, List.getElem?_drop] at hy
      simp only [List.length_take] at hy
      rw [show p.length - 1 + (p.length - 1 - min (p.length - 1) p.length) = p.length - 1 by omega, hx] at hy
      simpa using hy.symm
    subst ey
    refine ⟨g, off, rfl, hgl, ?_⟩
    rw [ho]
    exact ⟨(new 0 (by omega)).trans hr0.1, (new 1 (by omega)).trans hr0.2.1, (new 2 (by omega)).trans hr0.2.2.1, (new 3 (by omega)).trans hr0.2.2.2.1, (new 4 (by omega)).trans hr0.2.2.2.2.1, (new 5 (by omega)).trans hr0.2.2.2.2.2⟩
end Go.Proofs.Ytnopnjleibbakab
