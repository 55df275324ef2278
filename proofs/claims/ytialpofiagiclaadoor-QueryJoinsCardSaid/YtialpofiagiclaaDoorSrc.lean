/- append onto a row of the call's own, of whatever source: a slice, nil, a string. No program in sight. -/
import Derived.Test.YtialpofiagiclaaDoorSteps
import Derived.Deep.AppendSrc
namespace Go.Proofs.YtialpofiagiclaaDoor
set_option linter.unusedVariables false
set_option maxRecDepth 1000000
open Go.RowKit

theorem run_append_src {P : Program} (w : World) (t tx ty : TypeId)
    (S : Nat → Prop) (e : TypeId) (i : TypeInfo) (z : Value) (size bytes : Nat) (h1 : P.underlying t = some (.slice e)) (h2 : P.info? e = some i) (h3 : i.zero = some z) (h4 : i.size = size) (h5 : i.bytes = bytes) (h6 : z.cells.size = size) (h7 : 0 < size)
    (v : Value) (n : Nat) (xs : List Value) (hown : Win S e size w v n xs)
    (x : Value) (m : Nat) (news : List Value) (hs : Src P size tx x m news w)
    (b1 : n + m ≤ maxLen) (b2 : (n + m) * bytes ≤ 140737488355328) :
    ∃ v' w', (Builtin.append_ #[t, tx] ty #[v, x]).run P w = .ok v' w' ∧ Win (fun g => S g ∨ w.heap.size ≤ g) e size w' v' (n + m) (xs ++ news) ∧ But S w w' := by
  subst h4
  subst h5
  obtain ⟨hl, hcase⟩ := hown
  have hn := hs.newsLen
  have hsmall : n + m ≤ 9223372036854775807 := by simp only [maxLen] at b1; omega
  have hlen : (xs ++ news).length = (n + m) * i.size := by rw [List.length_append, hl, hn, Nat.add_mul]
  have grow : ∀ (base : Option Addr) (cap : Nat), (Builtin.firstCells i.size n (.slice base n cap)).run P w.drew = .ok xs.toArray w.drew → cap < n + m →
      ∃ v' w', (Builtin.append_ #[t, tx] ty #[.slice base n cap, x]).run P w = .ok v' w' ∧ Win (fun g => S g ∨ w.heap.size ≤ g) e i.size w' v' (n + m) (xs ++ news) ∧ But S w w' := by
    intro base cap hold hg
    have hge := grownCap_ge w (n + m) cap e
    have hcm : grownCap w (n + m) cap e ≤ maxLen := grownCap_le_maxLen w (n + m) cap e b1
    have hr := run_append_grow_src (P := P) w t tx ty e i z h1 h2 h3 base n cap xs hold x m news hs hg (by omega) (growslice_fits hg b2)
    refine ⟨_, _, hr, ⟨hlen, .inr ⟨w.heap.size, 0, _, _, rfl, .inr (Nat.le_refl _), heap_alloc_new w.drew _, hge, hcm, ?_, ?_⟩⟩, ((But.refl S w).drew).alloc _⟩
    · simp only [Array.size_append, List.size_toArray, size_zeroCells, h6, hl, hn, List.length_append, ← Nat.add_mul]
      rw [Nat.zero_add]
      exact Nat.mul_le_mul_right _ (by omega)
    · simp only [Array.toList_append, List.append_assoc, List.drop_zero]
      rw [← List.append_assoc, ← hlen]
      exact List.take_left
  rcases hcase with ⟨rfl, rfl⟩ | ⟨g, off, cap, cur, rfl, hS, hh, hnc, hcm, hsz, ht⟩
  · have hx0 : xs = [] := List.eq_nil_of_length_eq_zero (by omega)
    subst hx0
    by_cases hm : m = 0
    · subst hm
      have hnews : news = [] := List.eq_nil_of_length_eq_zero (by omega)
      subst hnews
      refine ⟨.slice none 0 0, w, ?_, ⟨by simp, .inl ⟨rfl, rfl⟩⟩, But.refl S w⟩
      rcases hs.kind with ⟨e', hk⟩ | hk <;> simp [Builtin.append_, run_underlying h1, run_underlying hk, sizeOf, typeInfo, h2, hs.len, hs.cells]
    · exact grow none 0 (run_firstCells_none w.drew i.size 0 0 0) (by omega)
  · have hxs : ∀ j u, xs[j]? = some u → w.cell? ⟨g, off + j, none⟩ = some u := fun j u hj => by
      rw [cell_of_row w g _ cur e (0, 0) hh, ← hj, ← ht, List.getElem?_take, if_pos (by
        have := (List.getElem?_eq_some_iff.1 hj).1; omega), List.getElem?_drop]
      simp
    by_cases hr : n + m ≤ cap
    · have hr2 : off + n * i.size + news.length ≤ cur.size := by
        have := Nat.mul_le_mul_right i.size hr
        rw [hn, Nat.add_assoc, ← Nat.add_mul]; omega
      have hrun := run_append_room_src (P := P) w t tx ty e i h1 h2 g off n cap x m news hs hr
        (fun j hj => by rw [cell_of_row w g _ cur e (0, 0) hh, Array.getElem?_eq_getElem (by omega)]; rfl) (fun j hj => frozen_of_row w g _ cur e hh)
      obtain ⟨cur', e1, e2, e3, e4⟩ := setCells_row g e news (off + n * i.size) w cur hh
      refine ⟨_, _, hrun, ⟨hlen, .inr ⟨g, off, cap, cur', rfl, .inl hS, e1, hr, hcm, by omega, ?_⟩⟩, (But.refl S w).grown e4 fun k hk _ => by cases hk; exact hS⟩
      apply List.ext_getElem?
      intro j
      rw [List.getElem?_take, List.getElem?_drop, Array.getElem?_toList, e3]
      by_cases c1 : j < n * i.size
      · rw [if_pos (by rw [Nat.add_mul]; omega), if_neg (by omega), List.getElem?_append_left (by omega), ← ht, List.getElem?_take, if_pos c1, List.getElem?_drop]; simp
      · by_cases c2 : j < (n + m) * i.size
        · rw [if_pos c2, List.getElem?_append_right (by omega), if_pos (by rw [Nat.add_mul] at c2; omega)]
          congr 1; omega
        · rw [if_neg c2, List.getElem?_eq_none (by rw [hlen]; omega)]
    · exact grow (some ⟨g, off, none⟩) cap (run_firstCells_some w.drew i.size n ⟨g, off, none⟩ n cap xs hl (fun j u hj => by rw [Addr.add_lit]; simpa using hxs j u hj)) (by omega)

theorem wpList_append_src {P : Program} (w : World) {ops : Array Oper} {rest : List Oper} {o : Oper} {a : Act} {Q : Exit → Act → World → Prop}
    (hg : o.guard = none) (s x : Operand) (t tx : TypeId) (hop : o.op = Op.call { callee := Callee.builtin Builtin.append, args := #[s, x], argTypes := #[t, tx] })
    (S : Nat → Prop) (e : TypeId) (i : TypeInfo) (z : Value) (size bytes : Nat) (h1 : P.underlying t = some (.slice e)) (h2 : P.info? e = some i) (h3 : i.zero = some z) (h4 : i.size = size) (h5 : i.bytes = bytes) (h6 : z.cells.size = size) (h7 : 0 < size)
    (v : Value) (n : Nat) (xs : List Value) (hs : a.eval s = v) (hown : Win S e size w v n xs)
    (u : Value) (m : Nat) (news : List Value) (hx : a.eval x = u) (hsrc : Src P size tx u m news w)
    (b1 : n + m ≤ maxLen) (b2 : (n + m) * bytes ≤ 140737488355328)
    (hK : ∀ v' w', Win (fun g => S g ∨ w.heap.size ≤ g) e size w' v' (n + m) (xs ++ news) → But S w w' → wpList P ops Q rest (a.put o.dst v') w') :
    wpList P ops Q (o :: rest) a w := by
  refine wpList_plain hg fun K hK' => ?_
  obtain ⟨v', w', hr, r1, r2⟩ := run_append_src (P := P) w t tx o.type S e i z size bytes h1 h2 h3 h4 h5 h6 h7 v n xs hown u m news hsrc b1 b2
  unfold Oper.wp
  simp [execOp, hop, resolve, invoke, builtin, hs, hx, hr, Result.andThen]
  exact hK' _ _ (hK v' w' r1 r2)
/-- append of whatever source, as one step. -/
theorem step_append_src {P : Program} {ops : Array Oper} {o : Oper} {a : Act} {w : World} {K : Act → World → Prop} {Q : Exit → Act → World → Prop} {E : Prop}
    (hg : o.guard = none) (s x : Operand) (t tx : TypeId) (hop : o.op = Op.call { callee := Callee.builtin Builtin.append, args := #[s, x], argTypes := #[t, tx] })
    (S : Nat → Prop) (e : TypeId) (i : TypeInfo) (z : Value) (size bytes : Nat) (h1 : P.underlying t = some (.slice e)) (h2 : P.info? e = some i) (h3 : i.zero = some z) (h4 : i.size = size) (h5 : i.bytes = bytes) (h6 : z.cells.size = size) (h7 : 0 < size)
    (v : Value) (n : Nat) (xs : List Value) (hs : a.eval s = v) (hown : Win S e size w v n xs)
    (u : Value) (m : Nat) (news : List Value) (hx : a.eval x = u) (hsrc : Src P size tx u m news w)
    (b1 : n + m ≤ maxLen) (b2 : (n + m) * bytes ≤ 140737488355328)
    (hK : ∀ v' w', Win (fun g => S g ∨ w.heap.size ≤ g) e size w' v' (n + m) (xs ++ news) → But S w w' → K (a.put o.dst v') w') :
    if Region.wanted o (yielded ops a.tmps) = true then Oper.wp P o a w K Q else E := by
  have hw : Region.wanted o (yielded ops a.tmps) = true := by simp [Region.wanted, hg]
  rw [if_pos hw]
  obtain ⟨v', w', hrun, r1, r2⟩ := run_append_src (P := P) w t tx o.type S e i z size bytes h1 h2 h3 h4 h5 h6 h7 v n xs hown u m news hsrc b1 b2
  unfold Oper.wp
  simp [execOp, hop, resolve, invoke, builtin, hs, hx, hrun, Result.andThen]
  exact hK v' w' r1 r2
end Go.Proofs.YtialpofiagiclaaDoor
