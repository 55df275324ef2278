/- Laws at a step of a region that draws its order. No program in sight. -/
import Derived.Test.YtialpofiagiclaaDoorHe
import Derived.Deep.RegionLaw
import Derived.StillTailTactics
namespace Go.Proofs.YtialpofiagiclaaDoor
set_option linter.unusedVariables false
set_option maxRecDepth 1000000
open Go.RowKit

theorem run_append_win {P : Program} (w : World) (t ty : TypeId)
    (S : Nat → Prop) (e : TypeId) (i : TypeInfo) (z : Value) (size bytes : Nat) (h1 : P.underlying t = some (.slice e)) (h2 : P.info? e = some i) (h3 : i.zero = some z) (h4 : i.size = size) (h5 : i.bytes = bytes) (h6 : z.cells.size = size) (h7 : 0 < size)
    (v : Value) (n : Nat) (xs : List Value) (hown : Win S e size w v n xs)
    (ad : Addr) (m c : Nat) (news : List Value) (hn : news.length = m * size) (hc : ∀ j u, news[j]? = some u → w.cell? (ad.add j) = some u) (h1c : ∀ u ∈ news, u.oneCell' = true)
    (b1 : n + m ≤ maxLen) (b2 : (n + m) * bytes ≤ 140737488355328) :
    ∃ v' w', (Builtin.append_ #[t, t] ty #[v, .slice (some ad) m c]).run P w = .ok v' w' ∧ Win (fun g => S g ∨ w.heap.size ≤ g) e size w' v' (n + m) (xs ++ news) ∧ But S w w' := by
  obtain ⟨hl, hcase⟩ := hown
  rcases hcase with ⟨rfl, rfl⟩ | ⟨g, off, cap, cur, rfl, hS, hh, hnc, hcm, hsz, ht⟩
  · obtain ⟨v', w', hr, hown', hgrow, _⟩ := run_append_own (P := P) w w.heap.size t ty e i z size bytes h1 h2 h3 h4 h5 h6 h7 _ 0 xs ⟨hl, .inl ⟨rfl, rfl⟩⟩ ad m c news hn hc h1c b1 b2 (Nat.le_refl _)
    exact ⟨v', w', hr, Win.of_owns hown' fun g hg _ => .inr hg, (But.refl S w).grown hgrow fun k hk => by simp [Value.ownBlock] at hk⟩
  · have hxs : ∀ j u, xs[j]? = some u → w.cell? ⟨g, off + j, none⟩ = some u := fun j u hj => by
      rw [cell_of_row w g _ cur e (0, 0) hh, ← hj, ← ht, List.getElem?_take, if_pos (by
        have := (List.getElem?_eq_some_iff.1 hj).1; omega), List.getElem?_drop]
      simp
    have hroom : n + m ≤ cap → off + n * size + news.length ≤ cur.size := fun hr => by
      have := Nat.mul_le_mul_right size hr
      rw [hn, Nat.add_assoc, ← Nat.add_mul]; omega
    by_cases hr : n + m ≤ cap
    · have hr2 := hroom hr
      subst h4
      have hrun := run_append_room_cells (P := P) w t ty e i h1 h2 g off n cap ad m c news hn hc h1c hr
        (fun j hj => by rw [cell_of_row w g _ cur e (0, 0) hh, Array.getElem?_eq_getElem (by omega)]; rfl) (fun j hj => frozen_of_row w g _ cur e hh)
      obtain ⟨cur', e1, e2, e3, e4⟩ := setCells_row g e news (off + n * i.size) w cur hh
      refine ⟨_, _, hrun, ⟨by rw [List.length_append, hl, hn, Nat.add_mul], .inr ⟨g, off, cap, cur', rfl, .inl hS, e1, hr, hcm, by omega, ?_⟩⟩, (But.refl S w).grown e4 fun k hk _ => by cases hk; exact hS⟩
      apply List.ext_getElem?
      intro j
      rw [List.getElem?_take, List.getElem?_drop, Array.getElem?_toList, e3]
      by_cases c1 : j < n * i.size
      · rw [if_pos (by rw [Nat.add_mul]; omega), if_neg (by omega), List.getElem?_append_left (by omega), ← ht, List.getElem?_take, if_pos c1, List.getElem?_drop]; simp
      · by_cases c2 : j < (n + m) * i.size
        · rw [if_pos c2, List.getElem?_append_right (by omega), if_pos (by rw [Nat.add_mul] at c2; omega)]
          congr 1; omega
        · rw [if_neg c2, List.getElem?_eq_none (by rw [List.length_append, hl, hn, ← Nat.add_mul]; omega)]
    · obtain ⟨v', w', hrun, r1, r2⟩ := run_append_arg_grows (P := P) w t ty e i z size bytes h1 h2 h3 h4 h5 h6 h7 ⟨g, off, none⟩ n cap xs hl (fun j u hj => by rw [Addr.add_lit]; exact hxs j u hj) ad m c news hn hc (by omega) b1 b2
      exact ⟨v', w', hrun, Win.of_owns r1 fun g hg _ => .inr hg, (But.refl S w).grown r2 fun k hk => by cases hk⟩

/-- append, as one step. -/
theorem step_append_win {P : Program} {ops : Array Oper} {o : Oper} {a : Act} {w : World} {K : Act → World → Prop} {Q : Exit → Act → World → Prop} {E : Prop}
    (hg : o.guard = none) (s x : Operand) (t : TypeId) (hop : o.op = Op.call { callee := Callee.builtin Builtin.append, args := #[s, x], argTypes := #[t, t] })
    (S : Nat → Prop) (e : TypeId) (i : TypeInfo) (z : Value) (size bytes : Nat) (h1 : P.underlying t = some (.slice e)) (h2 : P.info? e = some i) (h3 : i.zero = some z) (h4 : i.size = size) (h5 : i.bytes = bytes) (h6 : z.cells.size = size) (h7 : 0 < size)
    (v : Value) (n : Nat) (xs : List Value) (hs : a.eval s = v) (hown : Win S e size w v n xs)
    (ad : Addr) (m c : Nat) (news : List Value) (hx : a.eval x = .slice (some ad) m c) (hn : news.length = m * size) (hc : ∀ j u, news[j]? = some u → w.cell? (ad.add j) = some u) (h1c : ∀ u ∈ news, u.oneCell' = true)
    (b1 : n + m ≤ maxLen) (b2 : (n + m) * bytes ≤ 140737488355328)
    (hK : ∀ v' w', Win (fun g => S g ∨ w.heap.size ≤ g) e size w' v' (n + m) (xs ++ news) → But S w w' → K (a.put o.dst v') w') :
    if Region.wanted o (yielded ops a.tmps) = true then Oper.wp P o a w K Q else E := by
  have hw : Region.wanted o (yielded ops a.tmps) = true := by simp [Region.wanted, hg]
  rw [if_pos hw]
  obtain ⟨v', w', hrun, r1, r2⟩ := run_append_win (P := P) w t o.type S e i z size bytes h1 h2 h3 h4 h5 h6 h7 v n xs hown ad m c news hn hc h1c b1 b2
  unfold Oper.wp
  simp [execOp, hop, resolve, invoke, builtin, hs, hx, hrun, Result.andThen]
  exact hK v' w' r1 r2
theorem fresh_news (w : World) (t : TypeId) (cs : List Value) : ∀ j u, cs[j]? = some u → (w.alloc (.cells cs.toArray t)).cell? ((⟨w.heap.size, 0, none⟩ : Addr).add j) = some u := fun j u h => by
  rw [Addr.add_lit, Nat.zero_add, (Own.fresh w t cs).cell j, h]
/-- A slice that owns an element is no nil. -/
theorem Win.has {S : Nat → Prop} {e : TypeId} {size n : Nat} {w : World} {v : Value} {xs : List Value} (h : Win S e size w v n xs) (hn : 0 < n) : ∃ g off cap, v = .slice (some ⟨g, off, none⟩) n cap ∧ S g ∧ n ≤ cap ∧ g < w.heap.size := by
  obtain ⟨h1, h2⟩ := h
  rcases h2 with ⟨rfl, rfl⟩ | ⟨g, off, cap, cur, rfl, hg, hh, hn, r⟩
  · omega
  · exact ⟨g, off, cap, rfl, hg, hn, lt_of_block hh⟩
theorem Win.cellAt {S : Nat → Prop} {e : TypeId} {size n g off cap : Nat} {w : World} {xs : List Value} (h : Win S e size w (.slice (some ⟨g, off, none⟩) n cap) n xs) (j : Nat) (hj : j < n * size) : w.cell? ⟨g, off + j, none⟩ = xs[j]? := by
  obtain ⟨ao, cap', e1, _, _, hf⟩ := h.form
  obtain ⟨g', off', rfl, _, _, hc, _⟩ := hf j hj
  simp only [Value.slice.injEq, Option.some.injEq, Addr.mk.injEq, and_true, true_and] at e1
  obtain ⟨⟨rfl, rfl⟩, _⟩ := e1
  exact hc
theorem Win.thawAt {S : Nat → Prop} {e : TypeId} {size n g off cap : Nat} {w : World} {xs : List Value} (h : Win S e size w (.slice (some ⟨g, off, none⟩) n cap) n xs) (hn : 0 < n) (j : Nat) : w.frozen? ⟨g, j, none⟩ = false := by
  obtain ⟨_, h2⟩ := h
  rcases h2 with ⟨h, _⟩ | ⟨g', off', cap', cur, h, hg, hh, _⟩
  · simp at h
  · simp only [Value.slice.injEq, Option.some.injEq, Addr.mk.injEq, and_true, true_and] at h
    obtain ⟨⟨rfl, rfl⟩, rfl⟩ := h
    exact frozen_of_row w g _ cur e hh
end Go.Proofs.YtialpofiagiclaaDoor
