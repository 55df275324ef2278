/- What is asked of sets of nodes: a step that asks for less leads to more. -/
import Derived.Test.YtnopnjleibbakabTells26
import Derived.Test.YtnopnjleibbakabOpenNodes
namespace Go.Proofs.Ytnopnjleibbakab
set_option linter.unusedVariables false
open Go.RowKit Go.Sort

def bareX (x : Hp) : Hp := ⟨x.ax, 0, ⟨#[]⟩, ⟨#[]⟩, ⟨#[]⟩, 0⟩
theorem bare_is (l : Nodes) (s : ByteArray) (j : Nat) (x : Hp) : isB l s j (bareX x) = true := by
  have e0 : (⟨#[]⟩ : ByteArray).toList.isEmpty = true := by rw [ByteArray.toList_eq]; rfl
  have h1 : kindB l j (bareX x) = true := by unfold kindB bareX; simp
  have h2 : nameB l j (bareX x) = true := by unfold nameB bareX; rw [e0]; rfl
  have h3 : textB l s j (bareX x) = true := by unfold textB bareX; rw [e0, contains_empty (x := ⟨#[]⟩) e0]; rfl
  unfold isB
  rw [h1, h2, h3]; rfl
theorem bare_plc {l : Nodes} {s : ByteArray} {x : Hp} {i y : Int} (h : y ∈ plcN l s x i) : y ∈ plcN l s (bareX x) i := by
  unfold plcN at h ⊢
  rw [if_neg (by simp [bareX])]
  show y ∈ wayL l i x.ax
  split at h
  · exact pick_mem _ _ h
  · exact h
theorem bare_step {l : Nodes} {s : ByteArray} {x : Hp} {L : List Int} {y : Int} (h : y ∈ stepL l s L x) : y ∈ stepL l s L (bareX x) := by
  unfold stepL at h ⊢
  split at h
  · rename_i ht
    rw [if_pos ht]
    obtain ⟨j, h1, h2, h3⟩ := mem_sel.1 h
    refine mem_sel.2 ⟨j, h1, ?_, h3⟩
    rw [Bool.and_eq_true] at h2
    rw [bare_is, Bool.and_true]
    obtain ⟨i, hi, hm⟩ := List.any_eq_true.1 h2.1
    refine List.any_eq_true.2 ⟨i, hi, ?_⟩
    unfold inL at hm ⊢
    rw [decide_eq_true_eq] at hm ⊢
    exact bare_plc hm
  · cases h
def freeP (p : List Hp) : List Hp := p.take (p.length - 1) ++ (p.drop (p.length - 1)).map bareX
theorem freeP_len (p : List Hp) : (freeP p).length = p.length := by unfold freeP; simp
theorem free_find {l : Nodes} {s : ByteArray} {p : List Hp} {y : Int} (h : y ∈ findL l s [p]) : y ∈ findL l s [freeP p] := by
  unfold findL at h ⊢
  obtain ⟨j, h1, h2, h3⟩ := mem_sel.1 h
  refine mem_sel.2 ⟨j, h1, ?_, h3⟩
  unfold metP at h2 ⊢
  simp only [List.any_cons, List.any_nil, Bool.or_false, Bool.and_eq_true] at h2 ⊢
  obtain ⟨h4, h5⟩ := h2
  have hp : p ≠ [] := by rintro rfl; simp at h4
  have hl : 0 < p.length := List.length_pos_iff.2 hp
  refine ⟨?_, ?_⟩
  · cases hq : freeP p with
    | nil => have := freeP_len p; rw [hq] at this; simp at this; omega
    | cons a b => rfl
  · unfold inL at h5 ⊢
    rw [decide_eq_true_eq] at h5 ⊢
    obtain ⟨z, hz⟩ : ∃ z, p.drop (p.length - 1) = [z] := by
      have hd : (p.drop (p.length - 1)).length = 1 := by simp; omega
      exact List.length_eq_one_iff.1 hd
    have e1 : pathL l s p = stepL l s ((p.take (p.length - 1)).foldl (fun L x => stepL l s L x) [-1]) z := by
      have e : p = p.take (p.length - 1) ++ [z] := by rw [← hz, List.take_append_drop]
      unfold pathL
      rw [e, List.foldl_append]
      simp
    have e2 : pathL l s (freeP p) = stepL l s ((p.take (p.length - 1)).foldl (fun L x => stepL l s L x) [-1]) (bareX z) := by
      unfold pathL freeP
      rw [hz, List.foldl_append]; rfl
    rw [e1] at h5
    rw [e2]
    exact bare_step h5
/-- One more marked. -/
theorem sel_count1 {M : Nat → Bool} {n j : Nat} (hj : j < n) : ((sel (fun t => M t || decide (t = j)) n).length : Int) = (sel M n).length + (if M j = true then 0 else 1) := by
  obtain ⟨d, rfl⟩ : ∃ d, n = j + d := ⟨n - j, by omega⟩
  obtain ⟨T, h1, _, _, h4, h5⟩ := sel_split (M := M) (N := fun t => M t || decide (t = j)) (j := j) (fun i hi => by simp [hi]) (by simp) d
  cases hm : M j with
  | true => rw [h5 hm]; simp
  | false =>
    rw [h4 (by omega) hm, h1]
    simp; omega
theorem metP_one (l : Nodes) (s : ByteArray) (P : List (List Hp)) (k : Nat) (p : List Hp) (h : P[k]? = some p) {n : Nat} (hn : n = l.n) (j : Nat) (hj : j < n) : metP l s (P.take (k + 1)) j = (metP l s (P.take k) j || inL (findL l s [p]) j) := by
  subst hn
  rw [metP_snoc h]
  congr 1
  unfold inL findL
  rw [Bool.eq_iff_iff, decide_eq_true_eq, mem_sel]
  constructor
  · intro h9
    exact ⟨j, hj, by unfold metP; simpa [inL] using h9, rfl⟩
  · rintro ⟨q, _, h2, h3⟩
    obtain rfl : j = q := by omega
    unfold metP at h2
    simpa [inL] using h2
theorem find_range {l : Nodes} {s : ByteArray} {P : List (List Hp)} {y : Int} (h : y ∈ findL l s P) : 0 ≤ y ∧ y < l.n := by
  obtain ⟨q, h1, _, h3⟩ := mem_sel.1 h; omega
/-- The nodes found stand in order. -/
theorem sel_rise {M : Nat → Bool} : ∀ {n k : Nat}, k + 1 < (sel M n).length → (sel M n).getD k 0 < (sel M n).getD (k + 1) 0
  | 0, k, h => by simp [sel] at h
  | n + 1, k, h => by
    cases hm : M n with
    | false => rw [sel_no hm] at h ⊢; exact sel_rise h
    | true =>
      rw [sel_yes hm] at h ⊢
      rw [List.length_append, List.length_singleton] at h
      rw [List.getD_eq_getElem?_getD, List.getD_eq_getElem?_getD, List.getElem?_append_left (by omega)]
      by_cases e : k + 1 < (sel M n).length
      · rw [List.getElem?_append_left e]
        have := sel_rise (M := M) (n := n) (k := k) e
        rwa [List.getD_eq_getElem?_getD, List.getD_eq_getElem?_getD] at this
      · rw [List.getElem?_append_right (by omega), show k + 1 - (sel M n).length = 0 by omega, List.getElem?_eq_getElem (by omega)]
        have hy := mem_sel.1 (List.getElem_mem (show k < (sel M n).length by omega))
        obtain ⟨q, h1, _, h3⟩ := hy
        simp only [Option.getD_some, List.getElem?_cons_zero]
        rw [h3]; omega
theorem HasQ.one {w : World} {g off : Nat} {P : List (List Hp)} (h : HasQ w (some ⟨g, off, none⟩) P) {k : Nat} {p : List Hp} (hp : P[k]? = some p) : HasQ w (some ⟨g, off + k, none⟩) [p] := fun i q hq => by
  cases i with
  | zero =>
    simp only [List.getElem?_cons_zero, Option.some.injEq] at hq
    subst hq
    obtain ⟨g', off', po, pc, e, hg, hc, hh⟩ := h k p hp
    simp only [Option.some.injEq, Addr.mk.injEq, and_true] at e
    obtain ⟨rfl, rfl⟩ := e
    exact ⟨_, _, po, pc, rfl, hg, hc, hh⟩
  | succ i => simp at hq
end Go.Proofs.Ytnopnjleibbakab
