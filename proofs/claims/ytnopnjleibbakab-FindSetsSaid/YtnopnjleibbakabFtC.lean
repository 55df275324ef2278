/- What queries lead to, by definition: a place among others, rising, each once. -/
import Derived.Test.YtnopnjleibbakabFtA
import Derived.Test.YtnopnjleibbakabFndD
import Derived.Test.YtnopnjleibbakabMerge
import Derived.Test.YtnopnjleibbakabSrc
namespace Go.Proofs.Ytnopnjleibbakab
set_option linter.unusedVariables false
open Go.RowKit Go.Sort

theorem sel_split {M N : Nat → Bool} {j : Nat} (hN : ∀ i, i ≠ j → N i = M i) (hj : N j = true) : ∀ d, ∃ T, sel M (j + d) = sel M j ++ T ∧ (∀ y ∈ T, (j : Int) ≤ y) ∧ (0 < d → M j = true → ∃ T', T = (j : Int) :: T') ∧ (0 < d → M j = false → sel N (j + d) = sel M j ++ (j : Int) :: T) ∧ (M j = true → sel N (j + d) = sel M (j + d))
  | 0 => ⟨[], by simp, by simp, by omega, by omega, fun hm => sel_congr fun i hi => hN i (by omega)⟩
  | d + 1 => by
    obtain ⟨T, h1, h2, h3, h4, h5⟩ := sel_split hN hj d
    have hlow : sel N j = sel M j := sel_congr fun i hi => hN i (by omega)
    cases hd : M (j + d) with
    | false =>
      have e0 : sel M (j + (d + 1)) = sel M (j + d) := sel_no hd
      refine ⟨T, by rw [e0, h1], h2, fun _ hm => ?_, fun _ hm => ?_, fun hm => ?_⟩
      · rcases Nat.eq_zero_or_pos d with rfl | hp
        · rw [Nat.add_zero, hm] at hd; cases hd
        · exact h3 hp hm
      · rcases Nat.eq_zero_or_pos d with rfl | hp
        · have eT : T = [] := by
            have := congrArg List.length h1; simp at this; exact this
          rw [show j + (0 + 1) = j + 1 from rfl, sel_yes hj, hlow, eT]
        · rw [show j + (d + 1) = (j + d) + 1 from rfl, sel_no (by rw [hN _ (by omega)]; exact hd), h4 hp hm]
      · rw [show j + (d + 1) = (j + d) + 1 from rfl, sel_no hd, ← h5 hm]
        rcases Nat.eq_zero_or_pos d with rfl | hp
        · rw [Nat.add_zero, hm] at hd; cases hd
        · rw [sel_no (by rw [hN _ (by omega)]; exact hd)]
    | true =>
      have e0 : sel M (j + (d + 1)) = sel M (j + d) ++ [((j + d : Nat) : Int)] := sel_yes hd
      refine ⟨T ++ [((j + d : Nat) : Int)], by rw [e0, h1, List.append_assoc], fun y hy => ?_, fun _ hm => ?_, fun _ hm => ?_, fun hm => ?_⟩
      · rw [List.mem_append, List.mem_singleton] at hy
        rcases hy with hy | rfl
        · exact h2 y hy
        · omega
      · rcases Nat.eq_zero_or_pos d with rfl | hp
        · have eT : T = [] := by
            have := congrArg List.length h1; simp at this; exact this
          exact ⟨[], by rw [eT]; rfl⟩
        · obtain ⟨T', e⟩ := h3 hp hm
          exact ⟨T' ++ [((j + d : Nat) : Int)], by rw [e]; rfl⟩
      · rcases Nat.eq_zero_or_pos d with rfl | hp
        · rw [Nat.add_zero, hm] at hd; cases hd
        · rw [show j + (d + 1) = (j + d) + 1 from rfl, sel_yes (by rw [hN _ (by omega)]; exact hd), h4 hp hm, List.append_assoc]; rfl
      · have hNd : N (j + d) = true := by
          by_cases e : j + d = j
          · rw [e]; exact hj
          · rw [hN _ e]; exact hd
        rw [show j + (d + 1) = (j + d) + 1 from rfl, sel_yes hNd, h5 hm, sel_yes hd]
/-- Where a number stands, or would stand, among rising ones. -/
theorem sel_put {M N : Nat → Bool} {j n k : Nat} (hjn : j < n) (hN : ∀ i, i ≠ j → N i = M i) (hj : N j = true) (hk : k ≤ (sel M n).length) (h1 : ∀ i, i < k → (sel M n).getD i 0 < (j : Int)) (h2 : k < (sel M n).length → (j : Int) ≤ (sel M n).getD k 0) :
    (k < (sel M n).length ∧ (sel M n).getD k 0 = (j : Int) → sel N n = sel M n) ∧ (¬ (k < (sel M n).length ∧ (sel M n).getD k 0 = (j : Int)) → sel N n = (sel M n).take k ++ (j : Int) :: (sel M n).drop k) := by
  obtain ⟨d, rfl⟩ : ∃ d, n = j + d := ⟨n - j, by omega⟩
  obtain ⟨T, e1, e2, e3, e4, e5⟩ := sel_split hN hj d
  have hlow : ∀ y ∈ sel M j, y < (j : Int) := fun y hy => by obtain ⟨q, q1, _, q3⟩ := mem_sel.1 hy; omega
  have hkp : k = (sel M j).length := by
    rw [e1, List.length_append] at hk
    rcases Nat.lt_trichotomy k (sel M j).length with h | h | h
    · exfalso
      have a := h2 (by rw [e1, List.length_append]; omega)
      rw [e1, List.getD_eq_getElem?_getD, List.getElem?_append_left h, List.getElem?_eq_getElem h, Option.getD_some] at a
      have := hlow _ (List.getElem_mem h)
      omega
    · exact h
    · exfalso
      have a := h1 _ h
      rw [e1, List.getD_eq_getElem?_getD, List.getElem?_append_right (Nat.le_refl _), Nat.sub_self, List.getElem?_eq_getElem (by omega), Option.getD_some] at a
      have := e2 _ (List.getElem_mem (show 0 < T.length by omega))
      omega
  have hat : (sel M (j + d)).getD k 0 = T.getD 0 0 := by
    rw [e1, hkp, List.getD_eq_getElem?_getD, List.getElem?_append_right (Nat.le_refl _), Nat.sub_self, List.getD_eq_getElem?_getD]
  constructor
  · rintro ⟨a, b⟩
    apply e5
    have hm : (j : Int) ∈ sel M (j + d) := by
      rw [← b, List.getD_eq_getElem?_getD, List.getElem?_eq_getElem a, Option.getD_some]
      exact List.getElem_mem a
    obtain ⟨q, q1, q2, q3⟩ := mem_sel.1 hm
    obtain rfl : j = q := by omega
    exact q2
  · intro h
    cases hm : M j with
    | true =>
      exfalso
      obtain ⟨T', rfl⟩ := e3 (by omega) hm
      apply h
      rw [hat]
      exact ⟨by rw [e1, hkp]; simp, rfl⟩
    | false =>
      rw [e4 (by omega) hm]
      have t1 : (sel M (j + d)).take k = sel M j := by rw [e1, hkp]; simp
      have t2 : (sel M (j + d)).drop k = T := by rw [e1, hkp]; simp
      rw [t1, t2]
section
variable {P : Program} {ops : Array Oper} {Q : Exit → Act → World → Prop}
/-- append onto a slice without room makes memory alone. -/
theorem run_append_none (w : World) (t tx ty : TypeId) (D : Nat) (hD : D ≤ w.heap.size) (e : TypeId) (i : TypeInfo) (z : Value) (size bytes : Nat) (h1 : P.underlying t = some (.slice e)) (h2 : P.info? e = some i) (h3 : i.zero = some z) (h4 : i.size = size) (h5 : i.bytes = bytes) (h6 : z.cells.size = size) (h7 : 0 < size)
    (g : Nat) (hg : D ≤ g) (hh : w.heap[g]? = some (.cells #[] e (0, 0))) (x : Value) (m : Nat) (news : List Value) (hs : Src P size tx x m news w) (b1 : m ≤ maxLen) (b2 : m * bytes ≤ 140737488355328) :
    ∃ v' w', (Builtin.append_ #[t, tx] ty #[.slice (some ⟨g, 0, none⟩) 0 0, x]).run P w = .ok v' w' ∧ Win (fun g => D ≤ g) e size w' v' m news ∧ Below w.heap.size w w' := by
  subst h4
  subst h5
  have hn := hs.newsLen
  by_cases hm : m = 0
  · subst hm
    have hnews : news = [] := List.eq_nil_of_length_eq_zero (by omega)
    subst hnews
    refine ⟨_, _, run_append_room_src (P := P) w t tx ty e i h1 h2 g 0 0 0 x 0 [] hs (by omega) (fun j hj => by simp at hj) (fun j hj => by simp at hj), ?_, ?_⟩
    · exact ⟨by simp, .inr ⟨g, 0, 0, #[], rfl, hg, hh, Nat.le_refl _, by unfold maxLen; omega, by simp, by simp⟩⟩
    · exact Below.refl _ _
  · have hsmall : m ≤ 9223372036854775807 := by simp only [maxLen] at b1; omega
    have hr := run_append_grow_src (P := P) w t tx ty e i z h1 h2 h3 (some ⟨g, 0, none⟩) 0 0 [] (run_firstCells_some w.drew i.size 0 ⟨g, 0, none⟩ 0 0 [] (by simp) (fun j u h => by simp at h)) x m news hs (by omega) (by omega) (growslice_fits (by omega) (by simpa using b2))
    have hge := grownCap_ge w (0 + m) 0 e
    have hcm : grownCap w (0 + m) 0 e ≤ maxLen := grownCap_le_maxLen w (0 + m) 0 e (by omega)
    refine ⟨_, _, hr, ⟨hn, .inr ⟨w.heap.size, 0, _, _, by rw [Nat.zero_add], hD, heap_alloc_new w.drew _, by omega, hcm, ?_, ?_⟩⟩, ((Below.refl _ _).drew).alloc (Nat.le_refl _) _⟩
    · simp only [Array.size_append, List.size_toArray, size_zeroCells, h6, hn, List.nil_append, ← Nat.add_mul]
      rw [Nat.zero_add]
      exact Nat.mul_le_mul_right _ (by omega)
    · simp only [Array.toList_append, List.nil_append, List.drop_zero]
      rw [← hn]
      exact List.take_left
theorem onward_append {o : Oper} {I : World → Prop} {a : Act} {w w' : World} {R : Value → World → Prop} {v u v' : Value} (hg : Region.wanted o (yielded ops a.tmps) = true) (s x : Operand) (t tx : TypeId)
    (hop : o.op = Op.call { callee := Callee.builtin Builtin.append, args := #[s, x], argTypes := #[t, tx] }) (hs : a.eval s = v) (hx : a.eval x = u) (hrun : (Builtin.append_ #[t, tx] o.type #[v, u]).run P w = .ok v' w')
    (hb : Below w.heap.size w w') (hI : I w') (hR : R v' w') : Onward P ops Q o I a w R :=
  ⟨hg, fun K hK => by
    unfold Oper.wp
    simp [execOp, hop, resolve, invoke, builtin, hs, hx, hrun, Result.andThen]
    exact hK v' w' hb hI hR⟩
theorem op_append {i' : Nat} {o : Oper} {a : Act} {w : World} {K : Act → World → Prop} (ei : ops[i']? = some o) (hg : Region.wanted o (yielded ops a.tmps) = true) (s x : Operand) (t tx : TypeId)
    (hop : o.op = Op.call { callee := Callee.builtin Builtin.append, args := #[s, x], argTypes := #[t, tx] })
    (S : Nat → Prop) (e : TypeId) (i : TypeInfo) (z : Value) (size bytes : Nat) (h1 : P.underlying t = some (.slice e)) (h2 : P.info? e = some i) (h3 : i.zero = some z) (h4 : i.size = size) (h5 : i.bytes = bytes) (h6 : z.cells.size = size) (h7 : 0 < size)
    (v : Value) (n : Nat) (xs : List Value) (hs : a.eval s = v) (hown : Win S e size w v n xs)
    (u : Value) (m : Nat) (news : List Value) (hx : a.eval x = u) (hsrc : Src P size tx u m news w)
    (b1 : n + m ≤ maxLen) (b2 : (n + m) * bytes ≤ 140737488355328)
    (hK : ∀ v' w', Win (fun g => S g ∨ w.heap.size ≤ g) e size w' v' (n + m) (xs ++ news) → But S w w' → K (a.put o.dst v') w') : wpOp P ops Q i' K a w := by
  unfold wpOp
  rw [ei]
  simp only []
  rw [if_pos hg]
  obtain ⟨v', w', hrun, r1, r2⟩ := run_append_src (P := P) w t tx o.type S e i z size bytes h1 h2 h3 h4 h5 h6 h7 v n xs hown u m news hsrc b1 b2
  left
  unfold Oper.wp
  simp [execOp, hop, resolve, invoke, builtin, hs, hx, hrun, Result.andThen]
  exact hK v' w' r1 r2
end
theorem Src.ofInts {w : World} {C : Nat} {ao : Option Addr} {cap : Nat} {L : List Int} (h : ∀ j, j < L.length → ∃ g off, ao = some ⟨g, off, none⟩ ∧ g < w.heap.size ∧ C ≤ g ∧ w.cell? ⟨g, off + j, none⟩ = some (.int .i64 (L.getD j 0))) :
    Src Try.prog 1 29 (.slice ao L.length cap) L.length (L.map (Value.int .i64)) w := by
  rcases Nat.eq_zero_or_pos L.length with h0 | hp
  · have := List.length_eq_zero_iff.1 h0
    subst this
    cases ao with
    | none => exact Src.ofNil w Try.underlying29 cap
    | some a => exact Src.ofSlice w Try.underlying29 a 0 cap [] rfl (fun j u h => by simp at h) (fun u h => by simp at h)
  · obtain ⟨g, off, rfl, _, _, _⟩ := h 0 hp
    refine Src.ofSlice w Try.underlying29 ⟨g, off, none⟩ L.length cap _ (by simp) (fun j u hu => ?_) (fun u hu => by obtain ⟨y, _, rfl⟩ := List.mem_map.1 hu; rfl)
    rw [List.getElem?_map] at hu
    have hj : j < L.length := by
      rcases Nat.lt_or_ge j L.length with h' | h'
      · exact h'
      · rw [List.getElem?_eq_none h'] at hu; cases hu
    obtain ⟨g', off', e, _, _, hc⟩ := h j hj
    simp only [Option.some.injEq, Addr.mk.injEq, and_true] at e
    obtain ⟨rfl, rfl⟩ := e
    rw [List.getElem?_eq_getElem hj] at hu
    simp only [Option.map_some, Option.some.injEq] at hu
    subst hu
    rw [Addr.add_lit, hc, List.getD_eq_getElem?_getD, List.getElem?_eq_getElem hj]; rfl
theorem Win.ints {D : Nat} {w : World} {v : Value} {n : Nat} {L : List Int} (hn : L.length = n) (h : Win (fun g => D ≤ g) 3 1 w v n (L.map (Value.int .i64))) : IntsAt w D v L := by
  obtain ⟨ao, cap, e, hc, _, hf⟩ := h.form
  refine ⟨ao, cap, by rw [hn]; exact e, by omega, fun j hj => ?_⟩
  obtain ⟨g, off, e1, hS, hg, hcl⟩ := hf j (by omega)
  refine ⟨g, off, e1, hg, hS, ?_⟩
  have := hcl.1
  rw [this, List.getElem?_map, List.getElem?_eq_getElem hj, List.getD_eq_getElem?_getD, List.getElem?_eq_getElem hj]; rfl
end Go.Proofs.Ytnopnjleibbakab
