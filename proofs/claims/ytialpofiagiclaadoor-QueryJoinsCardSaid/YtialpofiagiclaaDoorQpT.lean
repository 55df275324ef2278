/- Two queries' paths, one behind the other, in memory. -/
import Derived.Test.YtialpofiagiclaaDoorAw24
import Derived.Test.YtialpofiagiclaaDoorQpS
import Derived.Test.YtialpofiagiclaaDoorOpenR
import Derived.Test.YtialpofiagiclaaDoorSrc
import Derived.Test.YtialpofiagiclaaDoorHw
namespace Go.Proofs.YtialpofiagiclaaDoor
set_option linter.unusedVariables false
set_option maxRecDepth 1000000
open Go.RowKit Go.Sort

section
variable {P : Program} {ops : Array Oper} {Q : Exit → Act → World → Prop}
theorem op_appq {i' : Nat} {o : Oper} {a : Act} {w : World} {K : Act → World → Prop} (ei : ops[i']? = some o) (hg : Region.wanted o (yielded ops a.tmps) = true) (s x : Operand) (t tx : TypeId)
    (hop : o.op = Op.call { callee := Callee.builtin Builtin.append, args := #[s, x], argTypes := #[t, tx] })
    (S : Nat → Prop) (e : TypeId) (i : TypeInfo) (z : Value) (size bytes : Nat) (h1 : P.underlying t = some (.slice e)) (h2 : P.info? e = some i) (h3 : i.zero = some z) (h4 : i.size = size) (h5 : i.bytes = bytes) (h6 : z.cells.size = size) (h7 : 0 < size)
    (v : Value) (n : Nat) (xs : List Value) (hs : a.eval s = v) (hown : Win S e size w v n xs)
    (u : Value) (m : Nat) (news : List Value) (hx : a.eval x = u) (hsrc : Src P size tx u m news w)
    (b1 : n + m ≤ maxLen) (b2 : (n + m) * bytes ≤ 140737488355328)
    (hK : ∀ v' w', Win (fun g => S g ∨ w.heap.size ≤ g) e size w' v' (n + m) (xs ++ news) → But S w w' → K (a.put o.dst v') w') : wpOp P ops Q i' K a w := by
  unfold wpOp
  rw [ei]
  simp only []
  rw [if_pos hg]
  obtain ⟨v', w', hrun, r1, r2⟩ := run_append_src (P := P) w t tx o.type S e i z size bytes h1 h2 h3 h4 h5 h6 h7 v n xs hown u m news hsrc b1 b2
  left
  unfold Oper.wp
  simp [execOp, hop, resolve, invoke, builtin, hs, hx, hrun, Result.andThen]
  exact hK v' w' r1 r2
end
/-- The values that tell the paths P, in a row. -/
def SlQ (w : World) (P : List (List Hp)) (xs : List Value) : Prop := xs.length = P.length ∧ ∀ (k : Nat) (p : List Hp), P[k]? = some p → ∃ (po : Option Addr) (pc : Nat), xs[k]? = some (Value.slice po p.length pc) ∧ HasH w po p
theorem SlQ.below {w w' : World} {P : List (List Hp)} {xs : List Value} (h : SlQ w P xs) (hb : Below w.heap.size w w') : SlQ w' P xs :=
  ⟨h.1, fun k p hp => by obtain ⟨po, pc, e, hh⟩ := h.2 k p hp; exact ⟨po, pc, e, hh.below hb⟩⟩
theorem SlQ.app {w : World} {P R : List (List Hp)} {xs ys : List Value} (h : SlQ w P xs) (k : SlQ w R ys) : SlQ w (P ++ R) (xs ++ ys) := by
  refine ⟨by rw [List.length_append, List.length_append, h.1, k.1], fun j p hp => ?_⟩
  by_cases hj : j < P.length
  · rw [List.getElem?_append_left hj] at hp
    obtain ⟨po, pc, e, hh⟩ := h.2 j p hp
    exact ⟨po, pc, by rw [List.getElem?_append_left (by rw [h.1]; exact hj)]; exact e, hh⟩
  · rw [List.getElem?_append_right (by omega)] at hp
    obtain ⟨po, pc, e, hh⟩ := k.2 _ p hp
    exact ⟨po, pc, by rw [List.getElem?_append_right (by rw [h.1]; omega), h.1]; exact e, hh⟩
/-- The values xs lie in a row, in the block of the slice. -/
def RowQ (w : World) (qo : Option Addr) (n : Nat) (xs : List Value) : Prop := xs.length = n ∧ (∀ u ∈ xs, u.oneCell' = true) ∧ ∃ g off, qo = some ⟨g, off, none⟩ ∧ ∀ j u, xs[j]? = some u → w.cell? ⟨g, off + j, none⟩ = some u
theorem RowQ.below {w w' : World} {qo : Option Addr} {n : Nat} {xs : List Value} (h : RowQ w qo n xs) (hb : Below w.heap.size w w') : RowQ w' qo n xs := by
  obtain ⟨h1, h2, g, off, e, h3⟩ := h
  exact ⟨h1, h2, g, off, e, fun j u hu => keepc (h3 j u hu) hb⟩
theorem RowQ.src {w : World} {qo : Option Addr} {n : Nat} {xs : List Value} (h : RowQ w qo n xs) (qc : Nat) : Src Tryd.prog 1 22 (.slice qo n qc) n xs w := by
  obtain ⟨h1, h2, g, off, rfl, h3⟩ := h
  exact Src.ofSlice w Tryd.underlying22 ⟨g, off, none⟩ n qc xs (by omega) (fun j u hu => by rw [Addr.add_lit]; exact h3 j u hu) h2
theorem HasQ.vals {w : World} {qo : Option Addr} {P : List (List Hp)} (h : HasQ w qo P) (hp : 0 < P.length) : ∃ xs, SlQ w P xs ∧ RowQ w qo P.length xs := by
  obtain ⟨g, off, po, pc, rfl, hg, _, _⟩ := h 0 P[0] (List.getElem?_eq_getElem hp)
  obtain ⟨xs, hl, hx⟩ := listq_of (n := P.length) (P := fun k (x : Value) => w.cell? ⟨g, off + k, none⟩ = some x ∧ ∃ (p : List Hp) (po : Option Addr) (pc : Nat), P[k]? = some p ∧ x = Value.slice po p.length pc ∧ HasH w po p) fun k hk => by
    obtain ⟨g', off', po, pc, e, _, hc, hh⟩ := h k P[k] (List.getElem?_eq_getElem hk)
    simp only [Option.some.injEq, Addr.mk.injEq, and_true] at e
    obtain ⟨rfl, rfl⟩ := e
    exact ⟨_, hc, P[k], po, pc, List.getElem?_eq_getElem hk, rfl, hh⟩
  refine ⟨xs, ⟨hl, fun k p hk => ?_⟩, hl, fun u hu => ?_, g, off, rfl, fun j u hu => (hx j u hu).1⟩
  · have hk' : k < xs.length := by have := (List.getElem?_eq_some_iff.1 hk).1; omega
    obtain ⟨_, p', po, pc, e, e2, hh⟩ := hx k xs[k] (List.getElem?_eq_getElem hk')
    rw [hk] at e
    obtain rfl := Option.some.inj e
    exact ⟨po, pc, by rw [List.getElem?_eq_getElem hk', e2], hh⟩
  · obtain ⟨k, hk⟩ := List.mem_iff_getElem?.1 hu
    obtain ⟨_, p', po, pc, e, rfl, hh⟩ := hx k u hk
    rfl
theorem SlQ.hasq {w : World} {P : List (List Hp)} {xs : List Value} {S : Nat → Prop} {e : TypeId} {v : Value} {n : Nat} (h : SlQ w P xs) (hw : Win S e 1 w v n xs) (hn : n = P.length) (hp : 0 < P.length) : ∃ qo qc, v = .slice qo P.length qc ∧ HasQ w qo P := by
  subst hn
  obtain ⟨g, off, cap, rfl, _, _, hg⟩ := hw.has hp
  refine ⟨some ⟨g, off, none⟩, cap, rfl, fun k p hk => ?_⟩
  have hkl := (List.getElem?_eq_some_iff.1 hk).1
  obtain ⟨po, pc, e1, hh⟩ := h.2 k p hk
  exact ⟨g, off, po, pc, rfl, hg, by rw [hw.cellAt k (by omega), e1], hh⟩
/-- A slice without elements, new. -/
theorem win_zero (w : World) : Win (fun g => w.heap.size ≤ g) 36 1 (w.alloc (.cells #[] 36)) (.slice (some ⟨w.heap.size, 0, none⟩) 0 0) 0 [] :=
  ⟨by simp, .inr ⟨w.heap.size, 0, 0, #[], rfl, Nat.le_refl _, heap_alloc_new w _, Nat.le_refl _, by unfold maxLen; omega, by simp, by simp⟩⟩
theorem joins_math (s t : ByteArray) : okE (qryO s) = 0 → okE (qryO t) = 0 → (1 ≤ (okP (qryO s)).length ∧ (okP (qryO s)).length ≤ 8) ∧ (1 ≤ (okP (qryO t)).length ∧ (okP (qryO t)).length ≤ 8 ∧ (∀ p ∈ okP (qryO s), p.length ≤ 12) ∧ ∀ p ∈ okP (qryO t), p.length ≤ 12) ∧
    ((okP (qryO s)).length + (okP (qryO t)).length ≤ 8 → okE (qryO (s ++ ⟨#[124]⟩ ++ t)) = 0 ∧ okA (qryO (s ++ ⟨#[124]⟩ ++ t)) = 0 ∧ okP (qryO (s ++ ⟨#[124]⟩ ++ t)) = okP (qryO s) ++ okP (qryO t)) ∧
    (8 < (okP (qryO s)).length + (okP (qryO t)).length → okE (qryO (s ++ ⟨#[124]⟩ ++ t)) = 3) := by
  intro h1 h2
  cases hA : qryO s with
  | error p =>
    have := (qry_err hA).1
    rw [hA] at h1
    simp only [okE] at h1
    omega
  | ok A =>
    cases hB : qryO t with
    | error p =>
      have := (qry_err hB).1
      rw [hB] at h2
      simp only [okE] at h2
      omega
    | ok B =>
      have ha := (right_sml (qry_right hA)).2
      have hb := (right_sml (qry_right hB)).2
      have ha1 : 1 ≤ A.length := by have := qry_right hA; unfold rightQ at this; simp only [Bool.and_eq_true, decide_eq_true_eq] at this; omega
      have hb1 : 1 ≤ B.length := by have := qry_right hB; unfold rightQ at this; simp only [Bool.and_eq_true, decide_eq_true_eq] at this; omega
      have hj := qry_join hA hB
      refine ⟨⟨ha1, ha.1⟩, ⟨hb1, hb.1, ha.2, hb.2⟩, fun h => ?_, fun h => ?_⟩
      · rw [hj.1 h]
        exact ⟨rfl, rfl, rfl⟩
      · obtain ⟨q, hq⟩ := hj.2 h
        rw [hq]
        rfl
end Go.Proofs.YtialpofiagiclaaDoor
