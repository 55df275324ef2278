/- A region that draws its order: three operations of which one stands off the other two, walked in all their orders to one end. -/
import Derived.Test.YtnopnjleibbakabQuiet
import Derived.Orders
import Derived.RegionTactic
import Derived.Below
namespace Go.Proofs.Ytnopnjleibbakab
set_option linter.unusedVariables false
open Go.RowKit Go.Sort

/-- A region's operations, by its number: a name for a great literal. -/
def regOps (n : Nat) : Code → Array Oper
  | .region i o _ => if i = n then o else #[]
  | .seq a b => if (regOps n a).isEmpty then regOps n b else regOps n a
  | _ => #[]
section
variable {P : Program} {ops : Array Oper} {Q : Exit → Act → World → Prop} {md : Region.Mode}
theorem wpAny_ops {o : Array Oper} {fuel : Nat} {l : Array Bool} {a : Act} {w : World} (h : ops = o) (H : wpAny P md o Q fuel l a w) : wpAny P md ops Q fuel l a w := by rw [h]; exact H
theorem put_swap (a : Act) {s t : Nat} (h : s ≠ t) (u v : Value) : (a.put (some s) u).put (some t) v = (a.put (some t) v).put (some s) u := by
  unfold Act.put
  simp only []
  congr 1
  exact Array.setIfInBounds_comm _ _ h
/-- An operation that goes on in each world of a class: what it yields is so, and what was there stays. -/
def Onward (P : Program) (ops : Array Oper) (Q : Exit → Act → World → Prop) (o : Oper) (I : World → Prop) (a : Act) (w : World) (R : Value → World → Prop) : Prop :=
  Region.wanted o (yielded ops a.tmps) = true ∧ ∀ K : Act → World → Prop, (∀ v w', Below w.heap.size w w' → I w' → R v w' → K (a.put o.dst v) w') → o.wp P a w K Q
theorem Onward.at_ {o : Oper} {I : World → Prop} {a : Act} {w : World} {R : Value → World → Prop} (h : Onward P ops Q o I a w R) {i : Nat} (e : ops[i]? = some o) {K : Act → World → Prop}
    (hK : ∀ v w', Below w.heap.size w w' → I w' → R v w' → K (a.put o.dst v) w') : wpOp P ops Q i K a w := by
  unfold wpOp
  rw [e]
  simp only []
  rw [if_pos h.1]
  exact .inl (h.2 K hK)
theorem all_one {i : Nat} {fuel : Nat} {l : Array Bool} {a : Act} {w : World} (hr : Region.ready md ops l = [i]) (h : wpOp P ops Q i (wpAny P md ops Q fuel (l.setIfInBounds i true)) a w) : wpAny P md ops Q (fuel + 1) l a w :=
  wpAny_all hr (by simp) fun x hx => by obtain rfl := List.mem_singleton.1 hx; exact h
theorem all_two {i k : Nat} {fuel : Nat} {l : Array Bool} {a : Act} {w : World} (hr : Region.ready md ops l = [i, k]) (h1 : wpOp P ops Q i (wpAny P md ops Q fuel (l.setIfInBounds i true)) a w)
    (h2 : wpOp P ops Q k (wpAny P md ops Q fuel (l.setIfInBounds k true)) a w) : wpAny P md ops Q (fuel + 1) l a w :=
  wpAny_all hr (by simp) fun x hx => by
    simp only [List.mem_cons, List.not_mem_nil, or_false] at hx
    rcases hx with rfl | rfl
    · exact h1
    · exact h2
/-- Two operations, either first. -/
theorem merge2 {i k : Nat} {oi ok : Oper} {si sk : Nat} {fuel : Nat} {l : Array Bool} {a : Act} {w : World} {I : World → Prop} {Ri Rk : Value → World → Prop}
    (ei : ops[i]? = some oi) (ek : ops[k]? = some ok) (di : oi.dst = some si) (dk : ok.dst = some sk) (hik : si ≠ sk) (hki : i ≠ k)
    (r1 : Region.ready md ops l = [i, k]) (r2 : Region.ready md ops (l.setIfInBounds i true) = [k]) (r3 : Region.ready md ops (l.setIfInBounds k true) = [i])
    (hI : I w)
    (Hi : ∀ a', (a' = a ∨ ∃ x, a' = a.put (some sk) x) → ∀ w', I w' → Onward P ops Q oi I a' w' Ri)
    (Hk : ∀ a', (a' = a ∨ ∃ q, a' = a.put (some si) q) → ∀ w', I w' → Onward P ops Q ok I a' w' Rk)
    (ti : ∀ q w' w'', Ri q w' → Below w'.heap.size w' w'' → Ri q w'') (tk : ∀ q w' w'', Rk q w' → Below w'.heap.size w' w'' → Rk q w'')
    (h : ∀ q x w', Below w.heap.size w w' → I w' → Ri q w' → Rk x w' → wpAny P md ops Q fuel ((l.setIfInBounds i true).setIfInBounds k true) ((a.put (some si) q).put (some sk) x) w') :
    wpAny P md ops Q (fuel + 2) l a w := by
  refine all_two r1 ?_ ?_
  · refine (Hi a (.inl rfl) w hI).at_ ei fun q w1 b1 i1 q1 => all_one r2 ?_
    rw [di]
    refine (Hk _ (.inr ⟨q, rfl⟩) w1 i1).at_ ek fun x w2 b2 i2 x2 => ?_
    rw [dk]
    exact h q x w2 (b1.trans (b2.mono b1.size)) i2 (ti _ _ _ q1 b2) x2
  · refine (Hk a (.inl rfl) w hI).at_ ek fun x w1 b1 i1 x1 => all_one r3 ?_
    rw [dk]
    refine (Hi _ (.inr ⟨x, rfl⟩) w1 i1).at_ ei fun q w2 b2 i2 q2 => ?_
    rw [di, put_swap a (Ne.symm hik), Array.setIfInBounds_comm _ _ (Ne.symm hki)]
    exact h q x w2 (b1.trans (b2.mono b1.size)) i2 q2 (tk _ _ _ x1 b2)
/-- Three operations: the second behind the first, the third anywhere. -/
theorem merge3 {i j k : Nat} {oi oj ok : Oper} {si sj sk : Nat} {fuel : Nat} {l : Array Bool} {a : Act} {w : World} {I : World → Prop} {Ri Rj Rk : Value → World → Prop}
    (ei : ops[i]? = some oi) (ej : ops[j]? = some oj) (ek : ops[k]? = some ok) (di : oi.dst = some si) (dj : oj.dst = some sj) (dk : ok.dst = some sk)
    (hij : si ≠ sj) (hik : si ≠ sk) (hjk : sj ≠ sk) (nik : i ≠ k) (njk : j ≠ k)
    (r1 : Region.ready md ops l = [i, k]) (r2 : Region.ready md ops (l.setIfInBounds i true) = [j, k]) (r3 : Region.ready md ops ((l.setIfInBounds i true).setIfInBounds j true) = [k])
    (r4 : Region.ready md ops (l.setIfInBounds k true) = [i]) (r5 : Region.ready md ops ((l.setIfInBounds i true).setIfInBounds k true) = [j])
    (hI : I w)
    (Hi : ∀ a', (a' = a ∨ ∃ x, a' = a.put (some sk) x) → ∀ w', I w' → Onward P ops Q oi I a' w' Ri)
    (Hj : ∀ q a', (a' = a.put (some si) q ∨ ∃ x, a' = (a.put (some si) q).put (some sk) x) → ∀ w', I w' → Ri q w' → Onward P ops Q oj I a' w' Rj)
    (Hk : ∀ a', (a' = a ∨ (∃ q, a' = a.put (some si) q) ∨ ∃ q v, a' = (a.put (some si) q).put (some sj) v) → ∀ w', I w' → Onward P ops Q ok I a' w' Rk)
    (ti : ∀ q w' w'', Ri q w' → Below w'.heap.size w' w'' → Ri q w'') (tj : ∀ q w' w'', Rj q w' → Below w'.heap.size w' w'' → Rj q w'') (tk : ∀ q w' w'', Rk q w' → Below w'.heap.size w' w'' → Rk q w'')
    (h : ∀ q v x w', Below w.heap.size w w' → I w' → Ri q w' → Rj v w' → Rk x w' →
      wpAny P md ops Q fuel (((l.setIfInBounds i true).setIfInBounds j true).setIfInBounds k true) (((a.put (some si) q).put (some sj) v).put (some sk) x) w') :
    wpAny P md ops Q (fuel + 3) l a w := by
  refine all_two r1 ?_ ?_
  · refine (Hi a (.inl rfl) w hI).at_ ei fun q w1 b1 i1 q1 => all_two r2 ?_ ?_
    · rw [di]
      refine (Hj q _ (.inl rfl) w1 i1 q1).at_ ej fun v w2 b2 i2 v2 => all_one r3 ?_
      rw [dj]
      have b := b1.trans (b2.mono b1.size)
      refine (Hk _ (.inr (.inr ⟨q, v, rfl⟩)) w2 i2).at_ ek fun x w3 b3 i3 x3 => ?_
      rw [dk]
      exact h q v x w3 (b.trans (b3.mono b.size)) i3 (ti _ _ _ (ti _ _ _ q1 b2) b3) (tj _ _ _ v2 b3) x3
    · rw [di]
      refine (Hk _ (.inr (.inl ⟨q, rfl⟩)) w1 i1).at_ ek fun x w2 b2 i2 x2 => all_one r5 ?_
      rw [dk]
      have b := b1.trans (b2.mono b1.size)
      refine (Hj q _ (.inr ⟨x, rfl⟩) w2 i2 (ti _ _ _ q1 b2)).at_ ej fun v w3 b3 i3 v3 => ?_
      rw [dj, put_swap _ (Ne.symm hjk), Array.setIfInBounds_comm _ _ (Ne.symm njk)]
      exact h q v x w3 (b.trans (b3.mono b.size)) i3 (ti _ _ _ (ti _ _ _ q1 b2) b3) v3 (tk _ _ _ x2 b3)
  · refine (Hk a (.inl rfl) w hI).at_ ek fun x w1 b1 i1 x1 => all_one r4 ?_
    rw [dk]
    refine (Hi _ (.inr ⟨x, rfl⟩) w1 i1).at_ ei fun q w2 b2 i2 q2 => ?_
    rw [di, put_swap a (Ne.symm hik), Array.setIfInBounds_comm _ _ (Ne.symm nik)]
    refine all_one r5 ?_
    have b := b1.trans (b2.mono b1.size)
    refine (Hj q _ (.inr ⟨x, rfl⟩) w2 i2 q2).at_ ej fun v w3 b3 i3 v3 => ?_
    rw [dj, put_swap _ (Ne.symm hjk), Array.setIfInBounds_comm _ _ (Ne.symm njk)]
    exact h q v x w3 (b.trans (b3.mono b.size)) i3 (ti _ _ _ q2 b3) v3 (tk _ _ _ (tk _ _ _ x1 b2) b3)
theorem onward_value {o : Oper} {I : World → Prop} {a : Act} {w w' : World} {R : Value → World → Prop} {v : Value} (hg : Region.wanted o (yielded ops a.tmps) = true) (hrun : (execOp a.eval o).run P w = .ok (.value v) w')
    (hb : Below w.heap.size w w') (hI : I w') (hR : R v w') : Onward P ops Q o I a w R :=
  ⟨hg, fun K hK => by unfold Oper.wp; rw [hrun]; exact hK v w' hb hI hR⟩
theorem onward_call {o : Oper} {I : World → Prop} {a : Act} {w : World} {R : Value → World → Prop} {f : FuncId} {vs : Array Value} (hg : Region.wanted o (yielded ops a.tmps) = true) (hrun : (execOp a.eval o).run P w = .ok (.enter f vs) w)
    (hc : Calls P f vs w fun e w' => ∃ v, e = .returned v ∧ Below w.heap.size w w' ∧ I w' ∧ R v w') : Onward P ops Q o I a w R :=
  ⟨hg, fun K hK => by
    unfold Oper.wp
    rw [hrun]
    show Calls P f vs w _
    exact hc.mono fun e w' ⟨v, he, hb, hI, hR⟩ => by subst he; exact hK v w' hb hI hR⟩
end
end Go.Proofs.Ytnopnjleibbakab
