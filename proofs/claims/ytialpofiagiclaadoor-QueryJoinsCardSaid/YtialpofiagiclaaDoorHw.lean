/- Steps of a region that draws its order, where a condition on the world is held throughout. No program in sight. Three operations of a region that may come up in any order, walked to one end. No program in sight. A condition that is held up to a region's last store: what is loaded may be taken first, though the store hits it. No program in sight. A region that draws: loads taken first, whatever has come up. -/
import Derived.OrdersHeld
import Derived.Test.YtialpofiagiclaaDoorHa
import Derived.Sort.Defs
namespace Go.Proofs.YtialpofiagiclaaDoor
set_option linter.unusedVariables false
set_option maxRecDepth 1000000
section
variable {P : Program} {ops : Array Oper} {Q : Exit → Act → World → Prop} {md : Region.Mode} {S : World → Prop}
theorem held_one {i : Nat} {fuel : Nat} {l : Array Bool} {a : Act} {w : World} (hr : Region.ready md ops l = [i]) (h : wpOp P ops Q i (fun a' w' => S w' ∧ wpAnyH P md ops Q S fuel (l.setIfInBounds i true) a' w') a w) : wpAnyH P md ops Q S (fuel + 1) l a w :=
  wpAnyH_all hr (by simp) fun x hx => by obtain rfl := List.mem_singleton.1 hx; exact h
theorem op_call {i : Nat} {o : Oper} {a : Act} {w : World} {K : Act → World → Prop} {f : FuncId} {vs : Array Value} (e : ops[i]? = some o) (hg : Region.wanted o (yielded ops a.tmps) = true) (hrun : (execOp a.eval o).run P w = .ok (.enter f vs) w)
    (hc : Calls P f vs w fun e w' => ∃ v, e = .returned v ∧ K (a.put o.dst v) w') : wpOp P ops Q i K a w := by
  unfold wpOp
  rw [e]
  simp only []
  rw [if_pos hg]
  refine .inl ?_
  unfold Oper.wp
  rw [hrun]
  show Calls P f vs w _
  exact hc.mono fun e w' ⟨v, he, hk⟩ => by subst he; exact hk
theorem op_value {i : Nat} {o : Oper} {a : Act} {w w' : World} {K : Act → World → Prop} {v : Value} (e : ops[i]? = some o) (hg : Region.wanted o (yielded ops a.tmps) = true) (hrun : (execOp a.eval o).run P w = .ok (.value v) w')
    (hK : K (a.put o.dst v) w') : wpOp P ops Q i K a w := by
  unfold wpOp
  rw [e]
  simp only []
  rw [if_pos hg]
  refine .inl ?_
  unfold Oper.wp
  rw [hrun]
  exact hK
theorem op_store {i : Nat} {o : Oper} {a : Act} {w w' : World} {K : Act → World → Prop} (e : ops[i]? = some o) (hg : Region.wanted o (yielded ops a.tmps) = true) (t : TypeId) (x y : Operand) (hop : o.op = Op.store t x y) (p v : Value) (hx : a.eval x = p) (hy : a.eval y = v)
    (hrun : (Instr.storeAt t p v).run P w = .ok () w') (hK : K (a.put o.dst undef) w') : wpOp P ops Q i K a w := by
  unfold wpOp
  rw [e]
  simp only []
  rw [if_pos hg]
  refine .inl ?_
  unfold Oper.wp
  simp [execOp, hop, hx, hy, hrun, Result.andThen]
  exact hK
end
end Go.Proofs.YtialpofiagiclaaDoor

namespace Go.Proofs.YtialpofiagiclaaDoor
set_option linter.unusedVariables false
set_option maxRecDepth 1000000
/-- What a state of three operations holds, by which of them have come up. -/
def cn3 (si sj sk : Nat) (a : Act) (bi bj bk : Bool) (vi vj vk : Value) : Act :=
  (fun a2 => if bk then Act.put a2 (some sk) vk else a2) ((fun a1 => if bj then Act.put a1 (some sj) vj else a1) (if bi then a.put (some si) vi else a))
theorem putt_swap (a : Act) {s t : Nat} (h : s ≠ t) (u v : Value) : (a.put (some s) u).put (some t) v = (a.put (some t) v).put (some s) u := by
  unfold Act.put
  simp only []
  congr 1
  exact Array.setIfInBounds_comm _ _ h
theorem cn3_i {si sj sk : Nat} (hij : si ≠ sj) (hik : si ≠ sk) (a : Act) (bj bk : Bool) (u v vj vk : Value) : (cn3 si sj sk a false bj bk u vj vk).put (some si) v = cn3 si sj sk a true bj bk v vj vk := by
  cases bj <;> cases bk <;> simp only [cn3, if_true, Bool.false_eq_true, if_false]
  · rw [putt_swap _ hik.symm]
  · rw [putt_swap _ hij.symm]
  · rw [putt_swap _ hik.symm, putt_swap _ hij.symm]
theorem cn3_j {si sj sk : Nat} (hjk : sj ≠ sk) (a : Act) (bi bk : Bool) (vi u v vk : Value) : (cn3 si sj sk a bi false bk vi u vk).put (some sj) v = cn3 si sj sk a bi true bk vi v vk := by
  cases bi <;> cases bk <;> simp only [cn3, if_true, Bool.false_eq_true, if_false]
  · rw [putt_swap _ hjk.symm]
  · rw [putt_swap _ hjk.symm]
theorem cn3_k {si sj sk : Nat} (a : Act) (bi bj : Bool) (vi vj u v : Value) : (cn3 si sj sk a bi bj false vi vj u).put (some sk) v = cn3 si sj sk a bi bj true vi vj v := by
  cases bi <;> cases bj <;> rfl
theorem wpOp_mono2 {P : Program} {ops : Array Oper} {Q : Exit → Act → World → Prop} {i : Nat} {K K' : Act → World → Prop} {a : Act} {w : World} (hk : ∀ a w, K a w → K' a w) (h : wpOp P ops Q i K a w) : wpOp P ops Q i K' a w := wpOp_mono hk h
section
variable {P : Program} {ops : Array Oper} {Q : Exit → Act → World → Prop} {md : Region.Mode} {S : World → Prop}
theorem held_two {i k : Nat} {fuel : Nat} {l : Array Bool} {a : Act} {w : World} (hr : Region.ready md ops l = [i, k]) (h1 : wpOp P ops Q i (fun a' w' => S w' ∧ wpAnyH P md ops Q S fuel (l.setIfInBounds i true) a' w') a w)
    (h2 : wpOp P ops Q k (fun a' w' => S w' ∧ wpAnyH P md ops Q S fuel (l.setIfInBounds k true) a' w') a w) : wpAnyH P md ops Q S (fuel + 1) l a w :=
  wpAnyH_all hr (by simp) fun x hx => by
    simp only [List.mem_cons, List.not_mem_nil, or_false] at hx
    rcases hx with rfl | rfl
    · exact h1
    · exact h2
theorem held_tri {i j k : Nat} {fuel : Nat} {l : Array Bool} {a : Act} {w : World} (hr : Region.ready md ops l = [i, j, k]) (h1 : wpOp P ops Q i (fun a' w' => S w' ∧ wpAnyH P md ops Q S fuel (l.setIfInBounds i true) a' w') a w)
    (h2 : wpOp P ops Q j (fun a' w' => S w' ∧ wpAnyH P md ops Q S fuel (l.setIfInBounds j true) a' w') a w)
    (h3 : wpOp P ops Q k (fun a' w' => S w' ∧ wpAnyH P md ops Q S fuel (l.setIfInBounds k true) a' w') a w) : wpAnyH P md ops Q S (fuel + 1) l a w :=
  wpAnyH_all hr (by simp) fun x hx => by
    simp only [List.mem_cons, List.not_mem_nil, or_false] at hx
    rcases hx with rfl | rfl | rfl
    · exact h1
    · exact h2
    · exact h3
/-- Three operations that may come up in any order, walked to one end: J says what holds, by which of them have come up, and what they yielded. -/
theorem held_three {i j k si sj sk : Nat} {fuel : Nat} {l : Array Bool} {a : Act} {w : World} (J : Bool → Bool → Bool → Value → Value → Value → World → Prop)
    (hij : si ≠ sj) (hik : si ≠ sk) (hjk : sj ≠ sk) (nij : i ≠ j) (nik : i ≠ k) (njk : j ≠ k)
    (r0 : Region.ready md ops l = [i, j, k]) (ri : Region.ready md ops (l.setIfInBounds i true) = [j, k]) (rj : Region.ready md ops (l.setIfInBounds j true) = [i, k]) (rk : Region.ready md ops (l.setIfInBounds k true) = [i, j])
    (rij : Region.ready md ops ((l.setIfInBounds i true).setIfInBounds j true) = [k]) (rik : Region.ready md ops ((l.setIfInBounds i true).setIfInBounds k true) = [j]) (rjk : Region.ready md ops ((l.setIfInBounds j true).setIfInBounds k true) = [i])
    (JS : ∀ bi bj bk vi vj vk w, J bi bj bk vi vj vk w → S w)
    (Hi : ∀ bj bk vj vk w, J false bj bk undef vj vk w → ∀ K : Act → World → Prop, (∀ v w', J true bj bk v vj vk w' → K ((cn3 si sj sk a false bj bk undef vj vk).put (some si) v) w') → wpOp P ops Q i K (cn3 si sj sk a false bj bk undef vj vk) w)
    (Hj : ∀ bi bk vi vk w, J bi false bk vi undef vk w → ∀ K : Act → World → Prop, (∀ v w', J bi true bk vi v vk w' → K ((cn3 si sj sk a bi false bk vi undef vk).put (some sj) v) w') → wpOp P ops Q j K (cn3 si sj sk a bi false bk vi undef vk) w)
    (Hk : ∀ bi bj vi vj w, J bi bj false vi vj undef w → ∀ K : Act → World → Prop, (∀ v w', J bi bj true vi vj v w' → K ((cn3 si sj sk a bi bj false vi vj undef).put (some sk) v) w') → wpOp P ops Q k K (cn3 si sj sk a bi bj false vi vj undef) w)
    (J0 : J false false false undef undef undef w)
    (h : ∀ vi vj vk w', J true true true vi vj vk w' → wpAnyH P md ops Q S fuel (((l.setIfInBounds i true).setIfInBounds j true).setIfInBounds k true) (((a.put (some si) vi).put (some sj) vj).put (some sk) vk) w') :
    wpAnyH P md ops Q S (fuel + 3) l a w := by
  have A110 : ∀ vi vj w, J true true false vi vj undef w → wpAnyH P md ops Q S (fuel + 1) ((l.setIfInBounds i true).setIfInBounds j true) (cn3 si sj sk a true true false vi vj undef) w := fun vi vj w hJ =>
    held_one rij (Hk _ _ _ _ _ hJ _ fun v w' hJ' => ⟨JS _ _ _ _ _ _ _ hJ', by rw [cn3_k]; exact h vi vj v w' hJ'⟩)
  have A101 : ∀ vi vk w, J true false true vi undef vk w → wpAnyH P md ops Q S (fuel + 1) ((l.setIfInBounds i true).setIfInBounds k true) (cn3 si sj sk a true false true vi undef vk) w := fun vi vk w hJ =>
    held_one rik (Hj _ _ _ _ _ hJ _ fun v w' hJ' => ⟨JS _ _ _ _ _ _ _ hJ', by rw [cn3_j hjk, Array.setIfInBounds_comm _ _ njk.symm]; exact h vi v vk w' hJ'⟩)
  have A011 : ∀ vj vk w, J false true true undef vj vk w → wpAnyH P md ops Q S (fuel + 1) ((l.setIfInBounds j true).setIfInBounds k true) (cn3 si sj sk a false true true undef vj vk) w := fun vj vk w hJ =>
    held_one rjk (Hi _ _ _ _ _ hJ _ fun v w' hJ' => ⟨JS _ _ _ _ _ _ _ hJ', by rw [cn3_i hij hik, Array.setIfInBounds_comm _ _ nik.symm, Array.setIfInBounds_comm _ _ nij.symm]; exact h v vj vk w' hJ'⟩)
  have A100 : ∀ vi w, J true false false vi undef undef w → wpAnyH P md ops Q S (fuel + 2) (l.setIfInBounds i true) (cn3 si sj sk a true false false vi undef undef) w := fun vi w hJ =>
    held_two ri (Hj _ _ _ _ _ hJ _ fun v w' hJ' => ⟨JS _ _ _ _ _ _ _ hJ', by rw [cn3_j hjk]; exact A110 vi v w' hJ'⟩)
      (Hk _ _ _ _ _ hJ _ fun v w' hJ' => ⟨JS _ _ _ _ _ _ _ hJ', by rw [cn3_k]; exact A101 vi v w' hJ'⟩)
  have A010 : ∀ vj w, J false true false undef vj undef w → wpAnyH P md ops Q S (fuel + 2) (l.setIfInBounds j true) (cn3 si sj sk a false true false undef vj undef) w := fun vj w hJ =>
    held_two rj (Hi _ _ _ _ _ hJ _ fun v w' hJ' => ⟨JS _ _ _ _ _ _ _ hJ', by rw [cn3_i hij hik, Array.setIfInBounds_comm _ _ nij.symm]; exact A110 v vj w' hJ'⟩)
      (Hk _ _ _ _ _ hJ _ fun v w' hJ' => ⟨JS _ _ _ _ _ _ _ hJ', by rw [cn3_k]; exact A011 vj v w' hJ'⟩)
  have A001 : ∀ vk w, J false false true undef undef vk w → wpAnyH P md ops Q S (fuel + 2) (l.setIfInBounds k true) (cn3 si sj sk a false false true undef undef vk) w := fun vk w hJ =>
    held_two rk (Hi _ _ _ _ _ hJ _ fun v w' hJ' => ⟨JS _ _ _ _ _ _ _ hJ', by rw [cn3_i hij hik, Array.setIfInBounds_comm _ _ nik.symm]; exact A101 v vk w' hJ'⟩)
      (Hj _ _ _ _ _ hJ _ fun v w' hJ' => ⟨JS _ _ _ _ _ _ _ hJ', by rw [cn3_j hjk, Array.setIfInBounds_comm _ _ njk.symm]; exact A011 v vk w' hJ'⟩)
  exact held_tri r0 (Hi _ _ _ _ _ J0 _ fun v w' hJ' => ⟨JS _ _ _ _ _ _ _ hJ', by rw [cn3_i hij hik]; exact A100 v w' hJ'⟩)
    (Hj _ _ _ _ _ J0 _ fun v w' hJ' => ⟨JS _ _ _ _ _ _ _ hJ', by rw [cn3_j hjk]; exact A010 v w' hJ'⟩)
    (Hk _ _ _ _ _ J0 _ fun v w' hJ' => ⟨JS _ _ _ _ _ _ _ hJ', by rw [cn3_k]; exact A001 v w' hJ'⟩)
end
end Go.Proofs.YtialpofiagiclaaDoor

namespace Go.Proofs.YtialpofiagiclaaDoor
set_option linter.unusedVariables false
set_option maxRecDepth 1000000
section
variable {P : Program} {ops : Array Oper} {Q : Exit → Act → World → Prop} {md : Region.Mode} {S : World → Prop} {z : Nat}
/-- All orders from here on; S holds behind each operation, but for number z. -/
def heldTo (P : Program) (md : Region.Mode) (ops : Array Oper) (Q : Exit → Act → World → Prop) (S : World → Prop) (z : Nat) : Nat → Array Bool → Act → World → Prop
  | 0, l, a, w => Region.ready md ops l = [] ∧ Q .normal a w
  | n + 1, l, a, w => (Region.ready md ops l = [] → Q .normal a w) ∧
      ∀ j ∈ Region.ready md ops l, wpOp P ops Q j (fun b v => (j = z ∨ S v) ∧ heldTo P md ops Q S z n (l.setIfInBounds j true) b v) a w
theorem heldTo.any : ∀ (n : Nat) (l : Array Bool) (a : Act) (w : World), heldTo P md ops Q S z n l a w → wpAny P md ops Q n l a w
  | 0, _, _, _, h => h
  | n + 1, l, a, w, h => ⟨h.1, fun j hj => wpOp_mono (fun b v hb => heldTo.any n _ b v hb.2) (h.2 j hj)⟩
/-- Number z comes behind number i. -/
def waits (md : Region.Mode) (ops : Array Oper) (z i : Nat) : Bool := match ops[z]? with
  | some o => o.after.any (fun e => Region.binds md e && e.on == i)
  | none => false
theorem waits.not_ready {i : Nat} {l : Array Bool} (h : waits md ops z i = true) (hi : i ∈ Region.ready md ops l) : z ∉ Region.ready md ops l := by
  intro hz
  obtain ⟨h0, -⟩ := mem_ready.1 hi
  obtain ⟨-, o, ho, hall⟩ := mem_ready.1 hz
  unfold waits at h
  rw [ho] at h
  obtain ⟨e, he, hb⟩ := Array.any_eq_true'.1 h
  rw [Bool.and_eq_true, beq_iff_eq] at hb
  have h1 := hall e he hb.1
  rw [hb.2] at h1
  rcases Nat.lt_or_ge i l.size with h2 | h2
  · simp [h2] at h0 h1
    rw [h0] at h1
    cases h1
  · simp [Array.getElem?_eq_none h2] at h1
theorem heldTo.take_first {i : Nat} {oi : Oper} {v : Value} (hi : ops[i]? = some oi) (hs : Region.noSelect ops = true) (hz : waits md ops z i = true) (hQ : ∀ c a w, Q (.panic c) (a.put oi.dst v) w → Q (.panic c) a w) :
    ∀ (n : Nat) (l : Array Bool) (a : Act) (w : World), (∀ j oj, ops[j]? = some oj → j ≠ i → l.getD j true = false → (∀ e ∈ oj.after, Region.binds md e = true → e.on ≠ i) → oi.apart ops oj = true) →
      i ∈ Region.ready md ops l → YieldsIf P ops S oi v a → S w → heldTo P md ops Q S z n (l.setIfInBounds i true) (a.put oi.dst v) w → heldTo P md ops Q S z (n + 1) l a w
  | n, l, a, w, hf, hr, hy, hS, H => by
    refine ⟨fun h => absurd hr (by rw [h]; exact List.not_mem_nil), fun j hj => ?_⟩
    rcases Nat.decEq j i with hji | hji
    · have hj2 := ready_mono hj hji
      have hjz : j ≠ z := fun e => waits.not_ready hz hr (e ▸ hj)
      cases n with
      | zero => rw [H.1] at hj2; exact absurd hj2 List.not_mem_nil
      | succ n =>
        obtain ⟨h0, oj, ho, hall⟩ := mem_ready.1 hj
        have hap : oi.apart ops oj = true := hf j oj ho hji h0 fun e he hb heq => by
          have h1 := hall e he hb
          have h2 := (mem_ready.1 hr).1
          rw [heq] at h1
          rcases Nat.lt_or_ge i l.size with h3 | h3
          · simp [h3] at h1 h2
            rw [h2] at h1
            cases h1
          · simp [Array.getElem?_eq_none h3] at h1
        have h4 := wpOp_putIf ho hap (fun cs b => Region.noSelect_spec hs i oi cs b hi) (fun cs b => Region.noSelect_spec hs j oj cs b ho) hQ hy (H.2 j hj2)
        refine wpOp_mono (fun b u h5 => ?_) h4
        have hSu : S u := h5.2.1.resolve_left hjz
        refine ⟨.inr hSu, heldTo.take_first hi hs hz hQ n _ b u (fun k ok hk hki hun hno => ?_) (ready_mono hr (Ne.symm hji)) h5.1 hSu ?_⟩
        · refine hf k ok hk hki ?_ hno
          rcases Nat.decEq j k with e | e
          · rw [getD_set_ne true e] at hun
            exact hun
          · subst e
            exact h0
        · rw [Array.setIfInBounds_comm _ _ hji]
          exact h5.2.2
    · subst hji
      exact hy.wpOp hi hS ⟨.inr hS, H⟩
theorem heldTo.take {i : Nat} {oi : Oper} {v : Value} {n : Nat} {l : Array Bool} {a : Act} {w : World} (hi : ops[i]? = some oi) (hz : waits md ops z i = true) (hs : Region.noSelect ops = true) (hf : Region.free md ops l i = true) (hr : (Region.ready md ops l).contains i = true)
    (hQ : ∀ c a w, Q (.panic c) (a.put oi.dst v) w → Q (.panic c) a w) (hy : YieldsIf P ops S oi v a) (hS : S w)
    (h : heldTo P md ops Q S z n (l.setIfInBounds i true) (a.put oi.dst v) w) : heldTo P md ops Q S z (n + 1) l a w :=
  heldTo.take_first hi hs hz hQ n l a w (Region.free_spec hi hf) (by simpa using hr) hy hS h
theorem heldTo.one {i : Nat} {n : Nat} {l : Array Bool} {a : Act} {w : World} (hr : Region.ready md ops l = [i]) (h : wpOp P ops Q i (fun b v => (i = z ∨ S v) ∧ heldTo P md ops Q S z n (l.setIfInBounds i true) b v) a w) : heldTo P md ops Q S z (n + 1) l a w :=
  ⟨fun h0 => absurd (hr.symm.trans h0) (by simp), by rw [hr]; intro j hj; obtain rfl := List.mem_singleton.1 hj; exact h⟩
theorem heldTo.done {l : Array Bool} {a : Act} {w : World} (hr : Region.ready md ops l = []) (h : Q .normal a w) : ∀ n, heldTo P md ops Q S z n l a w
  | 0 => ⟨hr, h⟩
  | n + 1 => ⟨fun _ => h, by rw [hr]; simp⟩
end
theorem wp_region_heldTo {P : Program} {Q : Exit → Act → World → Prop} (S : World → Prop) (z : Nat) {id : Nat} {ops : Array Oper} {a : Act} {w : World} (hm : P.follows .mixedOrders = true)
    (h : heldTo P .any ops Q S z ops.size (Array.replicate ops.size false) a w.drew) : (Code.region id ops true).wp P Q a w :=
  wp_region_any hm (heldTo.any _ _ _ _ h)
end Go.Proofs.YtialpofiagiclaaDoor

namespace Go.Proofs.YtialpofiagiclaaDoor
set_option linter.unusedVariables false
set_option maxRecDepth 1000000
open Go.RowKit Go.Sort

section
variable {P : Program} {ops : Array Oper} {Q : Exit → Act → World → Prop} {md : Region.Mode} {S : World → Prop} {z : Nat}
/-- All orders from here on; S holds behind each operation, as long as number z has not come up. -/
def heldTz (P : Program) (md : Region.Mode) (ops : Array Oper) (Q : Exit → Act → World → Prop) (S : World → Prop) (z : Nat) : Nat → Array Bool → Act → World → Prop
  | 0, l, a, w => Region.ready md ops l = [] ∧ Q .normal a w
  | n + 1, l, a, w => (Region.ready md ops l = [] → Q .normal a w) ∧
      ∀ j ∈ Region.ready md ops l, wpOp P ops Q j (fun b v => (j = z ∨ l.getD z true = true ∨ S v) ∧ heldTz P md ops Q S z n (l.setIfInBounds j true) b v) a w
theorem heldTz.any : ∀ (n : Nat) (l : Array Bool) (a : Act) (w : World), heldTz P md ops Q S z n l a w → wpAny P md ops Q n l a w
  | 0, _, _, _, h => h
  | n + 1, l, a, w, h => ⟨h.1, fun j hj => wpOp_mono (fun b v hb => heldTz.any n _ b v hb.2) (h.2 j hj)⟩
/-- While number i has not come up, none of D can. -/
def blocked (md : Region.Mode) (ops : Array Oper) (D : List Nat) (i : Nat) : Bool := D.all (fun d => waits md ops d i || D.any (fun e => waits md ops d e))
theorem waits.held {e d : Nat} {l : Array Bool} (h : waits md ops d e = true) (he : l.getD e true = false) : d ∉ Region.ready md ops l := by
  intro hz
  obtain ⟨-, o, ho, hall⟩ := mem_ready.1 hz
  unfold waits at h
  rw [ho] at h
  obtain ⟨x, hx, hb⟩ := Array.any_eq_true'.1 h
  rw [Bool.and_eq_true, beq_iff_eq] at hb
  have h1 := hall x hx hb.1
  rw [hb.2] at h1
  rcases Nat.lt_or_ge e l.size with h2 | h2
  · simp [h2] at he h1
    rw [he] at h1
    cases h1
  · simp [Array.getElem?_eq_none h2] at he
theorem ready_open {i : Nat} {l : Array Bool} (hi : i ∈ Region.ready md ops l) : l.getD i true = false := by
  obtain ⟨h0, -⟩ := mem_ready.1 hi
  rcases Nat.lt_or_ge i l.size with h2 | h2
  · simp [h2] at h0 ⊢
    exact h0
  · simp [Array.getElem?_eq_none h2] at h0
theorem blocked.off {i d : Nat} {D : List Nat} {l : Array Bool} (hD : blocked md ops D i = true) (hi : i ∈ Region.ready md ops l) (hl : ∀ e ∈ D, l.getD e true = false) (hd : d ∈ D) : d ∉ Region.ready md ops l := by
  have h := List.all_eq_true.1 hD d hd
  rw [Bool.or_eq_true] at h
  rcases h with h | h
  · exact waits.held h (ready_open hi)
  · obtain ⟨e, he, h2⟩ := List.any_eq_true.1 h
    exact waits.held h2 (hl e he)
theorem heldTz.takeD_first {i : Nat} {D : List Nat} {oi : Oper} {v : Value} (hi : ops[i]? = some oi) (hs : Region.noSelect ops = true) (hD : blocked md ops D i = true) (hzD : z ∈ D) (hQ : ∀ c a w, Q (.panic c) (a.put oi.dst v) w → Q (.panic c) a w) :
    ∀ (n : Nat) (l : Array Bool) (a : Act) (w : World), (∀ d ∈ D, l.getD d true = false) → (∀ j oj, ops[j]? = some oj → j ≠ i → l.getD j true = false → (∀ e ∈ oj.after, Region.binds md e = true → e.on ≠ i) → oi.apart ops oj = true) →
      i ∈ Region.ready md ops l → YieldsIf P ops S oi v a → S w → heldTz P md ops Q S z n (l.setIfInBounds i true) (a.put oi.dst v) w → heldTz P md ops Q S z (n + 1) l a w
  | n, l, a, w, hlD, hf, hr, hy, hS, H => by
    have hoff : ∀ d ∈ D, d ∉ Region.ready md ops l := fun d hd => blocked.off hD hr hlD hd
    have hiz : i ≠ z := fun e => hoff z hzD (e ▸ hr)
    refine ⟨fun h => absurd hr (by rw [h]; exact List.not_mem_nil), fun j hj => ?_⟩
    rcases Nat.decEq j i with hji | hji
    · have hj2 := ready_mono hj hji
      have hjz : j ≠ z := fun e => hoff z hzD (e ▸ hj)
      cases n with
      | zero => rw [H.1] at hj2; exact absurd hj2 List.not_mem_nil
      | succ n =>
        obtain ⟨h0, oj, ho, hall⟩ := mem_ready.1 hj
        have hap : oi.apart ops oj = true := hf j oj ho hji h0 fun e he hb heq => by
          have h1 := hall e he hb
          have h2 := (mem_ready.1 hr).1
          rw [heq] at h1
          rcases Nat.lt_or_ge i l.size with h3 | h3
          · simp [h3] at h1 h2
            rw [h2] at h1
            cases h1
          · simp [Array.getElem?_eq_none h3] at h1
        have h4 := wpOp_putIf ho hap (fun cs b => Region.noSelect_spec hs i oi cs b hi) (fun cs b => Region.noSelect_spec hs j oj cs b ho) hQ hy (H.2 j hj2)
        refine wpOp_mono (fun b u h5 => ?_) h4
        have hSu : S u := by
          rcases h5.2.1 with h6 | h6 | h6
          · exact absurd h6 hjz
          · rw [getD_set_ne true hiz, hlD z hzD] at h6; cases h6
          · exact h6
        refine ⟨.inr (.inr hSu), heldTz.takeD_first hi hs hD hzD hQ n _ b u (fun d hd => by rw [getD_set_ne true (show j ≠ d from fun e => hoff d hd (by rw [← e]; exact hj))]; exact hlD d hd) (fun k ok hk hki hun hno => ?_) (ready_mono hr (Ne.symm hji)) h5.1 hSu ?_⟩
        · refine hf k ok hk hki ?_ hno
          rcases Nat.decEq j k with e | e
          · rw [getD_set_ne true e] at hun
            exact hun
          · subst e
            exact h0
        · rw [Array.setIfInBounds_comm _ _ hji]
          exact h5.2.2
    · subst hji
      exact hy.wpOp hi hS ⟨.inr (.inr hS), H⟩
theorem heldTz.takeD (i : Nat) (D : List Nat) {oi : Oper} {v : Value} {n : Nat} {l : Array Bool} {a : Act} {w : World} (hi : ops[i]? = some oi) (hy : YieldsIf P ops S oi v a) (hS : S w)
    (h : heldTz P md ops Q S z n (l.setIfInBounds i true) (a.put oi.dst v) w) (hD : blocked md ops D i = true := by kernel_rfl) (hzD : z ∈ D := by decide) (hlD : D.all (fun d => l.getD d true == false) = true := by kernel_rfl) (hs : Region.noSelect ops = true := by kernel_rfl) (hf : Region.free md ops l i = true := by kernel_rfl) (hr : (Region.ready md ops l).contains i = true := by kernel_rfl)
    (hQ : ∀ c a w, Q (.panic c) (a.put oi.dst v) w → Q (.panic c) a w := by exact fun _ _ _ h => h) : heldTz P md ops Q S z (n + 1) l a w :=
  heldTz.takeD_first hi hs hD hzD hQ n l a w (fun d hd => beq_iff_eq.1 (List.all_eq_true.1 hlD d hd)) (Region.free_spec hi hf) (by simpa using hr) hy hS h
theorem heldTz.take (i : Nat) {oi : Oper} {v : Value} {n : Nat} {l : Array Bool} {a : Act} {w : World} (hi : ops[i]? = some oi) (hy : YieldsIf P ops S oi v a) (hS : S w)
    (h : heldTz P md ops Q S z n (l.setIfInBounds i true) (a.put oi.dst v) w) (hD : blocked md ops [z] i = true := by kernel_rfl) (hlD : [z].all (fun d => l.getD d true == false) = true := by kernel_rfl) (hs : Region.noSelect ops = true := by kernel_rfl) (hf : Region.free md ops l i = true := by kernel_rfl) (hr : (Region.ready md ops l).contains i = true := by kernel_rfl)
    (hQ : ∀ c a w, Q (.panic c) (a.put oi.dst v) w → Q (.panic c) a w := by exact fun _ _ _ h => h) : heldTz P md ops Q S z (n + 1) l a w :=
  heldTz.takeD i [z] hi hy hS h hD (List.mem_singleton.2 rfl) hlD hs hf hr hQ
theorem getD_set_at (l : Array Bool) (j : Nat) : (l.setIfInBounds j true).getD j true = true := by
  by_cases h : j < l.size
  · simp [h]
  · simp [h]
/-- What asks nothing of the world may be taken first, whatever has come up. -/
theorem heldTz.pure_first {i : Nat} {oi : Oper} {v : Value} (hi : ops[i]? = some oi) (hs : Region.noSelect ops = true) (hiz : i ≠ z) (hQ : ∀ c a w, Q (.panic c) (a.put oi.dst v) w → Q (.panic c) a w) :
    ∀ (n : Nat) (l : Array Bool) (a : Act) (w : World), (∀ j oj, ops[j]? = some oj → j ≠ i → l.getD j true = false → (∀ e ∈ oj.after, Region.binds md e = true → e.on ≠ i) → oi.apart ops oj = true) →
      i ∈ Region.ready md ops l → YieldsIf P ops (fun _ => True) oi v a → (l.getD z true = true ∨ S w) → heldTz P md ops Q S z n (l.setIfInBounds i true) (a.put oi.dst v) w → heldTz P md ops Q S z (n + 1) l a w
  | n, l, a, w, hf, hr, hy, hS, H => by
    refine ⟨fun h => absurd hr (by rw [h]; exact List.not_mem_nil), fun j hj => ?_⟩
    rcases Nat.decEq j i with hji | hji
    · have hj2 := ready_mono hj hji
      cases n with
      | zero => rw [H.1] at hj2; exact absurd hj2 List.not_mem_nil
      | succ n =>
        obtain ⟨h0, oj, ho, hall⟩ := mem_ready.1 hj
        have hap : oi.apart ops oj = true := hf j oj ho hji h0 fun e he hb heq => by
          have h1 := hall e he hb
          have h2 := (mem_ready.1 hr).1
          rw [heq] at h1
          rcases Nat.lt_or_ge i l.size with h3 | h3
          · simp [h3] at h1 h2
            rw [h2] at h1
            cases h1
          · simp [Array.getElem?_eq_none h3] at h1
        have h4 := wpOp_putIf ho hap (fun cs b => Region.noSelect_spec hs i oi cs b hi) (fun cs b => Region.noSelect_spec hs j oj cs b ho) hQ hy (H.2 j hj2)
        refine wpOp_mono (fun b u h5 => ?_) h4
        have h6 : j = z ∨ l.getD z true = true ∨ S u := by
          have h7 := h5.2.1
          rw [getD_set_ne true hiz] at h7
          exact h7
        refine ⟨h6, heldTz.pure_first hi hs hiz hQ n _ b u (fun k ok hk hki hun hno => ?_) (ready_mono hr (Ne.symm hji)) h5.1 ?_ ?_⟩
        · refine hf k ok hk hki ?_ hno
          rcases Nat.decEq j k with e | e
          · rw [getD_set_ne true e] at hun
            exact hun
          · subst e
            exact h0
        · rcases Nat.decEq j z with e | e
          · rw [getD_set_ne true e]
            rcases h6 with h7 | h7
            · exact absurd h7 e
            · exact h7
          · subst e
            exact .inl (getD_set_at l j)
        · rw [Array.setIfInBounds_comm _ _ hji]
          exact h5.2.2
    · subst hji
      exact hy.wpOp hi trivial ⟨.inr hS, H⟩
theorem heldTz.pure (i : Nat) {oi : Oper} {v : Value} {n : Nat} {l : Array Bool} {a : Act} {w : World} (hi : ops[i]? = some oi) (hy : YieldsIf P ops (fun _ => True) oi v a) (hS : S w)
    (h : heldTz P md ops Q S z n (l.setIfInBounds i true) (a.put oi.dst v) w) (hiz : i ≠ z := by decide) (hs : Region.noSelect ops = true := by kernel_rfl) (hf : Region.free md ops l i = true := by kernel_rfl) (hr : (Region.ready md ops l).contains i = true := by kernel_rfl)
    (hQ : ∀ c a w, Q (.panic c) (a.put oi.dst v) w → Q (.panic c) a w := by exact fun _ _ _ h => h) : heldTz P md ops Q S z (n + 1) l a w :=
  heldTz.pure_first hi hs hiz hQ n l a w (Region.free_spec hi hf) (by simpa using hr) hy (.inr hS) h
theorem heldTz.one {i : Nat} {n : Nat} {l : Array Bool} {a : Act} {w : World} (hr : Region.ready md ops l = [i]) (h : wpOp P ops Q i (fun b v => (i = z ∨ l.getD z true = true ∨ S v) ∧ heldTz P md ops Q S z n (l.setIfInBounds i true) b v) a w) : heldTz P md ops Q S z (n + 1) l a w :=
  ⟨fun h0 => absurd (hr.symm.trans h0) (by simp), by rw [hr]; intro j hj; obtain rfl := List.mem_singleton.1 hj; exact h⟩
theorem heldTz.done {l : Array Bool} {a : Act} {w : World} (hr : Region.ready md ops l = []) (h : Q .normal a w) : ∀ n, heldTz P md ops Q S z n l a w
  | 0 => ⟨hr, h⟩
  | n + 1 => ⟨fun _ => h, by rw [hr]; simp⟩
end
theorem wp_region_heldTz {P : Program} {Q : Exit → Act → World → Prop} (S : World → Prop) (z : Nat) {id : Nat} {ops : Array Oper} {a : Act} {w : World} (hm : P.follows .mixedOrders = true)
    (h : heldTz P .any ops Q S z ops.size (Array.replicate ops.size false) a w.drew) : (Code.region id ops true).wp P Q a w :=
  wp_region_any hm (heldTz.any _ _ _ _ h)
end Go.Proofs.YtialpofiagiclaaDoor
