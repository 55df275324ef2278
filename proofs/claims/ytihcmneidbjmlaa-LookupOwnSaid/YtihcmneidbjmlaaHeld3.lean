/- Three operations of a region that may come up in any order, walked to one end. No program in sight. -/
import Derived.Test.YtihcmneidbjmlaaHeld
namespace Go.Proofs.Ytihcmneidbjmlaa
set_option linter.unusedVariables false
/-- What a state of three operations holds, by which of them have come up. -/
def cn3 (si sj sk : Nat) (a : Act) (bi bj bk : Bool) (vi vj vk : Value) : Act :=
  (fun a2 => if bk then Act.put a2 (some sk) vk else a2) ((fun a1 => if bj then Act.put a1 (some sj) vj else a1) (if bi then a.put (some si) vi else a))
theorem putt_swap (a : Act) {s t : Nat} (h : s ≠ t) (u v : Value) : (a.put (some s) u).put (some t) v = (a.put (some t) v).put (some s) u := by
  unfold Act.put
  simp only []
  congr 1
  exact Array.setIfInBounds_comm _ _ h
theorem cn3_i {si sj sk : Nat} (hij : si ≠ sj) (hik : si ≠ sk) (a : Act) (bj bk : Bool) (u v vj vk : Value) : (cn3 si sj sk a false bj bk u vj vk).put (some si) v = cn3 si sj sk a true bj bk v vj vk := by
  cases bj <;> cases bk <;> simp only [cn3, if_true, Bool.false_eq_true, if_false]
  · rw [putt_swap _ hik.symm]
  · rw [putt_swap _ hij.symm]
  · rw [putt_swap _ hik.symm, putt_swap _ hij.symm]
theorem cn3_j {si sj sk : Nat} (hjk : sj ≠ sk) (a : Act) (bi bk : Bool) (vi u v vk : Value) : (cn3 si sj sk a bi false bk vi u vk).put (some sj) v = cn3 si sj sk a bi true bk vi v vk := by
  cases bi <;> cases bk <;> simp only [cn3, if_true, Bool.false_eq_true, if_false]
  · rw [putt_swap _ hjk.symm]
  · rw [putt_swap _ hjk.symm]
theorem cn3_k {si sj sk : Nat} (a : Act) (bi bj : Bool) (vi vj u v : Value) : (cn3 si sj sk a bi bj false vi vj u).put (some sk) v = cn3 si sj sk a bi bj true vi vj v := by
  cases bi <;> cases bj <;> rfl
theorem wpOp_mono2 {P : Program} {ops : Array Oper} {Q : Exit → Act → World → Prop} {i : Nat} {K K' : Act → World → Prop} {a : Act} {w : World} (hk : ∀ a w, K a w → K' a w) (h : wpOp P ops Q i K a w) : wpOp P ops Q i K' a w := wpOp_mono hk h
section
variable {P : Program} {ops : Array Oper} {Q : Exit → Act → World → Prop} {md : Region.Mode} {S : World → Prop}
theorem held_two {i k : Nat} {fuel : Nat} {l : Array Bool} {a : Act} {w : World} (hr : Region.ready md ops l = [i, k]) (h1 : wpOp P ops Q i (fun a' w' => S w' ∧ wpAnyH P md ops Q S fuel (l.setIfInBounds i true) a' w') a w)
    (h2 : wpOp P ops Q k (fun a' w' => S w' ∧ wpAnyH P md ops Q S fuel (l.setIfInBounds k true) a' w') a w) : wpAnyH P md ops Q S (fuel + 1) l a w :=
  wpAnyH_all hr (by simp) fun x hx => by
    simp only [List.mem_cons, List.not_mem_nil, or_false] at hx
    rcases hx with rfl | rfl
    · exact h1
    · exact h2
theorem held_tri {i j k : Nat} {fuel : Nat} {l : Array Bool} {a : Act} {w : World} (hr : Region.ready md ops l = [i, j, k]) (h1 : wpOp P ops Q i (fun a' w' => S w' ∧ wpAnyH P md ops Q S fuel (l.setIfInBounds i true) a' w') a w)
    (h2 : wpOp P ops Q j (fun a' w' => S w' ∧ wpAnyH P md ops Q S fuel (l.setIfInBounds j true) a' w') a w)
    (h3 : wpOp P ops Q k (fun a' w' => S w' ∧ wpAnyH P md ops Q S fuel (l.setIfInBounds k true) a' w') a w) : wpAnyH P md ops Q S (fuel + 1) l a w :=
  wpAnyH_all hr (by simp) fun x hx => by
    simp only [List.mem_cons, List.not_mem_nil, or_false] at hx
    rcases hx with rfl | rfl | rfl
    · exact h1
    · exact h2
    · exact h3
/-- Three operations that may come up in any order, walked to one end: J says what holds, by which of them have come up, and what they yielded. -/
theorem held_three {i j k si sj sk : Nat} {fuel : Nat} {l : Array Bool} {a : Act} {w : World} (J : Bool → Bool → Bool → Value → Value → Value → World → Prop)
    (hij : si ≠ sj) (hik : si ≠ sk) (hjk : sj ≠ sk) (nij : i ≠ j) (nik : i ≠ k) (njk : j ≠ k)
    (r0 : Region.ready md ops l = [i, j, k]) (ri : Region.ready md ops (l.setIfInBounds i true) = [j, k]) (rj : Region.ready md ops (l.setIfInBounds j true) = [i, k]) (rk : Region.ready md ops (l.setIfInBounds k true) = [i, j])
    (rij : Region.ready md ops ((l.setIfInBounds i true).setIfInBounds j true) = [k]) (rik : Region.ready md ops ((l.setIfInBounds i true).setIfInBounds k true) = [j]) (rjk : Region.ready md ops ((l.setIfInBounds j true).setIfInBounds k true) = [i])
    (JS : ∀ bi bj bk vi vj vk w, J bi bj bk vi vj vk w → S w)
    (Hi : ∀ bj bk vj vk w, J false bj bk undef vj vk w → ∀ K : Act → World → Prop, (∀ v w', J true bj bk v vj vk w' → K ((cn3 si sj sk a false bj bk undef vj vk).put (some si) v) w') → wpOp P ops Q i K (cn3 si sj sk a false bj bk undef vj vk) w)
    (Hj : ∀ bi bk vi vk w, J bi false bk vi undef vk w → ∀ K : Act → World → Prop, (∀ v w', J bi true bk vi v vk w' → K ((cn3 si sj sk a bi false bk vi undef vk).put (some sj) v) w') → wpOp P ops Q j K (cn3 si sj sk a bi false bk vi undef vk) w)
    (Hk : ∀ bi bj vi vj w, J bi bj false vi vj undef w → ∀ K : Act → World → Prop, (∀ v w', J bi bj true vi vj v w' → K ((cn3 si sj sk a bi bj false vi vj undef).put (some sk) v) w') → wpOp P ops Q k K (cn3 si sj sk a bi bj false vi vj undef) w)
    (J0 : J false false false undef undef undef w)
    (h : ∀ vi vj vk w', J true true true vi vj vk w' → wpAnyH P md ops Q S fuel (((l.setIfInBounds i true).setIfInBounds j true).setIfInBounds k true) (((a.put (some si) vi).put (some sj) vj).put (some sk) vk) w') :
    wpAnyH P md ops Q S (fuel + 3) l a w := by
  have A110 : ∀ vi vj w, J true true false vi vj undef w → wpAnyH P md ops Q S (fuel + 1) ((l.setIfInBounds i true).setIfInBounds j true) (cn3 si sj sk a true true false vi vj undef) w := fun vi vj w hJ =>
    held_one rij (Hk _ _ _ _ _ hJ _ fun v w' hJ' => ⟨JS _ _ _ _ _ _ _ hJ', by rw [cn3_k]; exact h vi vj v w' hJ'⟩)
  have A101 : ∀ vi vk w, J true false true vi undef vk w → wpAnyH P md ops Q S (fuel + 1) ((l.setIfInBounds i true).setIfInBounds k true) (cn3 si sj sk a true false true vi undef vk) w := fun vi vk w hJ =>
    held_one rik (Hj _ _ _ _ _ hJ _ fun v w' hJ' => ⟨JS _ _ _ _ _ _ _ hJ', by rw [cn3_j hjk, Array.setIfInBounds_comm _ _ njk.symm]; exact h vi v vk w' hJ'⟩)
  have A011 : ∀ vj vk w, J false true true undef vj vk w → wpAnyH P md ops Q S (fuel + 1) ((l.setIfInBounds j true).setIfInBounds k true) (cn3 si sj sk a false true true undef vj vk) w := fun vj vk w hJ =>
    held_one rjk (Hi _ _ _ _ _ hJ _ fun v w' hJ' => ⟨JS _ _ _ _ _ _ _ hJ', by rw [cn3_i hij hik, Array.setIfInBounds_comm _ _ nik.symm, Array.setIfInBounds_comm _ _ nij.symm]; exact h v vj vk w' hJ'⟩)
  have A100 : ∀ vi w, J true false false vi undef undef w → wpAnyH P md ops Q S (fuel + 2) (l.setIfInBounds i true) (cn3 si sj sk a true false false vi undef undef) w := fun vi w hJ =>
    held_two ri (Hj _ _ _ _ _ hJ _ fun v w' hJ' => ⟨JS _ _ _ _ _ _ _ hJ', by rw [cn3_j hjk]; exact A110 vi v w' hJ'⟩)
      (Hk _ _ _ _ _ hJ _ fun v w' hJ' => ⟨JS _ _ _ _ _ _ _ hJ', by rw [cn3_k]; exact A101 vi v w' hJ'⟩)
  have A010 : ∀ vj w, J false true false undef vj undef w → wpAnyH P md ops Q S (fuel + 2) (l.setIfInBounds j true) (cn3 si sj sk a false true false undef vj undef) w := fun vj w hJ =>
    held_two rj (Hi _ _ _ _ _ hJ _ fun v w' hJ' => ⟨JS _ _ _ _ _ _ _ hJ', by rw [cn3_i hij hik, Array.setIfInBounds_comm _ _ nij.symm]; exact A110 v vj w' hJ'⟩)
      (Hk _ _ _ _ _ hJ _ fun v w' hJ' => ⟨JS _ _ _ _ _ _ _ hJ', by rw [cn3_k]; exact A011 vj v w' hJ'⟩)
  have A001 : ∀ vk w, J false false true undef undef vk w → wpAnyH P md ops Q S (fuel + 2) (l.setIfInBounds k true) (cn3 si sj sk a false false true undef undef vk) w := fun vk w hJ =>
    held_two rk (Hi _ _ _ _ _ hJ _ fun v w' hJ' => ⟨JS _ _ _ _ _ _ _ hJ', by rw [cn3_i hij hik, Array.setIfInBounds_comm _ _ nik.symm]; exact A101 v vk w' hJ'⟩)
      (Hj _ _ _ _ _ hJ _ fun v w' hJ' => ⟨JS _ _ _ _ _ _ _ hJ', by rw [cn3_j hjk, Array.setIfInBounds_comm _ _ njk.symm]; exact A011 v vk w' hJ'⟩)
  exact held_tri r0 (Hi _ _ _ _ _ J0 _ fun v w' hJ' => ⟨JS _ _ _ _ _ _ _ hJ', by rw [cn3_i hij hik]; exact A100 v w' hJ'⟩)
    (Hj _ _ _ _ _ J0 _ fun v w' hJ' => ⟨JS _ _ _ _ _ _ _ hJ', by rw [cn3_j hjk]; exact A010 v w' hJ'⟩)
    (Hk _ _ _ _ _ J0 _ fun v w' hJ' => ⟨JS _ _ _ _ _ _ _ hJ', by rw [cn3_k]; exact A001 v w' hJ'⟩)
end
end Go.Proofs.Ytihcmneidbjmlaa
