/- Paths as they are put together in memory. -/
import Derived.Test.YtialpofiagiclaaDoorQryW
import Derived.Test.YtialpofiagiclaaDoorSteps
namespace Go.Proofs.YtialpofiagiclaaDoor
set_option linter.unusedVariables false
set_option maxRecDepth 1000000
open Go.RowKit Go.Sort

theorem info_parts9 {t : TypeId} {z : Value} {size bytes : Nat} (h : (Tryd.prog.info? t).map (fun i => (i.zero, i.size, i.bytes)) = some (some z, size, bytes)) : ∃ i, Tryd.prog.info? t = some i ∧ i.zero = some z ∧ i.size = size ∧ i.bytes = bytes := by
  cases hi : Tryd.prog.info? t with
  | none => rw [hi] at h; cases h
  | some i =>
    rw [hi] at h
    simp at h
    exact ⟨i, rfl, h.1, h.2.1, h.2.2⟩
theorem info_hop : (Tryd.prog.info? 38).map (fun i => (i.zero, i.size, i.bytes)) = some (some (.agg #[.int .i64 0, .int .i64 0, .string ⟨#[]⟩, .string ⟨#[]⟩, .string ⟨#[]⟩, .int .i64 0]), 6, 72) := by kernel_rfl
theorem info_path : (Tryd.prog.info? 36).map (fun i => (i.zero, i.size, i.bytes)) = some (some (.slice none 0 0), 1, 24) := by kernel_rfl

/-- The cells are slices, of the paths P each, in blocks of R. -/
def Paths (R : Nat → Prop) (w : World) (cs : List Value) (P : List (List Hp)) : Prop :=
  cs.length = P.length ∧ ∀ (i : Nat) (v : Value) (p : List Hp), cs[i]? = some v → P[i]? = some p → ∃ S, (∀ b, S b → R b) ∧ Win S 38 6 w v p.length (p.flatMap hprow)
theorem Paths.keep {R U : Nat → Prop} {w w' : World} {cs : List Value} {P : List (List Hp)} (h : Paths R w cs P) (hb : But U w w') (hd : ∀ b, b < w.heap.size → R b → ¬ U b) : Paths R w' cs P :=
  ⟨h.1, fun i v p h1 h2 => by
    obtain ⟨S, hS, hW⟩ := h.2 i v p h1 h2
    exact ⟨S, hS, hW.keep hb fun g hg hs => hd g hg (hS g hs)⟩⟩
theorem Paths.mono {R R' : Nat → Prop} {w : World} {cs : List Value} {P : List (List Hp)} (h : Paths R w cs P) (hr : ∀ b, R b → R' b) : Paths R' w cs P :=
  ⟨h.1, fun i v p h1 h2 => by
    obtain ⟨S, hS, hW⟩ := h.2 i v p h1 h2
    exact ⟨S, fun b hb => hr b (hS b hb), hW⟩⟩
/-- Paths, and one that grows, in blocks from B to below M. -/
def PS (w : World) (B M : Nat) (qv pv : Value) (P : List (List Hp)) (L : List Hp) : Prop :=
  ∃ (R S T : Nat → Prop) (cs : List Value), (∀ b, R b ∨ S b ∨ T b → B ≤ b ∧ b < M) ∧ (∀ b, R b → ¬ S b ∧ ¬ T b) ∧ (∀ b, S b → ¬ T b) ∧
    Win S 36 1 w qv P.length cs ∧ Paths R w cs P ∧ Win T 38 6 w pv L.length (L.flatMap hprow)
theorem PS.keep {w w' : World} {B M : Nat} {qv pv : Value} {P : List (List Hp)} {L : List Hp} {U : Nat → Prop} (h : PS w B M qv pv P L) (hb : But U w w') (hU : ∀ b, B ≤ b → b < M → ¬ U b) : PS w' B M qv pv P L := by
  obtain ⟨R, S, T, cs, h1, h2, h3, h4, h5, h6⟩ := h
  exact ⟨R, S, T, cs, h1, h2, h3, h4.keep hb fun g _ hs => hU g (h1 g (.inr (.inl hs))).1 (h1 g (.inr (.inl hs))).2, h5.keep hb fun g _ hs => hU g (h1 g (.inl hs)).1 (h1 g (.inl hs)).2,
    h6.keep hb fun g _ hs => hU g (h1 g (.inr (.inr hs))).1 (h1 g (.inr (.inr hs))).2⟩
theorem PS.below {w w' : World} {B M : Nat} {qv pv : Value} {P : List (List Hp)} {L : List Hp} (h : PS w B M qv pv P L) (hb : Below w.heap.size w w') : PS w' B M qv pv P L :=
  h.keep (U := fun _ => False) (But.of_below hb) fun _ _ _ h => h
theorem PS.start (w : World) (B M : Nat) : PS w B M (.slice none 0 0) (.slice none 0 0) [] [] :=
  ⟨fun _ => False, fun _ => False, fun _ => False, [], fun b h => (by rcases h with h | h | h <;> cases h), fun b h => (by cases h), fun b h => (by cases h), Win.nil _ _ _ _, ⟨rfl, fun i v p h => (by simp at h)⟩, Win.nil _ _ _ _⟩
theorem PS.form {w : World} {B M : Nat} {qv pv : Value} {P : List (List Hp)} {L : List Hp} (h : PS w B M qv pv P L) : (∃ qo qc, qv = .slice qo P.length qc) ∧ ∃ po pc, pv = .slice po L.length pc := by
  obtain ⟨R, S, T, cs, h1, h2, h3, h4, h5, h6⟩ := h
  obtain ⟨qo, qc, hq, -⟩ := h4.form
  obtain ⟨po, pc, hp, -⟩ := h6.form
  exact ⟨⟨qo, qc, hq⟩, ⟨po, pc, hp⟩⟩
/-- The path has grown. -/
theorem PS.hop {w w' : World} {B M : Nat} {qv v' : Value} {P : List (List Hp)} {L : List Hp} {R S T : Nat → Prop} {cs : List Value} {h : Hp} (hM : M ≤ w.heap.size) (hB : B ≤ w.heap.size) (h1 : ∀ b, R b ∨ S b ∨ T b → B ≤ b ∧ b < M) (h2 : ∀ b, R b → ¬ S b ∧ ¬ T b) (h3 : ∀ b, S b → ¬ T b)
    (h4 : Win S 36 1 w qv P.length cs) (h5 : Paths R w cs P) (hw : Win (fun g => T g ∨ w.heap.size ≤ g) 38 6 w' v' (L.length + 1) (L.flatMap hprow ++ hprow h)) (hb : But T w w') : PS w' B w'.heap.size qv v' P (L ++ [h]) := by
  have hs := hb.size
  refine ⟨R, S, fun b => (T b ∨ w.heap.size ≤ b) ∧ b < w'.heap.size, cs, ?_, ?_, ?_, h4.keep hb fun g _ => h3 g, h5.keep hb fun g _ hr => (h2 g hr).2, ?_⟩
  · intro b hb'
    rcases hb' with hb' | hb' | ⟨hb' | hb', hlt⟩
    · have := h1 b (.inl hb'); omega
    · have := h1 b (.inr (.inl hb')); omega
    · have := h1 b (.inr (.inr hb')); omega
    · omega
  · intro b hb'
    refine ⟨(h2 b hb').1, fun ⟨h, hlt⟩ => ?_⟩
    rcases h with h | h
    · exact (h2 b hb').2 h
    · have := h1 b (.inl hb'); omega
  · intro b hb' ⟨h, hlt⟩
    rcases h with h | h
    · exact h3 b hb' h
    · have := h1 b (.inr (.inl hb')); omega
  · have e : (L ++ [h]).flatMap hprow = L.flatMap hprow ++ hprow h := by simp
    rw [e, List.length_append]
    exact hw.mono fun g hg hs => ⟨hs, hg⟩
/-- The path is at its end. -/
theorem PS.path {w w' : World} {B M : Nat} {pv v' : Value} {P : List (List Hp)} {L : List Hp} {R S T : Nat → Prop} {cs : List Value} (hM : M ≤ w.heap.size) (hB : B ≤ w.heap.size) (h1 : ∀ b, R b ∨ S b ∨ T b → B ≤ b ∧ b < M) (h2 : ∀ b, R b → ¬ S b ∧ ¬ T b) (h3 : ∀ b, S b → ¬ T b)
    (h5 : Paths R w cs P) (h6 : Win T 38 6 w pv L.length (L.flatMap hprow)) (hw : Win (fun g => S g ∨ w.heap.size ≤ g) 36 1 w' v' (P.length + 1) (cs ++ [pv])) (hb : But S w w') : PS w' B w'.heap.size v' (.slice none 0 0) (P ++ [L]) [] := by
  have hs := hb.size
  refine ⟨fun b => R b ∨ T b, fun b => (S b ∨ w.heap.size ≤ b) ∧ b < w'.heap.size, fun _ => False, cs ++ [pv], ?_, ?_, fun _ _ h => h, ?_, ?_, Win.nil _ _ _ _⟩
  · intro b hb'
    rcases hb' with (hb' | hb') | ⟨hb' | hb', hlt⟩ | hb'
    · have := h1 b (.inl hb'); omega
    · have := h1 b (.inr (.inr hb')); omega
    · have := h1 b (.inr (.inl hb')); omega
    · omega
    · cases hb'
  · intro b hb'
    refine ⟨fun ⟨h, hlt⟩ => ?_, fun h => h⟩
    rcases hb' with hb' | hb'
    · rcases h with h | h
      · exact (h2 b hb').1 h
      · have := h1 b (.inl hb'); omega
    · rcases h with h | h
      · exact h3 b h hb'
      · have := h1 b (.inr (.inr hb')); omega
  · rw [List.length_append]
    exact hw.mono fun g hg hs => ⟨hs, hg⟩
  · refine ⟨by simp [h5.1], fun i v p hv hp => ?_⟩
    by_cases hi : i < P.length
    · rw [List.getElem?_append_left (by rw [h5.1]; exact hi)] at hv
      rw [List.getElem?_append_left hi] at hp
      obtain ⟨S', hS', hW⟩ := h5.2 i v p hv hp
      exact ⟨S', fun b hb => .inl (hS' b hb), hW.keep hb fun g _ hs => (h2 g (hS' g hs)).1⟩
    · have hi2 : i < (P ++ [L]).length := (List.getElem?_eq_some_iff.1 hp).1
      simp at hi2
      obtain rfl : i = P.length := by omega
      rw [List.getElem?_append_right (by rw [h5.1]; exact Nat.le_refl _), h5.1, Nat.sub_self] at hv
      rw [List.getElem?_append_right (Nat.le_refl _), Nat.sub_self] at hp
      simp at hv hp
      subst hv hp
      exact ⟨T, fun b hb => .inr hb, h6.keep hb fun g _ ht hs => h3 g hs ht⟩
end Go.Proofs.YtialpofiagiclaaDoor
