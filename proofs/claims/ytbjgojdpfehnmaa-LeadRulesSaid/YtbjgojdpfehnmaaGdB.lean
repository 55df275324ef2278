/- The least marks of a rule: a fixed point, and sound. -/
import Derived.Test.YtbjgojdpfehnmaaIa
namespace Go.Proofs.Ytbjgojdpfehnmaa
set_option linter.unusedVariables false
open Go.RowKit Go.Sort
/-- More marks, no fewer by the rule. -/
def MonoB (R : (Nat → Bool) → Nat → Bool) : Prop := ∀ (M M' : Nat → Bool), (∀ n, M n = true → M' n = true) → ∀ n, R M n = true → R M' n = true
theorem all_monoB {M M' : Nat → Bool} (h : ∀ n, M n = true → M' n = true) {L : List Nat} (hl : L.all M = true) : L.all M' = true := by
 rw [List.all_eq_true] at hl ⊢
 exact fun x hx => h x (hl x hx)
theorem any_monoB {M M' : Nat → Bool} (h : ∀ n, M n = true → M' n = true) {L : List Nat} (hl : L.any M = true) : L.any M' = true := by
 rw [List.any_eq_true] at hl ⊢
 obtain ⟨x, hx, hm⟩ := hl
 exact ⟨x, hx, h x hm⟩
theorem nulB_mono (gr : Gj) : MonoB (nulB gr) := fun M M' h n hn => by
 unfold nulB at hn ⊢
 cases hx : gr.ns[n]? with
 | none => rw [hx] at hn; cases hn
 | some x =>
  rw [hx] at hn
  have hn : (if x.op = 6 ∨ x.op = 8 ∨ x.op = 9 ∨ x.op = 10 then true else if x.op = 4 ∨ x.op = 7 ∨ x.op = 12 then x.ks.all M else if x.op = 5 then x.ks.any M else if x.op = 11 then M (bodyG gr n) else false) = true := hn
  show (if x.op = 6 ∨ x.op = 8 ∨ x.op = 9 ∨ x.op = 10 then true else if x.op = 4 ∨ x.op = 7 ∨ x.op = 12 then x.ks.all M' else if x.op = 5 then x.ks.any M' else if x.op = 11 then M' (bodyG gr n) else false) = true
  repeat' split at hn
  all_goals simp_all
  all_goals first | exact fun y hy => h y (hn y hy) | (obtain ⟨y, hy, hm⟩ := hn; exact ⟨y, hy, h y hm⟩) | skip
theorem faiB_mono (gr : Gj) : MonoB (faiB gr) := fun M M' h n hn => by
 unfold faiB at hn ⊢
 cases hx : gr.ns[n]? with
 | none => rfl
 | some x =>
  rw [hx] at hn
  have hn : (if x.op = 6 ∨ x.op = 8 then false else if x.op = 4 then x.ks.any M else if x.op = 5 ∨ x.op = 7 ∨ x.op = 12 ∨ x.op = 9 then x.ks.all M else if x.op = 11 then M (bodyG gr n) else true) = true := hn
  show (if x.op = 6 ∨ x.op = 8 then false else if x.op = 4 then x.ks.any M' else if x.op = 5 ∨ x.op = 7 ∨ x.op = 12 ∨ x.op = 9 then x.ks.all M' else if x.op = 11 then M' (bodyG gr n) else true) = true
  repeat' split at hn
  all_goals simp_all
  all_goals first | exact fun y hy => h y (hn y hy) | (obtain ⟨y, hy, hm⟩ := hn; exact ⟨y, hy, h y hm⟩) | skip
/-- A pass adds what the rule allows, and keeps what was sound. -/
theorem passB_sound {R : (Nat → Bool) → Nat → Bool} (hR : MonoB R) : ∀ (k n : Nat) (M : Nat → Bool) (z : Bool), (∀ j, M j = true → R M j = true) → ∀ j, (passB R k n M z).1 j = true → R (passB R k n M z).1 j = true
 | 0, n, M, z, h => h
 | k + 1, n, M, z, h => by
  unfold passB
  split
  ·
   next hc =>
   rw [Bool.and_eq_true] at hc
   refine passB_sound hR k (n + 1) (setB M n) true fun j hj => ?_
   have hle : ∀ i, M i = true → setB M n i = true := fun i hi => by unfold setB; split; rfl; exact hi
   by_cases e : j = n
   ·
    subst e; exact hR M _ hle j hc.2
   ·
    refine hR M _ hle j (h j ?_)
    unfold setB at hj
    rwa [if_neg e] at hj
  ·
   exact passB_sound hR k (n + 1) M z h
theorem passB_true {R : (Nat → Bool) → Nat → Bool} : ∀ (k n : Nat) (M : Nat → Bool), (passB R k n M true).2 = true
 | 0, n, M => rfl
 | k + 1, n, M => by
  unfold passB
  split
  ·
   exact passB_true k (n + 1) _
  ·
   exact passB_true k (n + 1) _
theorem passB_end {R : (Nat → Bool) → Nat → Bool} : ∀ (k n : Nat) (M : Nat → Bool), (passB R k n M false).2 = false → (passB R k n M false).1 = M ∧ ∀ j, n ≤ j → j < n + k → (!M j && R M j) = false
 | 0, n, M, _ => ⟨rfl, fun j h1 h2 => by omega⟩
 | k + 1, n, M, h => by
  unfold passB at h ⊢
  by_cases hc : (!M n && R M n) = true
  ·
   rw [if_pos hc] at h
   rw [passB_true] at h
   cases h
  ·
   rw [if_neg hc] at h ⊢
   obtain ⟨h1, h2⟩ := passB_end k (n + 1) M h
   refine ⟨h1, fun j hj1 hj2 => ?_⟩
   by_cases e : j = n
   ·
    subst e; exact Bool.eq_false_iff.2 hc
   ·
    exact h2 j (by omega) (by omega)
/-- A pass with one mark more lacks one less. -/
theorem passB_lack {R : (Nat → Bool) → Nat → Bool} (N : Nat) : ∀ (k n : Nat) (M : Nat → Bool) (z : Bool), n + k ≤ N → lackB (passB R k n M z).1 N ≤ lackB M N ∧ (z = false → (passB R k n M z).2 = true → lackB (passB R k n M z).1 N < lackB M N)
 | 0, n, M, z, _ => ⟨Nat.le_refl _, fun h1 h2 => by
  have h2 : z = true := h2
  rw [h1] at h2; cases h2⟩
 | k + 1, n, M, z, hk => by
  unfold passB
  by_cases hc : (!M n && R M n) = true
  ·
   rw [if_pos hc]
   rw [Bool.and_eq_true] at hc
   have hm : M n = false := by simpa using hc.1
   have h1 := (passB_lack (R := R) N k (n + 1) (setB M n) true (by omega)).1
   have h2 := lackB_set M n hm N
   have h3 := lackB_one M n hm N (by omega)
   rw [if_pos (show n < N by omega)] at h2
   exact ⟨by omega, fun _ _ => by omega⟩
  ·
   rw [if_neg hc]
   exact passB_lack N k (n + 1) M z (by omega)
theorem leastB_end {R : (Nat → Bool) → Nat → Bool} (hR : MonoB R) (N : Nat) : ∀ (f : Nat) (M : Nat → Bool), lackB M N < f → (∀ j, M j = true → R M j = true) →
  (∀ j, leastB R N f M j = true → R (leastB R N f M) j = true) ∧ ∀ j, j < N → R (leastB R N f M) j = true → leastB R N f M j = true
 | 0, M, h, _ => by omega
 | f + 1, M, h, hs => by
  unfold leastB
  have h1 := passB_sound hR N 0 M false hs
  have h2 := passB_lack (R := R) N N 0 M false (by omega)
  have h3 := passB_end (R := R) N 0 M
  cases hp : passB R N 0 M false with
  | mk M1 z =>
   rw [hp] at h1 h2 h3
   cases z with
   | true =>
    have := h2.2 rfl rfl
    exact leastB_end hR N f M1 (by show lackB M1 N < f; have h5 : lackB M1 N < lackB M N := this; omega) h1
   | false =>
    obtain ⟨h4, h5⟩ := h3 rfl
    have h4 : M1 = M := h4
    subst h4
    refine ⟨h1, fun j hj hr => ?_⟩
    have := h5 j (Nat.zero_le _) (by omega)
    rw [hr, Bool.and_true] at this
    simpa using this
theorem nulG_fix (gr : Gj) (n : Nat) (hn : n < gr.ns.length) : nulG gr n = nulB gr (nulG gr) n := by
 obtain ⟨h1, h2⟩ := leastB_end (nulB_mono gr) gr.ns.length (gr.ns.length + 1) (fun _ => false) (by have := lackB_le (fun _ => false) gr.ns.length; omega) (fun j h => by cases h)
 rw [Bool.eq_iff_iff]
 exact ⟨h1 n, h2 n hn⟩
theorem faiG_fix (gr : Gj) (n : Nat) (hn : n < gr.ns.length) : faiG gr n = faiB gr (faiG gr) n := by
 obtain ⟨h1, h2⟩ := leastB_end (faiB_mono gr) gr.ns.length (gr.ns.length + 1) (fun _ => false) (by have := lackB_le (fun _ => false) gr.ns.length; omega) (fun j h => by cases h)
 rw [Bool.eq_iff_iff]
 exact ⟨h1 n, h2 n hn⟩
end Go.Proofs.Ytbjgojdpfehnmaa
