/- How far an expression goes: past its first token, and never past the last that may be a part of it. -/
import Derived.Test.YtonknapfndaalaaGu
namespace Go.Proofs.Ytonknapfndaalaa
set_option linter.unusedVariables false
set_option maxRecDepth 1000000
open Go.RowKit Go.Sort
theorem isS_kd {N : Nat} {L : List Tok} (HN : ∀ k, (tkA L k).kd ≠ 0 → k < N) {k : Nat} {s : List UInt8} (h : isS L k s = true) : k < N := by
 unfold isS at h
 rw [Bool.and_eq_true, beq_iff_eq] at h
 exact HN k (by rw [h.1]; decide)
def Be (N k : Nat) (r : Rs) : Prop := ∀ x m, r = .ok (x, m) → k < m ∧ m ≤ N
theorem Be.err {N k : Nat} (e : Int × Int) : Be N k (.error e) := fun x m h => by cases h
theorem Be.ok {N k n : Nat} {x : Ex} (h : k < n) (h' : n ≤ N) : Be N k (.ok (x, n)) := fun y m e => by
 obtain ⟨rfl, rfl⟩ : x = y ∧ n = m := by simpa using e
 exact ⟨h, h'⟩
theorem Be.low {N k k' : Nat} {r : Rs} (h : Be N k r) (hk : k' ≤ k) : Be N k' r := fun x m e => ⟨by have := (h x m e).1; omega, (h x m e).2⟩
theorem Be.map {N k : Nat} {r : Rs} {f : Ex → Ex} (h : Be N k r) : Be N k (mapX f r) := by
 cases r with
 | error e => exact Be.err e
 | ok p =>
  obtain ⟨x, m⟩ := p
  exact Be.ok (h x m rfl).1 (h x m rfl).2
theorem refO_be {N : Nat} {L : List Tok} (HN : ∀ k, (tkA L k).kd ≠ 0 → k < N) {k : Nat} (h : (tkA L k).kd = 1) : Be N k (refO L k) := by
 have h0 : k < N := HN _ (by rw [h]; decide)
 unfold refO
 split
 ·
  split
  ·
   split
   ·
    rename_i h3
    simp at h3
    have := HN (k + 2) (by rw [h3.1]; decide)
    exact Be.ok (by omega) (by omega)
   ·
    exact Be.err _
  ·
   exact Be.ok (by omega) (by omega)
 ·
  exact Be.err _
theorem primO_be {N : Nat} {L : List Tok} (HN : ∀ k, (tkA L k).kd ≠ 0 → k < N) {X : Nat → Rs} {big : Bool} (hX : ∀ j, Be N j (X j)) (k : Nat) : Be N k (primO L X big k) := by
 unfold primO
 split
 ·
  rename_i h
  have := HN (k) (by rw [h]; decide)
  exact Be.ok (by omega) (by omega)
 split
 ·
  rename_i h
  have := HN (k) (by rw [h]; decide)
  exact Be.ok (by omega) (by omega)
 split
 ·
  rename_i h
  exact refO_be HN h
 split
 ·
  rename_i h
  have := isS_kd HN h
  exact Be.ok (by omega) (by omega)
 split
 ·
  split
  ·
   exact Be.err _
  ·
   cases hx : X (k + 1) with
   | error e => exact Be.err e
   | ok p =>
    obtain ⟨x, m⟩ := p
    have h1 := hX (k + 1) x m hx
    show Be N k (if isS L m [41] = true then _ else _)
    split
    ·
     rename_i h2
     have := isS_kd HN h2
     exact Be.ok (by omega) (by omega)
    ·
     exact Be.err _
 ·
  exact Be.err _
theorem sufO_be {N : Nat} {L : List Tok} (HN : ∀ k, (tkA L k).kd ≠ 0 → k < N) {X : Nat → Rs} {big : Bool} (hX : ∀ j, Be N j (X j)) (k : Nat) : Be N k (sufO L X big k) := by
 unfold sufO
 cases hp : primO L X big k with
 | error e => exact Be.err e
 | ok p =>
  obtain ⟨x, m⟩ := p
  have h1 := primO_be HN hX k x m hp
  show Be N k (if isS L m [42] = true then _ else if isS L m [43] = true then _ else if isS L m [63] = true then _ else _)
  split
  ·
   rename_i h2
   have := isS_kd HN h2
   exact Be.ok (by omega) (by omega)
  split
  ·
   rename_i h2
   have := isS_kd HN h2
   exact Be.ok (by omega) (by omega)
  split
  ·
   rename_i h2
   have := isS_kd HN h2
   exact Be.ok (by omega) (by omega)
  ·
   exact Be.ok h1.1 h1.2
theorem preO_be {N : Nat} {L : List Tok} (HN : ∀ k, (tkA L k).kd ≠ 0 → k < N) {X : Nat → Rs} {big : Bool} (hX : ∀ j, Be N j (X j)) (k : Nat) : Be N k (preO L X big k) := by
 have hS := sufO_be HN (big := big) hX
 unfold preO
 split
 ·
  exact ((hS (k + 1)).low (by omega)).map
 split
 ·
  exact ((hS (k + 1)).low (by omega)).map
 split
 ·
  cases hp : sufO L X big (k + 1) with
  | error e => exact Be.err e
  | ok p =>
   obtain ⟨x, m⟩ := p
   have h1 := hS (k + 1) x m hp
   show Be N k (if isS L m [126] = true then _ else _)
   split
   ·
    rename_i h2
    have := isS_kd HN h2
    exact Be.ok (by omega) (by omega)
   ·
    exact Be.err _
 split
 ·
  split
  ·
   exact ((hS (k + 2)).low (by omega)).map
  ·
   exact Be.err _
 ·
  exact hS k
theorem seqL_be {N : Nat} {L : List Tok} (HN : ∀ k, (tkA L k).kd ≠ 0 → k < N) {pre : Nat → Rs} (hp : ∀ j, Be N j (pre j)) : ∀ (f : Nat) (A K : List Ex) (k m : Nat), k ≤ N → seqL L pre f A k = .ok (K, m) → k ≤ m ∧ m ≤ N
 | 0, A, K, k, m, hk, h => by
  simp [seqL] at h
  omega
 | f + 1, A, K, k, m, hk, h => by
  unfold seqL at h
  split at h
  ·
   cases hq : pre k with
   | error e => simp [hq] at h
   | ok p =>
    obtain ⟨x, n⟩ := p
    have h1 := hp k x n hq
    simp only [hq] at h
    have h2 := seqL_be HN hp f _ K n m h1.2 h
    omega
  ·
   simp at h
   omega
theorem seqO_be {N : Nat} {L : List Tok} (HN : ∀ k, (tkA L k).kd ≠ 0 → k < N) {pre : Nat → Rs} (hp : ∀ j, Be N j (pre j)) (k : Nat) : Be N k (seqO L pre k) := by
 unfold seqO
 cases hq : pre k with
 | error e => exact Be.err e
 | ok p =>
  obtain ⟨x, n⟩ := p
  have h1 := hp k x n hq
  cases hl : seqL L pre (L.length + 1) [x] n with
  | error e => simp only [hl]; exact Be.err e
  | ok p =>
   obtain ⟨K, m⟩ := p
   have h2 := seqL_be HN hp _ _ K n m h1.2 hl
   simp only [hl]
   exact Be.ok (by omega) (by omega)
theorem chL_be {N : Nat} {L : List Tok} (HN : ∀ k, (tkA L k).kd ≠ 0 → k < N) {pre : Nat → Rs} (hp : ∀ j, Be N j (pre j)) : ∀ (f : Nat) (A K : List Ex) (k m : Nat), k ≤ N → chL L pre f A k = .ok (K, m) → k ≤ m ∧ m ≤ N
 | 0, A, K, k, m, hk, h => by
  simp [chL] at h
  omega
 | f + 1, A, K, k, m, hk, h => by
  unfold chL at h
  split at h
  ·
   cases hq : pre (k + 1) with
   | error e => simp [hq] at h
   | ok p =>
    obtain ⟨x, n⟩ := p
    have h1 := hp (k + 1) x n hq
    simp only [hq] at h
    have h2 := chL_be HN hp f _ K n m h1.2 h
    omega
  ·
   simp at h
   omega
theorem chO_be {N : Nat} {L : List Tok} (HN : ∀ k, (tkA L k).kd ≠ 0 → k < N) {pre : Nat → Rs} (hp : ∀ j, Be N j (pre j)) (k : Nat) : Be N k (chO L pre k) := by
 unfold chO
 cases hq : pre k with
 | error e => exact Be.err e
 | ok p =>
  obtain ⟨x, n⟩ := p
  have h1 := hp k x n hq
  cases hl : chL L pre (L.length + 1) [x] n with
  | error e => simp only [hl]; exact Be.err e
  | ok p =>
   obtain ⟨K, m⟩ := p
   have h2 := chL_be HN hp _ _ K n m h1.2 hl
   simp only [hl]
   exact Be.ok (by omega) (by omega)
theorem exO_be {N : Nat} {L : List Tok} (HN : ∀ k, (tkA L k).kd ≠ 0 → k < N) : ∀ d k, Be N k (exO L d k)
 | 0, k => chO_be HN (seqO_be HN (preO_be HN fun j => Be.err _)) k
 | d + 1, k => chO_be HN (seqO_be HN (preO_be HN (exO_be HN d))) k
end Go.Proofs.Ytonknapfndaalaa
