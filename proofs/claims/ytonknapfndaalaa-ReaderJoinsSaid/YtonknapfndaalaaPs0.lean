/- Tokens of a text: the last one is its end; how long their texts are. Math alone. -/
import Derived.Test.YtonknapfndaalaaRdQ
import Derived.Test.YtonknapfndaalaaGj
import Derived.Test.YtonknapfndaalaaGv
namespace Go.Proofs.Ytonknapfndaalaa
set_option linter.unusedVariables false
set_option maxRecDepth 1000000
open Go.RowKit Go.Sort
/-- The tokens of a text: the last one is the end. -/
theorem allF_last {s : ByteArray} : ∀ (f k : Nat) (L : List Tok), allF s f k = .ok L → ∃ L' t, L = L' ++ [t] ∧ t.kd = 0
 | 0, k, L, h => by cases h
 | f + 1, k, L, h => by
  unfold allF at h
  split at h
  ·
   cases h
  ·
   rename_i t m _
   split at h
   ·
    injection h with h
    rename_i h0
    exact ⟨[], t, h.symm, h0⟩
   ·
    cases hq : allF s f m with
    | error e => simp [hq] at h
    | ok M =>
     simp only [hq] at h
     injection h with h
     obtain ⟨L', u, e, h0⟩ := allF_last f m M hq
     exact ⟨t :: L', u, by rw [← h, e]; rfl, h0⟩
theorem tkA_end {L' : List Tok} {t : Tok} (h : t.kd = 0) : ∀ k, (tkA (L' ++ [t]) k).kd ≠ 0 → k < L'.length := fun k hk => by
 rcases Nat.lt_or_ge k L'.length with h1 | h1
 ·
  exact h1
 ·
  exfalso
  apply hk
  by_cases e : k = L'.length
  ·
   subst e
   rw [tkA_in (t := t) (by simp)]
   exact h
  ·
   rw [tkA_out (by simp; omega)]
   rfl
theorem tkO_text {s : ByteArray} {p m : Nat} {t : Tok} (h : tkO s p = some (t, m)) : t.tx.size ≤ s.size + 40 := by
 unfold tkO at h
 split at h
 ·
  split at h
  ·
   injection h with h; injection h with h3 h4; subst h3
   show (s.extract _ _).size ≤ _
   rw [ByteArray.size_extract]; omega
  ·
   cases h
 split at h
 ·
  cases hq : txtO s (p : Int) with
  | none => rw [hq] at h; cases h
  | some q =>
   obtain ⟨u, n⟩ := q
   rw [hq] at h; injection h with h; injection h with h3 h4; subst h3
   show u.size ≤ _
   have hu : u.size ≤ 40 := by
    unfold txtO at hq
    repeat' split at hq
    all_goals first | (cases hq; done) | exact (txtF_res _ _ _ _ _ hq).2.2.2.2
   omega
 split at h
 ·
  cases hq : clsO s (p : Int) with
  | none => rw [hq] at h; cases h
  | some q =>
   obtain ⟨u, n⟩ := q
   rw [hq] at h; injection h with h; injection h with h3 h4; subst h3
   show (0 : Nat) ≤ _
   omega
 split at h
 ·
  cases h
 ·
  injection h with h; injection h with h3 h4; subst h3
  show (s.extract _ _).size ≤ _
  rw [ByteArray.size_extract]; omega
theorem allF_text {s : ByteArray} : ∀ (f k : Nat) (L : List Tok), k ≤ s.size → allF s f k = .ok L → ∀ t ∈ L, t.tx.size ≤ s.size + 40
 | 0, k, L, hk, h => by cases h
 | f + 1, k, L, hk, h => by
  have one : ∀ t m, nextO s k = some (t, m) → t.tx.size ≤ s.size + 40 := fun t m hq => by
   unfold nextO at hq
   split at hq
   ·
    injection hq with hq; injection hq with h3 h4; subst h3
    show (0 : Nat) ≤ _
    omega
   ·
    exact tkO_text hq
  unfold allF at h
  split at h
  ·
   cases h
  ·
   rename_i t m hq
   have hb := nextO_bd hq
   split at h
   ·
    injection h with h
    intro u hu
    rw [← h, List.mem_singleton] at hu
    subst hu
    exact one u m hq
   ·
    cases hq2 : allF s f m with
    | error e => simp [hq2] at h
    | ok M =>
     simp only [hq2] at h
     injection h with h
     intro u hu
     rw [← h, List.mem_cons] at hu
     rcases hu with rfl | hu
     ·
      exact one u m hq
     ·
      exact allF_text f m M hb.1 hq2 u hu
theorem allF_len {s : ByteArray} : ∀ (f k : Nat) (L : List Tok), allF s f k = .ok L → L.length ≤ f
 | 0, k, L, h => by cases h
 | f + 1, k, L, h => by
  unfold allF at h
  split at h
  ·
   cases h
  ·
   rename_i t m _
   split at h
   ·
    injection h with h
    rw [← h]; simp
   ·
    cases hq : allF s f m with
    | error e => simp [hq] at h
    | ok M =>
     simp only [hq] at h
     injection h with h
     have := allF_len f m M hq
     rw [← h]; simp; omega
theorem tkO_fits {s : ByteArray} {p m : Nat} {t : Tok} (h : tkO s p = some (t, m)) : fits t.st := by
 unfold tkO at h
 split at h
 ·
  split at h
  ·
   injection h with h; injection h with h3 h4; subst h3
   exact fits0
  ·
   cases h
 split at h
 ·
  cases hq : txtO s (p : Int) with
  | none => rw [hq] at h; cases h
  | some q =>
   obtain ⟨u, n⟩ := q
   rw [hq] at h; injection h with h; injection h with h3 h4; subst h3
   exact fits0
 split at h
 ·
  cases hq : clsO s (p : Int) with
  | none => rw [hq] at h; cases h
  | some q =>
   obtain ⟨u, n⟩ := q
   rw [hq] at h; injection h with h; injection h with h3 h4; subst h3
   exact (clsO_res hq).2.2.2.1
 split at h
 ·
  cases h
 ·
  injection h with h; injection h with h3 h4; subst h3
  exact fits0
theorem allF_fits {s : ByteArray} : ∀ (f k : Nat) (L : List Tok), allF s f k = .ok L → ∀ t ∈ L, fits t.st
 | 0, k, L, h => by cases h
 | f + 1, k, L, h => by
  have one : ∀ t m, nextO s k = some (t, m) → fits t.st := fun t m hq => by
   unfold nextO at hq
   split at hq
   ·
    injection hq with hq; injection hq with h3 h4; subst h3
    exact fits0
   ·
    exact tkO_fits hq
  unfold allF at h
  split at h
  ·
   cases h
  ·
   rename_i t m hq
   split at h
   ·
    injection h with h
    intro u hu
    rw [← h, List.mem_singleton] at hu
    subst hu
    exact one u m hq
   ·
    cases hq2 : allF s f m with
    | error e => simp [hq2] at h
    | ok M =>
     simp only [hq2] at h
     injection h with h
     intro u hu
     rw [← h, List.mem_cons] at hu
     rcases hu with rfl | hu
     ·
      exact one u m hq
     ·
      exact allF_fits f m M hq2 u hu
theorem store4_run {w : World} {g : Nat} {v0 v1 v2 v3 : Value} (h : Own w g 31 [v0, v1, v2, v3]) (a b : Int) :
  (Instr.storeAt 31 (.pointer (some ⟨g, 0, none⟩)) (.agg #[.int .i64 a, .int .i64 b, .int .i64 0, .int .i64 0])).run Try.prog w = .ok () (set4 w g (.int .i64 a) (.int .i64 b) (.int .i64 0) (.int .i64 0)) := by
 obtain ⟨z0, z1, z2, z3, y0, y1, y2, y3⟩ := h.four
 have zl := h.lt
 rw [← set4_fold]
 go_simp
end Go.Proofs.Ytonknapfndaalaa
