/- What is written is read: a text. Math alone. -/
import Derived.Test.YtialpofiagiclaaDoorQuoteR
namespace Go.Proofs.YtialpofiagiclaaDoor
set_option linter.unusedVariables false
set_option maxRecDepth 1000000
open Go.RowKit

theorem wrT_pre (s : ByteArray) (j : Nat) : ∀ d, ∃ r, wrT s (j + d) = wrT s j ++ r
  | 0 => ⟨[], by simp⟩
  | d + 1 => by
    obtain ⟨r, h⟩ := wrT_pre s j d
    refine ⟨r ++ (wrS spT (byt s (j + d))).data.toList, ?_⟩
    show wrT s (j + d) ++ _ = _
    rw [h, List.append_assoc]; rfl
theorem At.left {U : ByteArray} {k : Nat} {l r : List UInt8} (h : At U k (l ++ r)) : At U k l := h.app.1
theorem extract_more {s : ByteArray} {j : Nat} (h : j < s.size) : s.extract 0 j ++ strOfNums [byt s j] = s.extract 0 (j + 1) := by
  rw [← one_byte h, ByteArray.extract_append_extract]
  congr 1 <;> omega
theorem isSp_n {c : Int} (h0 : 0 ≤ c) (h1 : c ≤ 255) (h : isSp spT c = false) : c ≠ 34 := by
  rw [isSp_T h0 h1] at h; exact beq_eq_false_iff_ne.1 h
theorem txt_steps {U s : ByteArray} {a : Nat} (hA : At U a (wrT s s.size ++ [34])) : ∀ j, j ≤ s.size → ∃ f, U.size < f + (a + (wrT s j).length) ∧
    txtF U (U.size + 1) (a + 1) ⟨#[]⟩ = txtF U f (a + (wrT s j).length) (s.extract 0 j)
  | 0, _ => ⟨U.size + 1, by omega, by
      have e : s.extract 0 0 = (⟨#[]⟩ : ByteArray) := by apply bytes_eq; rw [ByteArray.data_extract]; simp
      rw [e]; rfl⟩
  | j + 1, hj => by
    obtain ⟨f, h1, h2⟩ := txt_steps hA j (by omega)
    obtain ⟨r, hr⟩ := wrT_pre s (j + 1) (s.size - (j + 1))
    rw [show j + 1 + (s.size - (j + 1)) = s.size by omega] at hr
    have hB : At U a (wrT s j ++ (wrS spT (byt s j)).data.toList) := by
      rw [hr] at hA
      exact hA.left.left
    have hC := hB.app.2
    obtain ⟨c0, c1⟩ := byt_lt s j
    have hR := wr_read fair_T c0 c1 hC
    obtain ⟨x, l, hx, hsp⟩ := wr_first spT fair_T c0 c1
    have hne : byt U (a + (wrT s j).length) ≠ 34 := by
      rw [hx] at hC
      rw [hC.cons.2.1]
      exact isSp_n (by omega) (by have := x.toNat_lt; omega) hsp
    refine ⟨f - 1, ?_, ?_⟩
    · show U.size < f - 1 + (a + (wrT s j ++ (wrS spT (byt s j)).data.toList).length)
      rw [List.length_append, hx]; simp only [List.length_cons]; omega
    · rw [h2, txtF_go h1 hne hR, extract_more (by omega)]
      show _ = txtF U (f - 1) (a + (wrT s j ++ (wrS spT (byt s j)).data.toList).length) _
      rw [List.length_append, Nat.add_assoc]
theorem text_data (s : ByteArray) : (textS s).data.toList = wrT s s.size ++ [34] := by
  show (wrT s s.size ++ [34]).toArray.toList = _; simp
theorem wrT_head (s : ByteArray) : ∃ r, wrT s s.size = 34 :: r := by
  obtain ⟨r, h⟩ := wrT_pre s 0 s.size
  rw [Nat.zero_add] at h
  exact ⟨r, by rw [h]; rfl⟩
theorem text_size (s : ByteArray) : (textS s).size = (wrT s s.size).length + 1 := by
  have : (textS s).data.toList.length = (textS s).size := by simp
  rw [← this, text_data, List.length_append]; rfl
/-- A text, as it is written, is read as it was, unless it is empty or too long. -/
theorem txt_back {U s : ByteArray} {a : Nat} (hA : At U a (textS s).data.toList) : txtO U (a : Int) = if s.size = 0 ∨ 40 < s.size then none else some (s, a + (textS s).size) := by
  rw [text_data] at hA
  obtain ⟨r, hr⟩ := wrT_head s
  have h0 := hA
  rw [hr] at h0
  obtain ⟨b1, b2, -⟩ := (show At U a (34 :: (r ++ [34])) from h0).cons
  obtain ⟨f, h1, h2⟩ := txt_steps hA s.size (Nat.le_refl _)
  obtain ⟨d1, d2, -⟩ := hA.app.2.cons
  unfold txtO
  rw [if_pos (stand_iff.2 ⟨b1, (show byt U a = 34 from b2)⟩), Int.toNat_natCast, h2, txtF_end h1 d1 d2, ByteArray.extract_zero_size, text_size]; rfl
theorem txtF_res {s : ByteArray} : ∀ f k out u m, txtF s f k out = some (u, m) → k < m ∧ m ≤ s.size ∧ byt s (m - 1) = 34 ∧ 1 ≤ u.size ∧ u.size ≤ 40
  | 0, k, out, u, m => fun h => by cases h
  | f + 1, k, out, u, m => fun h => by
    rw [txtF.eq_2] at h
    split at h
    · split at h
      · split at h
        · cases h
        · rename_i g1 g2 g3
          injection h with h; injection h with h3 h4
          subst h3 h4
          exact ⟨by omega, by omega, by rw [Nat.add_sub_cancel]; exact g2, by omega, by omega⟩
      · cases hr : readO s k spT with
        | none => rw [hr] at h; cases h
        | some p =>
          obtain ⟨v, n⟩ := p
          rw [hr] at h
          have := readO_bd hr
          have h2 := txtF_res f n _ u m h
          exact ⟨by omega, h2.2⟩
    · cases h
theorem txtO_res {s : ByteArray} {i : Nat} {u : ByteArray} {m : Nat} (h : txtO s (i : Int) = some (u, m)) : i < m ∧ m ≤ s.size ∧ byt s (m - 1) = 34 ∧ 1 ≤ u.size ∧ u.size ≤ 40 := by
  unfold txtO at h
  split at h
  · have := txtF_res _ _ _ _ _ h
    rw [Int.toNat_natCast] at this
    exact ⟨by omega, this.2⟩
  · cases h
theorem At.self (u : ByteArray) : At u 0 u.data.toList := ⟨[], [], by simp, rfl⟩
theorem At.mid (a t b : ByteArray) : At (a ++ t ++ b) a.size t.data.toList := ⟨a.data.toList, b.data.toList, by simp [ByteArray.data_append], by simp⟩
theorem txt_bytes (s : ByteArray) : ∀ x ∈ (textS s).data.toList, 32 ≤ x.toNat ∧ x.toNat ≤ 126 := by
  rw [text_data]
  have key : ∀ k, ∀ x ∈ wrT s k, 32 ≤ x.toNat ∧ x.toNat ≤ 126 := fun k => by
    induction k with
    | zero => intro x hx; rw [List.mem_singleton.1 hx]; decide
    | succ k ih =>
      intro x hx
      rcases List.mem_append.1 (show x ∈ wrT s k ++ _ from hx) with h | h
      · exact ih x h
      · have := byt_lt s k
        exact wr_bytes (fun c g0 g1 g => spT_in g0 g1 g) this.1 this.2 x h
  intro x hx
  rcases List.mem_append.1 hx with h | h
  · exact key _ x h
  · rw [List.mem_singleton.1 h]; decide
end Go.Proofs.YtialpofiagiclaaDoor
