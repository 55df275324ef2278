/- Plain facts: a sign's bytes are that sign's, whatever comes behind; bytes stand as signs do. No program in sight. -/
import Derived.Test.YtmheekoaklfffabUtfMath
namespace Go.Proofs.Ytmheekoaklfffab
set_option linter.unusedVariables false
open Go.RowKit Go.PlainAid

theorem bt_list (s : ByteArray) (i : Nat) : bt s i = ((s.data.toList[i]?.map fun b => (b.toNat : Int)).getD 0) := by
  by_cases h : i < s.size
  · rw [← get_bt s i h]
    have hl : i < s.data.toList.length := by simpa using h
    rw [List.getElem?_eq_getElem hl]; rfl
  · rw [bt_end s (by omega), List.getElem?_eq_none (by simpa using h)]; rfl
theorem app_list (l : List Int) (s : ByteArray) : (strOfNums l ++ s).data.toList = (l.map fun n => UInt8.ofNat n.toNat) ++ s.data.toList := by
  rw [ByteArray.data_append, Array.toList_append, strOfNums_data]
theorem bt_app (l : List Int) (s : ByteArray) (hl : ∀ x ∈ l, 0 ≤ x ∧ x ≤ 255) (i : Nat) (x : Int) (h : l[i]? = some x) : bt (strOfNums l ++ s) i = x := by
  have hx := hl x (List.mem_of_getElem? h)
  have hi : i < (l.map fun n => UInt8.ofNat n.toNat).length := by
    rcases Nat.lt_or_ge i l.length with h2 | h2
    · simpa using h2
    · rw [List.getElem?_eq_none h2] at h; cases h
  rw [bt_list, app_list, List.getElem?_append_left hi, List.getElem?_map, h]
  show ((UInt8.ofNat x.toNat).toNat : Int) = x
  rw [UInt8.toNat_ofNat_of_lt' (show x.toNat < 256 by omega)]
  omega
theorem app_size (l : List Int) (s : ByteArray) : (strOfNums l ++ s).size = l.length + s.size := by
  rw [ByteArray.size_append, strOfNums_size]
theorem firsts_app (l : List Int) (s : ByteArray) (hl : ∀ x ∈ l, 0 ≤ x ∧ x ≤ 255) : firsts (strOfNums l ++ s) l.length = l := by
  apply List.ext_getElem?
  intro i
  unfold firsts
  rw [List.getElem?_map]
  rcases Nat.lt_or_ge i l.length with h | h
  · rw [List.getElem?_range h, List.getElem?_eq_getElem h]
    simp only [Option.map_some, Option.some.injEq]
    exact bt_app l s hl i _ (List.getElem?_eq_getElem h)
  · rw [List.getElem?_eq_none (by simpa using h), List.getElem?_eq_none h]; rfl

theorem dec_back (k : Int) (s : ByteArray) (hr : rightB k = true) : decV (encS k ++ s) = .tuple #[.int .i64 k, .int .i64 ((encL k).length : Int), .bool true] := by
  have e : encS k = strOfNums (encL k) := by unfold encS; rw [if_pos hr]
  have hB := encL_byte k hr
  have hf := firsts_app (encL k) s hB
  have hz := app_size (encL k) s
  have hr' := (rightB_iff k).1 hr
  have hb := fun i x h => bt_app (encL k) s hB i x h
  rw [e]
  generalize ht : strOfNums (encL k) ++ s = t at *
  have main : headK (bt t 0) = (encL k).length ∧ cand t (encL k).length = k := by
    clear hf hz ht e
    rw [encL_len]
    unfold encL at hb
    by_cases c1 : k < 128
    · simp only [c1, if_true] at hb ⊢
      have h0 := hb 0 _ rfl
      rw [h0]
      exact ⟨if_pos c1, by show bt t 0 = k; exact h0⟩
    · by_cases c2 : k < 2048
      · simp only [c1, c2, if_false, if_true] at hb ⊢
        have h0 := hb 0 _ rfl
        have h1 := hb 1 _ rfl
        unfold headK
        refine ⟨by rw [if_neg (by omega), if_pos (by omega)], ?_⟩
        show bt t 0 % 32 * 64 + bt t 1 % 64 = k
        omega
      · by_cases c3 : k < 65536
        · simp only [c1, c2, c3, if_false, if_true] at hb ⊢
          have h0 := hb 0 _ rfl
          have h1 := hb 1 _ rfl
          have h2 := hb 2 _ rfl
          unfold headK
          refine ⟨by rw [if_neg (by omega), if_neg (by omega), if_pos (by omega)], ?_⟩
          show (bt t 0 % 16 * 64 + bt t 1 % 64) * 64 + bt t 2 % 64 = k
          omega
        · simp only [c1, c2, c3, if_false] at hb ⊢
          have h0 := hb 0 _ rfl
          have h1 := hb 1 _ rfl
          have h2 := hb 2 _ rfl
          have h3 := hb 3 _ rfl
          unfold headK
          refine ⟨by rw [if_neg (by omega), if_neg (by omega), if_neg (by omega)], ?_⟩
          show ((bt t 0 % 8 * 64 + bt t 1 % 64) * 64 + bt t 2 % 64) * 64 + bt t 3 % 64 = k
          omega
  have hg : good t (encL k).length = true := by
    unfold good
    rw [main.2, hr, hf, decide_eq_true (by omega), decide_eq_true rfl]; rfl
  rw [decV_some main.1 hg, main.2]
theorem encS_size (k : Int) (hr : rightB k = true) : (encS k).size = (encL k).length := by
  unfold encS; rw [if_pos hr, strOfNums_size]
theorem encL_len_le (k : Int) : 1 ≤ (encL k).length ∧ (encL k).length ≤ 4 := by
  rw [encL_len]; split
  · decide
  · split
    · decide
    · split <;> decide
/-- What is told of a text that begins with a sign. -/
theorem dec_told (s : ByteArray) : (decV s = .tuple #[.int .i64 0, .int .i64 0, .bool false]) ∨
    ∃ (d : Int) (m : Nat), decV s = .tuple #[.int .i64 d, .int .i64 (m : Int), .bool true] ∧ 1 ≤ m ∧ m ≤ s.size ∧ rightB d = true ∧ ((encS d).toList == (s.extract 0 m).toList) = true := by
  by_cases h : good s (headK (bt s 0)) = true
  · refine .inr ⟨cand s (headK (bt s 0)), headK (bt s 0), decV_some rfl h, ?_, ?_, ?_, ?_⟩
    · have := headK_cases (bt s 0); omega
    · unfold good at h; simp only [Bool.and_eq_true, decide_eq_true_eq] at h; exact h.1.1
    · unfold good at h; simp only [Bool.and_eq_true, decide_eq_true_eq] at h; exact h.1.2
    · have h2 := h
      unfold good at h2; simp only [Bool.and_eq_true, decide_eq_true_eq] at h2
      rw [good_of s _ h2.1.1 h2.1.2, h]
  · exact .inl (decV_none rfl (by simpa using h))
end Go.Proofs.Ytmheekoaklfffab
