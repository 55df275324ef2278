/- Plain facts on lines and columns. No program in sight. -/
import Derived.Test.YtgpglmponbipbaaOwn
import Derived.PlainAid
import Derived.Lib.LastIndexByte
import Derived.Lib.Bytealg
import Derived.Lib.IndexLaws
namespace Go.Proofs.Ytgpglmponbipbaa
set_option linter.unusedVariables false
open Go.RowKit Go.PlainAid

def ln (s : ByteArray) : Nat → Nat | 0 => 1 | k + 1 => if bt s k = 10 then ln s k + 1 else ln s k
def cl (s : ByteArray) : Nat → Nat | 0 => 1 | k + 1 => if bt s k = 10 then 1 else cl s k + 1
theorem ln_succ (s : ByteArray) (k : Nat) : ln s (k + 1) = if bt s k = 10 then ln s k + 1 else ln s k := rfl
theorem cl_succ (s : ByteArray) (k : Nat) : cl s (k + 1) = if bt s k = 10 then 1 else cl s k + 1 := rfl

theorem bt_list (s : ByteArray) (i : Nat) : bt s i = ((s.data.toList[i]?.map fun b => (b.toNat : Int)).getD 0) := by
  by_cases h : i < s.size
  · rw [← get_bt s i h]
    have hl : i < s.data.toList.length := by simpa using h
    rw [List.getElem?_eq_getElem hl]; rfl
  · rw [bt_end s (by omega), List.getElem?_eq_none (by simpa using h)]; rfl
theorem bt_ten {s : ByteArray} {i : Nat} : bt s i = 10 ↔ s.data.toList[i]? = some 10 := by
  rw [bt_list]
  cases h : s.data.toList[i]? with
  | none => simp
  | some b =>
    simp only [Option.map_some, Option.getD_some, Option.some.injEq]
    rw [← UInt8.toNat_inj]
    show (b.toNat : Int) = 10 ↔ b.toNat = 10
    omega
theorem ext_list (s : ByteArray) (a b : Nat) : (s.extract a b).data.toList = (s.data.toList.drop a).take (b - a) := by
  rw [ByteArray.data_extract, Array.toList_extract]; first | done | rfl
theorem bt_ext (s : ByteArray) (k i : Nat) (h : i < k) : bt (s.extract 0 k) i = bt s i := by
  rw [bt_list, bt_list, ext_list, List.drop_zero, Nat.sub_zero, List.getElem?_take_of_lt h]
theorem ln_count (s : ByteArray) (k : Nat) (h : k ≤ s.size) : (s.data.toList.take k).count 10 + 1 = ln s k := by
  induction k with
  | zero => rfl
  | succ k ih =>
    have hl : k < s.data.toList.length := by rw [Array.length_toList]; exact h
    rw [List.take_succ_eq_append_getElem hl, List.count_append, ln_succ]
    have := ih (by omega)
    by_cases e : bt s k = 10
    · rw [if_pos e]
      rw [bt_ten, List.getElem?_eq_getElem hl, Option.some.injEq] at e
      rw [e, List.count_singleton_self]; omega
    · rw [if_neg e]
      rw [bt_ten, List.getElem?_eq_getElem hl, Option.some.injEq] at e
      rw [List.count_eq_zero.2 (fun hm => e (List.mem_singleton.1 hm).symm)]
      omega
theorem ln_code (s : ByteArray) (k : Nat) (h : k ≤ s.size) : (1 : Int) + (Lib.countByte (s.extract 0 k).data.toList 10 : Int) = (ln s k : Int) := by
  rw [← ln_count s k h, ext_list, List.drop_zero, Nat.sub_zero]; unfold Lib.countByte; omega
theorem ln_all (s : ByteArray) : (Lib.countByte s.data.toList 10 : Int) + 1 = (ln s s.size : Int) := by
  rw [← ln_count s s.size (Nat.le_refl _), List.take_of_length_le (by simp)]; unfold Lib.countByte; omega
theorem get_bang (s : ByteArray) (k : Nat) : ((s.data[k]!).toNat : Int) = bt s k := by
  by_cases h : k < s.size
  · rw [← get_bt s k h, getElem!_pos s.data k h]; rfl
  · rw [bt_end s (by omega), getElem!_neg s.data k h]; rfl
theorem cl_idx (s : ByteArray) (k : Nat) : (k : Int) - Lib.lastIdx s 10 k = (cl s k : Int) := by
  induction k with
  | zero => rfl
  | succ k ih =>
    rw [cl_succ]
    by_cases e : bt s k = 10
    · rw [if_pos e, Lib.lastIdx_hit s 10 k (by rw [get_bang]; exact e)]; omega
    · rw [if_neg e, Lib.lastIdx_miss s 10 k (by rw [get_bang]; exact e)]; omega
theorem lastIdx_congr (s t : ByteArray) (k : Nat) (h : ∀ i, i < k → bt s i = bt t i) : Lib.lastIdx s 10 k = Lib.lastIdx t 10 k := by
  induction k with
  | zero => rfl
  | succ k ih =>
    unfold Lib.lastIdx
    rw [get_bang, get_bang, h k (by omega), ih fun i hi => h i (by omega)]
theorem ext_size (s : ByteArray) (k : Nat) (h : k ≤ s.size) : (s.extract 0 k).size = k := by rw [ByteArray.size_extract]; omega
theorem cl_code (s : ByteArray) (k : Nat) (h : k ≤ s.size) : (k : Int) - Lib.lastIndexByte (s.extract 0 k) 10 = (cl s k : Int) := by
  unfold Lib.lastIndexByte
  rw [ext_size s k h, lastIdx_congr _ s k fun i hi => bt_ext s k i hi, cl_idx]

theorem ln_pos (s : ByteArray) (k : Nat) : 1 ≤ ln s k := by
  induction k with
  | zero => exact Nat.le_refl _
  | succ k ih => rw [ln_succ]; split <;> omega
theorem cl_pos (s : ByteArray) (k : Nat) : 1 ≤ cl s k := by
  cases k with
  | zero => exact Nat.le_refl _
  | succ k => rw [cl_succ]; split <;> omega
theorem ln_le (s : ByteArray) (k : Nat) : ln s k ≤ k + 1 := by
  induction k with
  | zero => exact Nat.le_refl _
  | succ k ih => rw [ln_succ]; split <;> omega
theorem cl_le (s : ByteArray) (k : Nat) : cl s k ≤ k + 1 := by
  induction k with
  | zero => exact Nat.le_refl _
  | succ k ih => rw [cl_succ]; split <;> omega
theorem ln_mono (s : ByteArray) (i d : Nat) : ln s i ≤ ln s (i + d) := by
  induction d with
  | zero => exact Nat.le_refl _
  | succ d ih => rw [← Nat.add_assoc]; rw [ln_succ]; split <;> omega
theorem same_line (s : ByteArray) (i d : Nat) (h : ln s (i + d) = ln s i) : cl s (i + d) = cl s i + d := by
  induction d with
  | zero => rfl
  | succ d ih =>
    have h1 := ln_mono s i d
    rw [← Nat.add_assoc] at h ⊢
    rw [ln_succ] at h
    rw [cl_succ]
    split at h
    · omega
    · rename_i e; rw [if_neg e, ih (by omega)]; omega
theorem spot_inj (s : ByteArray) {i j : Nat} (hl : ln s i = ln s j) (hc : cl s i = cl s j) : i = j := by
  rcases Nat.le_total i j with h | h
  · obtain ⟨d, rfl⟩ := Nat.exists_eq_add_of_le h
    have := same_line s i d hl.symm; omega
  · obtain ⟨d, rfl⟩ := Nat.exists_eq_add_of_le h
    have := same_line s j d hl; omega
/-- No line feed from p on, d bytes. -/
theorem no_feed (s : ByteArray) (p d : Nat) (h : ∀ i, i < d → bt s (p + i) ≠ 10) : ln s (p + d) = ln s p ∧ cl s (p + d) = cl s p + d := by
  have e : ln s (p + d) = ln s p := by
    induction d with
    | zero => rfl
    | succ d ih => rw [← Nat.add_assoc]; rw [ln_succ, if_neg (h d (by omega)), ih fun i hi => h i (by omega)]
  exact ⟨e, same_line s p d e⟩
theorem feed (s : ByteArray) (p : Nat) (h : bt s p = 10) : ln s (p + 1) = ln s p + 1 ∧ cl s (p + 1) = 1 := by
  constructor
  · show (if bt s p = 10 then ln s p + 1 else ln s p) = _; rw [if_pos h]
  · show (if bt s p = 10 then 1 else cl s p + 1) = _; rw [if_pos h]

/-- Which byte, or the end, has this line and column. -/
def atF (s : ByteArray) (L C : Int) : Option Nat := (List.range (s.size + 1)).find? fun i => decide ((ln s i : Int) = L) && decide ((cl s i : Int) = C)
theorem atF_some {s : ByteArray} {L C : Int} {i : Nat} (hi : i ≤ s.size) (hl : (ln s i : Int) = L) (hc : (cl s i : Int) = C) : atF s L C = some i := by
  unfold atF
  cases h : (List.range (s.size + 1)).find? fun i => decide ((ln s i : Int) = L) && decide ((cl s i : Int) = C) with
  | none =>
    have := List.find?_eq_none.1 h i (List.mem_range.2 (by omega))
    simp [hl, hc] at this
  | some j =>
    have := List.find?_some h
    simp only [Bool.and_eq_true, decide_eq_true_eq] at this
    rw [spot_inj s (i := j) (j := i) (by omega) (by omega)]
theorem atF_none {s : ByteArray} {L C : Int} (h : ∀ i, i ≤ s.size → (ln s i : Int) = L → (cl s i : Int) = C → False) : atF s L C = none := by
  unfold atF
  rw [List.find?_eq_none]
  intro i hi
  have := List.mem_range.1 hi
  simp only [Bool.and_eq_true, decide_eq_true_eq, not_and]
  exact fun h1 h2 => h i (by omega) h1 h2
def atV (s : ByteArray) (L C : Int) : Value :=
  match atF s L C with
  | some i => .tuple #[.int .i64 (i : Int), .bool true]
  | none => .tuple #[.int .i64 0, .bool false]
theorem atV_some {s : ByteArray} {L C : Int} {i : Nat} (h : atF s L C = some i) : atV s L C = .tuple #[.int .i64 (i : Int), .bool true] := by unfold atV; rw [h]
theorem atV_none {s : ByteArray} {L C : Int} (h : atF s L C = none) : atV s L C = .tuple #[.int .i64 0, .bool false] := by unfold atV; rw [h]
/-- A line's beginning p, and how far it goes: where its columns are. -/
theorem line_at (s : ByteArray) (p d : Nat) (C : Int) (hp : cl s p = 1) (hd : p + d ≤ s.size) (hno : ∀ i, i < d → bt s (p + i) ≠ 10) (hend : p + d = s.size ∨ bt s (p + d) = 10) :
    atF s (ln s p : Int) C = if 1 ≤ C ∧ C - 1 ≤ (d : Int) then some (p + (C - 1).toNat) else none := by
  split
  · rename_i h
    obtain ⟨e, rfl⟩ : ∃ e : Nat, C = (e : Int) + 1 := ⟨(C - 1).toNat, by omega⟩
    have he : e ≤ d := by omega
    have h2 := no_feed s p e fun i hi => hno i (by omega)
    rw [show ((e : Int) + 1 - 1).toNat = e by omega]
    exact atF_some (by omega) (by omega) (by omega)
  · rename_i h
    refine atF_none fun i hi h1 h2 => h ?_
    have hc := cl_pos s i
    rcases Nat.lt_or_ge i p with hlt | hge
    · obtain ⟨k, rfl⟩ := Nat.exists_eq_add_of_le (Nat.le_of_lt hlt)
      have := same_line s i k (by omega); omega
    · obtain ⟨k, rfl⟩ := Nat.exists_eq_add_of_le hge
      have hk : k ≤ d := by
        rcases Nat.lt_or_ge d k with hdk | hdk
        · rcases hend with he | he
          · omega
          · have h3 := no_feed s p d hno
            have h4 := feed s (p + d) he
            have h5 := ln_mono s (p + d + 1) (k - d - 1)
            rw [show p + d + 1 + (k - d - 1) = p + k by omega] at h5
            omega
        · exact hdk
      have h6 := no_feed s p k fun j hj => hno j (by omega)
      omega
/-- What strings.IndexByte tells of the rest of a text. -/
theorem idx_rest (s : ByteArray) (p : Nat) (hp : p ≤ s.size) :
    (Lib.indexByte (s.extract p s.size).data.toList 10 = -1 ∧ ∀ i, i < s.size - p → bt s (p + i) ≠ 10) ∨
    ∃ d : Nat, Lib.indexByte (s.extract p s.size).data.toList 10 = (d : Int) ∧ p + d < s.size ∧ bt s (p + d) = 10 ∧ ∀ i, i < d → bt s (p + i) ≠ 10 := by
  have hl : (s.extract p s.size).data.toList = s.data.toList.drop p := by
    rw [ext_list, List.take_of_length_le (by simp)]
  have hb : ∀ i, (s.data.toList.drop p)[i]? = s.data.toList[p + i]? := fun i => by rw [List.getElem?_drop]
  rw [hl]
  have hge := Lib.indexByte_ge (s.data.toList.drop p) 10
  by_cases h : Lib.indexByte (s.data.toList.drop p) 10 = -1
  · refine .inl ⟨h, fun i hi hc => ?_⟩
    rw [bt_ten, ← hb] at hc
    exact Lib.indexByte_none h i hc
  · obtain ⟨d, hd⟩ : ∃ d : Nat, Lib.indexByte (s.data.toList.drop p) 10 = (d : Int) := ⟨(Lib.indexByte (s.data.toList.drop p) 10).toNat, by omega⟩
    have := Lib.indexByte_some hd
    rw [hb] at this
    refine .inr ⟨d, hd, ?_, bt_ten.2 this.1, fun i hi hc => ?_⟩
    · rcases Nat.lt_or_ge (p + d) s.size with h1 | h1
      · exact h1
      · rw [List.getElem?_eq_none (by simpa using h1)] at this; cases this.1
    · rw [bt_ten, ← hb] at hc
      exact this.2 i hi hc
end Go.Proofs.Ytgpglmponbipbaa
