/- Plain facts: signs' bytes stand as the signs do. No program in sight. -/
import Derived.Test.YtmheekoaklfffabUtfBack
namespace Go.Proofs.Ytmheekoaklfffab
set_option linter.unusedVariables false
open Go.RowKit Go.PlainAid

def lexI : List Int → List Int → Bool
  | _, [] => false
  | [], _ :: _ => true
  | a :: x, b :: y => decide (a < b) || (decide (a = b) && lexI x y)
theorem byte_lt (x y : Int) (hx : 0 ≤ x ∧ x ≤ 255) (hy : 0 ≤ y ∧ y ≤ 255) : decide (UInt8.ofNat x.toNat < UInt8.ofNat y.toNat) = decide (x < y) := by
  apply decide_eq_decide.2
  rw [UInt8.lt_iff_toNat_lt, UInt8.toNat_ofNat_of_lt' (show x.toNat < 256 by omega), UInt8.toNat_ofNat_of_lt' (show y.toNat < 256 by omega)]
  omega
theorem byte_eq (x y : Int) (hx : 0 ≤ x ∧ x ≤ 255) (hy : 0 ≤ y ∧ y ≤ 255) : (UInt8.ofNat x.toNat == UInt8.ofNat y.toNat) = decide (x = y) := by
  rw [Bool.eq_iff_iff, beq_iff_eq, decide_eq_true_eq, ← UInt8.toNat_inj, UInt8.toNat_ofNat_of_lt' (show x.toNat < 256 by omega), UInt8.toNat_ofNat_of_lt' (show y.toNat < 256 by omega)]
  omega
theorem less_nums : ∀ (l m : List Int), (∀ x ∈ l, 0 ≤ x ∧ x ≤ 255) → (∀ x ∈ m, 0 ≤ x ∧ x ≤ 255) →
    Op.bytesLess (l.map fun n => UInt8.ofNat n.toNat) (m.map fun n => UInt8.ofNat n.toNat) = lexI l m
  | [], [], _, _ => rfl
  | [], _ :: _, _, _ => rfl
  | _ :: _, [], _, _ => rfl
  | a :: l, b :: m, hl, hm => by
    have ha := hl a (List.mem_cons_self ..)
    have hb := hm b (List.mem_cons_self ..)
    show (decide (UInt8.ofNat a.toNat < UInt8.ofNat b.toNat) || (UInt8.ofNat a.toNat == UInt8.ofNat b.toNat && Op.bytesLess _ _)) = _
    rw [byte_lt a b ha hb, byte_eq a b ha hb, less_nums l m (fun x h => hl x (List.mem_cons_of_mem _ h)) (fun x h => hm x (List.mem_cons_of_mem _ h))]
    rfl
theorem lex_enc (a b : Int) (ha : 0 ≤ a ∧ a ≤ 1114111) (hb : 0 ≤ b ∧ b ≤ 1114111) : lexI (encL a) (encL b) = decide (a < b) := by
  unfold encL
  by_cases c1 : a < 128 <;> by_cases d1 : b < 128
  · simp only [c1, d1, if_true, lexI]; simp
  · by_cases d2 : b < 2048 <;> by_cases d3 : b < 65536 <;> simp only [c1, d1, d2, d3, if_true, if_false, lexI] <;> rw [Bool.eq_iff_iff] <;> simp <;> omega
  · by_cases c2 : a < 2048 <;> by_cases c3 : a < 65536 <;> simp only [c1, c2, c3, d1, if_true, if_false, lexI] <;> rw [Bool.eq_iff_iff] <;> simp <;> omega
  · by_cases c2 : a < 2048 <;> by_cases d2 : b < 2048
    · simp only [c1, c2, d1, d2, if_true, if_false, lexI]; rw [Bool.eq_iff_iff]; simp; omega
    · by_cases d3 : b < 65536 <;> simp only [c1, c2, d1, d2, d3, if_true, if_false, lexI] <;> rw [Bool.eq_iff_iff] <;> simp <;> omega
    · by_cases c3 : a < 65536 <;> simp only [c1, c2, c3, d1, d2, if_true, if_false, lexI] <;> rw [Bool.eq_iff_iff] <;> simp <;> omega
    · by_cases c3 : a < 65536 <;> by_cases d3 : b < 65536 <;> simp only [c1, c2, c3, d1, d2, d3, if_true, if_false, lexI] <;> rw [Bool.eq_iff_iff] <;> simp <;> omega
theorem encS_list (a : Int) (h : rightB a = true) : (encS a).toList = (encL a).map fun n => UInt8.ofNat n.toNat := by
  rw [ByteArray.toList_eq]; unfold encS; rw [if_pos h, strOfNums_data]
theorem less_enc (a b : Int) (ha : rightB a = true) (hb : rightB b = true) : Op.bytesLess (encS a).toList (encS b).toList = decide (a < b) := by
  rw [encS_list a ha, encS_list b hb, less_nums _ _ (encL_byte a ha) (encL_byte b hb)]
  rw [rightB_iff] at ha hb
  exact lex_enc a b ⟨ha.1, ha.2.1⟩ ⟨hb.1, hb.2.1⟩
theorem lex_irr : ∀ l : List Int, lexI l l = false
  | [] => rfl
  | a :: l => by unfold lexI; rw [lex_irr l]; simp
theorem same_enc (a b : Int) (ha : rightB a = true) (hb : rightB b = true) : ((encS a).toList == (encS b).toList) = (a == b) := by
  rw [Bool.eq_iff_iff, beq_iff_eq, beq_iff_eq]
  constructor
  · intro h
    have h1 := less_enc a b ha hb
    have h2 := less_enc b a hb ha
    have h3 := less_enc a a ha ha
    rw [h] at h1 h2
    rw [h] at h3
    have e : decide (a < b) = false := by rw [← h1]; have := less_enc b b hb hb; simpa using this
    have e2 : decide (b < a) = false := by rw [← h2]; have := less_enc b b hb hb; simpa using this
    simp at e e2
    omega
  · rintro rfl; rfl
end Go.Proofs.Ytmheekoaklfffab
