/- Plain facts on sets: what is in which, and how many are. No program in sight. -/
import Derived.Test.YtinkgidncdjapabSet
namespace Go.Proofs.Ytinkgidncdjapab
set_option linter.unusedVariables false
open Go.RowKit

/-- How many numbers below n have p. -/
def cnt (p : Nat → Bool) : Nat → Nat
  | 0 => 0
  | n + 1 => cnt p n + (if p n then 1 else 0)
theorem cnt_congr {p q : Nat → Bool} {n : Nat} (h : ∀ x, x < n → p x = q x) : cnt p n = cnt q n := by
  induction n with
  | zero => rfl
  | succ n ih => unfold cnt; rw [ih fun x hx => h x (by omega), h n (by omega)]
theorem cnt_le (p : Nat → Bool) (n : Nat) : cnt p n ≤ n := by
  induction n with
  | zero => exact Nat.le_refl _
  | succ n ih => unfold cnt; split <;> omega
theorem cnt_not (p : Nat → Bool) (n : Nat) : cnt p n + cnt (fun x => !p x) n = n := by
  induction n with
  | zero => rfl
  | succ n ih => unfold cnt; cases p n <;> simp <;> omega
theorem cnt_more {p : Nat → Bool} {c n : Nat} (h : p c = false) : cnt (fun x => p x || decide (x = c)) n = cnt p n + (if c < n then 1 else 0) := by
  induction n with
  | zero => rfl
  | succ n ih =>
    unfold cnt
    rw [ih]
    by_cases e : n = c
    · subst e; simp [h]
    · by_cases e2 : c < n
      · simp [e, e2, Nat.lt_succ_of_lt e2]; omega
      · have : ¬ c < n + 1 := by omega
        simp [e, e2, this]
theorem cnt_row (lo hi n : Nat) : cnt (fun x => decide (lo ≤ x) && decide (x ≤ hi)) n = min n (hi + 1) - lo := by
  induction n with
  | zero => simp [cnt]
  | succ n ih =>
    unfold cnt
    rw [ih]
    by_cases h1 : lo ≤ n <;> by_cases h2 : n ≤ hi <;> simp [h1, h2] <;> omega
theorem cnt_add (p : Nat → Bool) (m n : Nat) : cnt p (m + n) = cnt p m + cnt (fun x => p (m + x)) n := by
  induction n with
  | zero => rfl
  | succ n ih =>
    rw [← Nat.add_assoc]
    show cnt p (m + n) + _ = cnt p m + (cnt (fun x => p (m + x)) n + _)
    rw [ih, Nat.add_assoc]
theorem cnt_front (p : Nat → Bool) (n : Nat) : cnt p (n + 1) = (if p 0 then 1 else 0) + cnt (fun x => p (x + 1)) n := by
  rw [Nat.add_comm n 1, cnt_add]
  have : cnt (fun x => p (1 + x)) n = cnt (fun x => p (x + 1)) n := cnt_congr fun x _ => by rw [Nat.add_comm]
  rw [this]; simp [cnt]

theorem popN_cnt (n : Nat) : ∀ a, popN n a = cnt a.testBit n := by
  induction n with
  | zero => intro a; rfl
  | succ n ih =>
    intro a
    rw [cnt_front]
    unfold popN
    rw [ih]
    have h1 : cnt (a / 2).testBit n = cnt (fun x => a.testBit (x + 1)) n := cnt_congr fun x _ => by rw [Nat.testBit_succ]
    rw [h1, Nat.testBit_zero]
    have := Nat.mod_two_eq_zero_or_one a
    rcases this with h | h <;> simp [h]

theorem word0 (a b c d x : Nat) (h : x < 64) : inSet a b c d (0 + x) = a.testBit x := by
  unfold inSet word; rw [show (0 + x) / 64 = 0 by omega, show (0 + x) % 64 = x by omega]; rfl
theorem word1 (a b c d x : Nat) (h : x < 64) : inSet a b c d (64 + x) = b.testBit x := by
  unfold inSet word; rw [show (64 + x) / 64 = 1 by omega, show (64 + x) % 64 = x by omega]; rfl
theorem word2 (a b c d x : Nat) (h : x < 64) : inSet a b c d (128 + x) = c.testBit x := by
  unfold inSet word; rw [show (128 + x) / 64 = 2 by omega, show (128 + x) % 64 = x by omega]; rfl
theorem word3 (a b c d x : Nat) (h : x < 64) : inSet a b c d (192 + x) = d.testBit x := by
  unfold inSet word; rw [show (192 + x) / 64 = 3 by omega, show (192 + x) % 64 = x by omega]; rfl
theorem card_cnt (a b c d : Nat) : card a b c d = cnt (inSet a b c d) 256 := by
  rw [show 256 = 0 + 64 + 64 + 64 + 64 from rfl, cnt_add, cnt_add, cnt_add, cnt_add]
  unfold card pop
  rw [popN_cnt, popN_cnt, popN_cnt, popN_cnt, cnt_congr (word0 a b c d), cnt_congr (word1 a b c d), cnt_congr (word2 a b c d), cnt_congr (word3 a b c d)]
  simp [cnt]

theorem four {x : Nat} (hx : x < 256) : x / 64 = 0 ∨ x / 64 = 1 ∨ x / 64 = 2 ∨ x / 64 = 3 := by omega
theorem inSet_or (a b c d a' b' c' d' x : Nat) (hx : x < 256) : inSet (a ||| a') (b ||| b') (c ||| c') (d ||| d') x = (inSet a b c d x || inSet a' b' c' d' x) := by
  unfold inSet word
  rcases four hx with h | h | h | h <;> rw [h] <;> exact Nat.testBit_or ..
theorem bit_not {a i : Nat} (ha : a < P64) (hi : i < 64) : (notW a).testBit i = !a.testBit i := by
  have h := Nat.testBit_two_pow_sub_succ (n := 64) (x := a) ha i
  have e : notW a = 2 ^ 64 - (a + 1) := by unfold notW P64; omega
  rw [e, h]; simp [hi]
theorem inSet_not (a b c d x : Nat) (hx : x < 256) (ha : a < P64) (hb : b < P64) (hc : c < P64) (hd : d < P64) : inSet (notW a) (notW b) (notW c) (notW d) x = !inSet a b c d x := by
  unfold inSet word
  have hm : x % 64 < 64 := by omega
  rcases four hx with h | h | h | h <;> rw [h]
  · exact bit_not ha hm
  · exact bit_not hb hm
  · exact bit_not hc hm
  · exact bit_not hd hm
theorem not_not_word {a : Nat} (ha : a < P64) : notW (notW a) = a := by unfold notW P64 at *; omega
theorem inSet_with (a b c d x y : Nat) (hx : x < 256) (hy : y < 256) : inSet (withW a y 0) (withW b y 1) (withW c y 2) (withW d y 3) x = (inSet a b c d x || decide (x = y)) := by
  unfold inSet word withW
  rcases four hx with h | h | h | h <;> rw [h] <;> simp only [] <;> split
  all_goals first
    | (rw [Nat.testBit_or, Nat.testBit_two_pow]; congr 1; apply decide_eq_decide.2; omega)
    | (rw [decide_eq_false (show ¬ x = y by rintro rfl; omega), Bool.or_false])
theorem inSet_row (lo m x : Nat) (hx : x < 256) (hm : m ≤ 256) : inSet (rowW 0 lo m) (rowW 1 lo m) (rowW 2 lo m) (rowW 3 lo m) x = (decide (lo ≤ x) && decide (x < m)) := by
  induction m with
  | zero =>
    unfold inSet word
    rcases four hx with h | h | h | h <;> rw [h] <;> simp [rowW]
  | succ m ih =>
    by_cases h : lo ≤ m
    · simp only [rowW_step h]
      rw [inSet_with _ _ _ _ _ _ hx (by omega), ih (by omega)]
      by_cases e : x = m
      · subst e; simp [h]
      · by_cases e2 : x < m
        · simp [e, e2, Nat.lt_succ_of_lt e2]
        · simp [e, e2, show ¬ x < m + 1 by omega]
    · simp only [rowW_low _ lo (m + 1) (by omega)]
      have : ¬ (lo ≤ x ∧ x < m + 1) := by omega
      have h2 : inSet 0 0 0 0 x = false := by
        unfold inSet word
        rcases four hx with h | h | h | h <;> rw [h] <;> simp
      rw [h2]
      by_cases e : lo ≤ x
      · simp [e, show ¬ x < m + 1 by omega]
      · simp [e]

theorem card_not (a b c d : Nat) (ha : a < P64) (hb : b < P64) (hc : c < P64) (hd : d < P64) : card a b c d + card (notW a) (notW b) (notW c) (notW d) = 256 := by
  rw [card_cnt, card_cnt, cnt_congr (q := fun x => !inSet a b c d x) fun x hx => inSet_not a b c d x hx ha hb hc hd]
  exact cnt_not _ _
theorem card_row (lo hi : Nat) (hh : hi < 256) : card (rowW 0 lo (hi + 1)) (rowW 1 lo (hi + 1)) (rowW 2 lo (hi + 1)) (rowW 3 lo (hi + 1)) = hi + 1 - lo := by
  rw [card_cnt, cnt_congr (q := fun x => decide (lo ≤ x) && decide (x ≤ hi)) fun x hx => by rw [inSet_row lo (hi + 1) x hx (by omega)]; simp [Nat.lt_succ_iff], cnt_row]
  omega
theorem card_with (a b c d y : Nat) (hy : y < 256) (h : inSet a b c d y = false) : card (withW a y 0) (withW b y 1) (withW c y 2) (withW d y 3) = card a b c d + 1 := by
  rw [card_cnt, card_cnt, cnt_congr (q := fun x => inSet a b c d x || decide (x = y)) fun x hx => inSet_with a b c d x y hx hy, cnt_more h, if_pos hy]
theorem card_le (a b c d : Nat) : card a b c d ≤ 256 := by rw [card_cnt]; exact cnt_le _ _
theorem withW_in (a y i : Nat) (h : y / 64 = i → a.testBit (y % 64) = true) : withW a y i = a := by
  unfold withW
  split
  · rename_i e
    apply Nat.eq_of_testBit_eq
    intro j
    rw [Nat.testBit_or, Nat.testBit_two_pow]
    by_cases hj : y % 64 = j
    · subst hj; simp [h e]
    · simp [hj]
  · rfl
theorem with_in (a b c d y : Nat) (h : inSet a b c d y = true) : withW a y 0 = a ∧ withW b y 1 = b ∧ withW c y 2 = c ∧ withW d y 3 = d := by
  unfold inSet word at h
  refine ⟨withW_in _ _ _ fun e => ?_, withW_in _ _ _ fun e => ?_, withW_in _ _ _ fun e => ?_, withW_in _ _ _ fun e => ?_⟩ <;> rw [e] at h <;> exact h
end Go.Proofs.Ytinkgidncdjapab
