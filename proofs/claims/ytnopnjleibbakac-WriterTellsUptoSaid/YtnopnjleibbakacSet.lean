/- Plain facts on sets of bytes as four words: no program in sight. -/
import Derived.WalkKit
import Derived.Laws.BitsAllLaws
import Derived.Lib.Hide
namespace Go.Proofs.Ytnopnjleibbakac
set_option linter.unusedVariables false
open Go.RowKit

def P64 : Nat := 18446744073709551616
/-- The word in which the byte x stands. -/
def word (a b c d x : Nat) : Nat := match x / 64 with | 0 => a | 1 => b | 2 => c | _ => d
/-- Is x in the set? -/
def inSet (a b c d x : Nat) : Bool := (word a b c d x).testBit (x % 64)
/-- The word i of a set, with x. -/
def withW (a x i : Nat) : Nat := if x / 64 = i then a ||| 2 ^ (x % 64) else a
/-- The word of what isn't in a set. -/
def notW (a : Nat) : Nat := P64 - 1 - a

theorem word_get (a b c d x : Nat) (hx : x < 256) :
    [Value.int .u64 (a : Int), .int .u64 (b : Int), .int .u64 (c : Int), .int .u64 (d : Int)][x / 64]? = some (.int .u64 (word a b c d x : Int)) := by
  unfold word
  have : x / 64 = 0 ∨ x / 64 = 1 ∨ x / 64 = 2 ∨ x / 64 = 3 := by omega
  rcases this with h | h | h | h <;> rw [h] <;> rfl

theorem word_lt (a b c d x : Nat) (ha : a < P64) (hb : b < P64) (hc : c < P64) (hd : d < P64) : word a b c d x < P64 := by
  unfold word; split <;> assumption

theorem bit_of (y r : Nat) (hy : y < P64) : (bits .and .u64 ((y : Int) / 2 ^ r) 1 == 1) = y.testBit r := by
  have h1 : ((y : Int) / 2 ^ r) = ((y / 2 ^ r : Nat) : Int) := by
    rw [Int.natCast_ediv, Int.natCast_pow]; rfl
  have h2 : y / 2 ^ r < 18446744073709551616 := Nat.lt_of_le_of_lt (Nat.div_le_self _ _) hy
  rw [h1, show (1 : Int) = ((1 : Nat) : Int) from rfl, u64_and_nat _ _ h2 (by decide), Nat.testBit_eq_decide_div_mod_eq, Nat.and_one_is_mod]
  have := Nat.mod_two_eq_zero_or_one (y / 2 ^ r)
  rcases this with h | h <;> rw [h] <;> rfl

theorem has_bit (a b c d x : Nat) (ha : a < P64) (hb : b < P64) (hc : c < P64) (hd : d < P64) :
    (bits .and .u64 ((word a b c d x : Int) / 2 ^ (x % 64)) 1 == 1) = inSet a b c d x :=
  bit_of _ _ (word_lt a b c d x ha hb hc hd)

theorem pow_lt (x : Nat) : 2 ^ (x % 64) < 18446744073709551616 := by
  have : x % 64 < 64 := Nat.mod_lt _ (by decide)
  have h2 : 2 ^ (x % 64) ≤ 2 ^ 63 := Nat.pow_le_pow_right (by decide) (by omega)
  exact Nat.lt_of_le_of_lt h2 (by decide)

theorem or_bit (a x : Nat) (ha : a < P64) : bits .or .u64 (a : Int) (IntKind.u64.wrap (2 ^ (x % 64))) = ((a ||| 2 ^ (x % 64) : Nat) : Int) := by
  have h1 : ((2 : Int) ^ (x % 64)) = ((2 ^ (x % 64) : Nat) : Int) := by rw [Int.natCast_pow]; rfl
  have h2 := pow_lt x
  rw [h1]
  generalize 2 ^ (x % 64) = p at h2
  have h3 : IntKind.u64.wrap (p : Int) = (p : Int) := by rw [IntKind.wrap_u64]; omega
  rw [h3, u64_or_nat _ _ ha h2]

theorem withW_lt {a x i : Nat} (ha : a < P64) : withW a x i < P64 := by
  unfold withW
  split
  · exact Nat.or_lt_two_pow (n := 64) ha (pow_lt x)
  · exact ha

theorem not_word (a : Nat) (ha : a < P64) : bits .xor .u64 IntKind.u64.max (a : Int) = (notW a : Int) := by
  have hm : IntKind.u64.max = ((18446744073709551615 : Nat) : Int) := by decide
  rw [hm, u64_xor_nat _ _ (by decide) ha]
  have h := congrArg BitVec.toNat (BitVec.allOnes_xor (x := BitVec.ofNat 64 a))
  rw [BitVec.toNat_xor, BitVec.toNat_not, BitVec.toNat_allOnes, BitVec.toNat_ofNat, show a % 2 ^ 64 = a from Nat.mod_eq_of_lt ha] at h
  exact congrArg Int.ofNat h

theorem notW_lt (a : Nat) : notW a < P64 := by unfold notW P64; omega

/-- How many bits of a word are 1. -/
def popN : Nat → Nat → Nat
  | 0, _ => 0
  | n + 1, a => a % 2 + popN n (a / 2)
def pop (a : Nat) : Nat := popN 64 a
def card (a b c d : Nat) : Nat := pop a + pop b + pop c + pop d
theorem popN_le (n : Nat) : ∀ a, popN n a ≤ n := by
  induction n with
  | zero => intro a; exact Nat.le_refl _
  | succ n ih => intro a; have := ih (a / 2); unfold popN; omega
theorem pop_le (a : Nat) : pop a ≤ 64 := popN_le 64 a

/-- The word i of the set of the bytes from lo up to m, m left out. -/
def rowW (i lo : Nat) : Nat → Nat
  | 0 => 0
  | m + 1 => if lo ≤ m then withW (rowW i lo m) m i else 0
theorem rowW_low (i lo : Nat) : ∀ m, m ≤ lo → rowW i lo m = 0 := by
  intro m h
  cases m with
  | zero => rfl
  | succ m => unfold rowW; rw [if_neg (by omega)]
theorem rowW_start (i lo : Nat) : rowW i lo lo = 0 := rowW_low i lo lo (Nat.le_refl _)
theorem rowW_step {i lo m : Nat} (h : lo ≤ m) : rowW i lo (m + 1) = withW (rowW i lo m) m i := by
  rw [rowW, if_pos h]
theorem rowW_end {i lo m hi : Nat} (h : ¬ m ≤ hi) (h2 : m ≤ hi + 1 ∨ m = lo) : rowW i lo m = rowW i lo (hi + 1) := by
  by_cases e : m = hi + 1
  · rw [e]
  · obtain rfl : m = lo := by omega
    rw [rowW_start, rowW_low i m (hi + 1) (by omega)]
theorem rowW_lt (i lo m : Nat) : rowW i lo m < P64 := by
  induction m with
  | zero => unfold rowW P64; omega
  | succ m ih =>
    unfold rowW
    split
    · exact withW_lt ih
    · unfold P64; omega
end Go.Proofs.Ytnopnjleibbakac
