/- Plain facts on sets of bytes as four words: no program in sight. Plain facts: the bits of a word, counted in pairs, in fours, in bytes. The walks of the document's answers of layer 1. The walks of layer 1's functions. A class as it is written: what it says. -/
import Derived.WalkKit
import Derived.Laws.BitsAllLaws
import Derived.Lib.Hide
import Derived.Test.YtonknapfndaalaaChecked
import Derived.Test.YtonknapfndaalaaGa
import Derived.WalkSpells
import Derived.WalkLawsBesides
import Derived.BigQuiet
import Derived.Deep.RegionHeld3
import Derived.Deep.DeepCutAuto
import Derived.RegionTactic
import Derived.Handy
import Derived.KernelRfl
import Derived.Test.YtonknapfndaalaaGe
namespace Go.Proofs.Ytonknapfndaalaa
set_option linter.unusedVariables false
set_option maxRecDepth 1000000
open Go.RowKit
def P64 : Nat := 18446744073709551616
/-- The word in which the byte x stands. -/
def word (a b c d x : Nat) : Nat := match x / 64 with | 0 => a | 1 => b | 2 => c | _ => d
/-- Is x in the set? -/
def inSet (a b c d x : Nat) : Bool := (word a b c d x).testBit (x % 64)
/-- The word i of a set, with x. -/
def withW (a x i : Nat) : Nat := if x / 64 = i then a ||| 2 ^ (x % 64) else a
/-- The word of what isn't in a set. -/
def notW (a : Nat) : Nat := P64 - 1 - a
theorem word_get (a b c d x : Nat) (hx : x < 256) :
  [Value.int .u64 (a : Int), .int .u64 (b : Int), .int .u64 (c : Int), .int .u64 (d : Int)][x / 64]? = some (.int .u64 (word a b c d x : Int)) := by
 unfold word
 have : x / 64 = 0 ∨ x / 64 = 1 ∨ x / 64 = 2 ∨ x / 64 = 3 := by omega
 rcases this with h | h | h | h <;> rw [h] <;> rfl
theorem word_lt (a b c d x : Nat) (ha : a < P64) (hb : b < P64) (hc : c < P64) (hd : d < P64) : word a b c d x < P64 := by
 unfold word; split <;> assumption
theorem bit_of (y r : Nat) (hy : y < P64) : (bits .and .u64 ((y : Int) / 2 ^ r) 1 == 1) = y.testBit r := by
 have h1 : ((y : Int) / 2 ^ r) = ((y / 2 ^ r : Nat) : Int) := by
  rw [Int.natCast_ediv, Int.natCast_pow]; rfl
 have h2 : y / 2 ^ r < 18446744073709551616 := Nat.lt_of_le_of_lt (Nat.div_le_self _ _) hy
 rw [h1, show (1 : Int) = ((1 : Nat) : Int) from rfl, u64_and_nat _ _ h2 (by decide), Nat.testBit_eq_decide_div_mod_eq, Nat.and_one_is_mod]
 have := Nat.mod_two_eq_zero_or_one (y / 2 ^ r)
 rcases this with h | h <;> rw [h] <;> rfl
theorem has_bit (a b c d x : Nat) (ha : a < P64) (hb : b < P64) (hc : c < P64) (hd : d < P64) :
  (bits .and .u64 ((word a b c d x : Int) / 2 ^ (x % 64)) 1 == 1) = inSet a b c d x :=
 bit_of _ _ (word_lt a b c d x ha hb hc hd)
theorem pow_lt (x : Nat) : 2 ^ (x % 64) < 18446744073709551616 := by
 have : x % 64 < 64 := Nat.mod_lt _ (by decide)
 have h2 : 2 ^ (x % 64) ≤ 2 ^ 63 := Nat.pow_le_pow_right (by decide) (by omega)
 exact Nat.lt_of_le_of_lt h2 (by decide)
theorem or_bit (a x : Nat) (ha : a < P64) : bits .or .u64 (a : Int) (IntKind.u64.wrap (2 ^ (x % 64))) = ((a ||| 2 ^ (x % 64) : Nat) : Int) := by
 have h1 : ((2 : Int) ^ (x % 64)) = ((2 ^ (x % 64) : Nat) : Int) := by rw [Int.natCast_pow]; rfl
 have h2 := pow_lt x
 rw [h1]
 generalize 2 ^ (x % 64) = p at h2
 have h3 : IntKind.u64.wrap (p : Int) = (p : Int) := by rw [IntKind.wrap_u64]; omega
 rw [h3, u64_or_nat _ _ ha h2]
theorem withW_lt {a x i : Nat} (ha : a < P64) : withW a x i < P64 := by
 unfold withW
 split
 ·
  exact Nat.or_lt_two_pow (n := 64) ha (pow_lt x)
 ·
  exact ha
theorem not_word (a : Nat) (ha : a < P64) : bits .xor .u64 IntKind.u64.max (a : Int) = (notW a : Int) := by
 have hm : IntKind.u64.max = ((18446744073709551615 : Nat) : Int) := by decide
 rw [hm, u64_xor_nat _ _ (by decide) ha]
 have h := congrArg BitVec.toNat (BitVec.allOnes_xor (x := BitVec.ofNat 64 a))
 rw [BitVec.toNat_xor, BitVec.toNat_not, BitVec.toNat_allOnes, BitVec.toNat_ofNat, show a % 2 ^ 64 = a from Nat.mod_eq_of_lt ha] at h
 exact congrArg Int.ofNat h
theorem notW_lt (a : Nat) : notW a < P64 := by unfold notW P64; omega
/-- The word i of the set of the bytes from lo up to m, m left out. -/
def rowW (i lo : Nat) : Nat → Nat
 | 0 => 0
 | m + 1 => if lo ≤ m then withW (rowW i lo m) m i else 0
theorem rowW_low (i lo : Nat) : ∀ m, m ≤ lo → rowW i lo m = 0 := by
 intro m h
 cases m with
 | zero => rfl
 | succ m => unfold rowW; rw [if_neg (by omega)]
theorem rowW_start (i lo : Nat) : rowW i lo lo = 0 := rowW_low i lo lo (Nat.le_refl _)
theorem rowW_step {i lo m : Nat} (h : lo ≤ m) : rowW i lo (m + 1) = withW (rowW i lo m) m i := by
 rw [rowW, if_pos h]
theorem rowW_end {i lo m hi : Nat} (h : ¬ m ≤ hi) (h2 : m ≤ hi + 1 ∨ m = lo) : rowW i lo m = rowW i lo (hi + 1) := by
 by_cases e : m = hi + 1
 ·
  rw [e]
 ·
  obtain rfl : m = lo := by omega
  rw [rowW_start, rowW_low i m (hi + 1) (by omega)]
theorem rowW_lt (i lo m : Nat) : rowW i lo m < P64 := by
 induction m with
 | zero => unfold rowW P64; omega
 | succ m ih =>
  unfold rowW
  split
  ·
   exact withW_lt ih
  ·
   unfold P64; omega
end Go.Proofs.Ytonknapfndaalaa

namespace Go.Proofs.Ytonknapfndaalaa
set_option linter.unusedVariables false
set_option maxRecDepth 1000000
open Go.RowKit
theorem last (b0 b1 b2 b3 b4 b5 b6 b7 X1 X2 X3 X4 X5 X6 y : Nat) (h0 : b0 ≤ 8) (h1 : b1 ≤ 8) (h2 : b2 ≤ 8) (h3 : b3 ≤ 8) (h4 : b4 ≤ 8) (h5 : b5 ≤ 8) (h6 : b6 ≤ 8) (h7 : b7 ≤ 8)
  (x6 : X6 = 256 * b7 + b6) (x5 : X5 = 256 * X6 + b5) (x4 : X4 = 256 * X5 + b4) (x3 : X3 = 256 * X4 + b3) (x2 : X2 = 256 * X3 + b2) (x1 : X1 = 256 * X2 + b1) (hy : y = 256 * X1 + b0) :
  ∃ y4 y5 y6, y4 = y + y / 256 ∧ y5 = y4 + y4 / 65536 ∧ y6 = y5 + y5 / 4294967296 ∧ y ≤ 600000000000000000 ∧ y4 < 2000000000000000000 ∧ y5 < 3000000000000000000 ∧ y6 < 4000000000000000000 ∧ y6 % 128 = b0 + b1 + b2 + b3 + b4 + b5 + b6 + b7 := by
 have g6 : X6 ≤ 2056 := by omega
 have g5 : X5 ≤ 526344 := by omega
 have g4 : X4 ≤ 134744072 := by omega
 have g3 : X3 ≤ 34494482440 := by omega
 have g2 : X2 ≤ 8830587504648 := by omega
 have g1 : X1 ≤ 2260630401189896 := by omega
 have g0 : y ≤ 578721382704613384 := by omega
 have d0 : y / 256 = X1 := by omega
 refine ⟨_, _, _, rfl, rfl, rfl, by omega, ?_⟩
 rw [d0]
 obtain ⟨U1, u1⟩ : ∃ U, U = X1 + X2 := ⟨_, rfl⟩
 obtain ⟨U2, u2⟩ : ∃ U, U = X2 + X3 := ⟨_, rfl⟩
 obtain ⟨U3, u3⟩ : ∃ U, U = X3 + X4 := ⟨_, rfl⟩
 obtain ⟨U4, u4⟩ : ∃ U, U = X4 + X5 := ⟨_, rfl⟩
 obtain ⟨U5, u5⟩ : ∃ U, U = X5 + X6 := ⟨_, rfl⟩
 obtain ⟨U6, u6⟩ : ∃ U, U = X6 + b7 := ⟨_, rfl⟩
 have e0 : y + X1 = 256 * U1 + (b0 + b1) := by omega
 have e1 : U1 = 256 * U2 + (b1 + b2) := by omega
 have e2 : U2 = 256 * U3 + (b2 + b3) := by omega
 have e3 : U3 = 256 * U4 + (b3 + b4) := by omega
 have e4 : U4 = 256 * U5 + (b4 + b5) := by omega
 have e5 : U5 = 256 * U6 + (b5 + b6) := by omega
 have e6 : U6 = 256 * b7 + (b6 + b7) := by omega
 have k0 : y + X1 ≤ 600000000000000000 := by omega
 clear g6 g5 g4 g3 g2 g1 g0 d0 x6 x5 x4 x3 x2 x1 hy u1 u2 u3 u4 u5 u6
 generalize y + X1 = U0 at e0 k0
 have d1 : U0 / 65536 = U2 := by omega
 rw [d1]
 obtain ⟨V1, v1⟩ : ∃ U, U = U1 + U3 := ⟨_, rfl⟩
 obtain ⟨V2, v2⟩ : ∃ U, U = U2 + U4 := ⟨_, rfl⟩
 obtain ⟨V3, v3⟩ : ∃ U, U = U3 + U5 := ⟨_, rfl⟩
 obtain ⟨V4, v4⟩ : ∃ U, U = U4 + U6 := ⟨_, rfl⟩
 have f0 : U0 + U2 = 256 * V1 + (b0 + b1 + b2 + b3) := by omega
 have f1 : V1 = 256 * V2 + (b1 + b2 + b3 + b4) := by omega
 have f2 : V2 = 256 * V3 + (b2 + b3 + b4 + b5) := by omega
 have f3 : V3 = 256 * V4 + (b3 + b4 + b5 + b6) := by omega
 have f4 : V4 % 256 = b4 + b5 + b6 + b7 := by omega
 have k1 : U0 + U2 ≤ 1200000000000000000 := by omega
 clear e0 e1 e2 e3 e4 e5 e6 v1 v2 v3 v4
 generalize U0 + U2 = V0 at f0 k1
 clear d1
 have q1 : V0 / 65536 = V2 := by clear f2 f3 f4; omega
 have q2 : V2 / 65536 = V4 := by clear f0 f1 f4; omega
 have d2 : V0 / 4294967296 = V4 := by rw [← q2, ← q1]; clear f0 f1 f2 f3 f4; omega
 rw [d2]
 have q3 : V4 ≤ V0 := by omega
 have r : (V0 + V4) % 128 = b0 + b1 + b2 + b3 + b4 + b5 + b6 + b7 := by clear f1 f2 f3; omega
 clear f0 f1 f2 f3 f4
 exact ⟨by omega, by omega, by omega, r⟩
theorem c2 (a : Nat) : ((a : Int) / 2) = ((a / 2 : Nat) : Int) := by omega
theorem c4 (a : Nat) : ((a : Int) / 4) = ((a / 4 : Nat) : Int) := by omega
end Go.Proofs.Ytonknapfndaalaa

namespace Go.Proofs.Ytonknapfndaalaa
set_option linter.unusedVariables false
set_option maxRecDepth 1000000
open Go.RowKit
set_option maxHeartbeats 400000 in
theorem rwith_any (a b c d x : Nat) (hx : x < 256) (ha : a < P64) (hb : b < P64) (hc : c < P64) (hd : d < P64) (w : World) :
  Calls Try.prog 100 #[.agg #[.int .u64 (a : Int), .int .u64 (b : Int), .int .u64 (c : Int), .int .u64 (d : Int)], .int .u8 (x : Int)] w
   fun e w' => e = .returned (.agg #[.int .u64 (withW a x 0 : Int), .int .u64 (withW b x 1 : Int), .int .u64 (withW c x 2 : Int), .int .u64 (withW d x 3 : Int)]) ∧ Below w.heap.size w w' := by
 have : x / 64 = 0 ∨ x / 64 = 1 ∨ x / 64 = 2 ∨ x / 64 = 3 := by omega
 have Ha := Lib.hid (or_bit a x ha)
 have Hb := Lib.hid (or_bit b x hb)
 have Hc := Lib.hid (or_bit c x hc)
 have Hd := Lib.hid (or_bit d x hd)
 clear ha hb hc hd
 rcases this with h | h | h | h
 ·
  have h' : (x : Int) / 64 = 0 := by omega
  go_enter Try.func100, Try.ntmps100
  go_wp2
  go_returns
  exact ⟨ret_set (by simp [withW, h, Ha.out]) (by simp [withW, h]) (by simp [withW, h]) (by simp [withW, h]), by go_grown⟩
 ·
  have h' : (x : Int) / 64 = 1 := by omega
  go_enter Try.func100, Try.ntmps100
  go_wp2
  go_returns
  exact ⟨ret_set (by simp [withW, h]) (by simp [withW, h, Hb.out]) (by simp [withW, h]) (by simp [withW, h]), by go_grown⟩
 ·
  have h' : (x : Int) / 64 = 2 := by omega
  go_enter Try.func100, Try.ntmps100
  go_wp2
  go_returns
  exact ⟨ret_set (by simp [withW, h]) (by simp [withW, h]) (by simp [withW, h, Hc.out]) (by simp [withW, h]), by go_grown⟩
 ·
  have h' : (x : Int) / 64 = 3 := by omega
  go_enter Try.func100, Try.ntmps100
  go_wp2
  go_returns
  exact ⟨ret_set (by simp [withW, h]) (by simp [withW, h]) (by simp [withW, h]) (by simp [withW, h, Hd.out]), by go_grown⟩
set_option maxHeartbeats 1000000 in
theorem rnot_any (a b c d : Nat) (ha : a < P64) (hb : b < P64) (hc : c < P64) (hd : d < P64) (w : World) :
  Calls Try.prog 61 #[.agg #[.int .u64 (a : Int), .int .u64 (b : Int), .int .u64 (c : Int), .int .u64 (d : Int)]] w
   fun e w' => e = .returned (.agg #[.int .u64 (notW a : Int), .int .u64 (notW b : Int), .int .u64 (notW c : Int), .int .u64 (notW d : Int)]) ∧ Below w.heap.size w w' := by
 have Ha := Lib.hid (not_word a ha)
 have Hb := Lib.hid (not_word b hb)
 have Hc := Lib.hid (not_word c hc)
 have Hd := Lib.hid (not_word d hd)
 clear ha hb hc hd
 go_enter Try.func61, Try.ntmps61
 go_wp2
 go_rounds 5
 go_returns
 exact ⟨ret_set Ha.out Hb.out Hc.out Hd.out, by go_grown⟩
set_option maxHeartbeats 1000000 in
theorem ror_any (a b c d a' b' c' d' : Nat) (ha : a < P64) (hb : b < P64) (hc : c < P64) (hd : d < P64) (ha' : a' < P64) (hb' : b' < P64) (hc' : c' < P64) (hd' : d' < P64) (w : World) :
  Calls Try.prog 80 #[.agg #[.int .u64 (a : Int), .int .u64 (b : Int), .int .u64 (c : Int), .int .u64 (d : Int)], .agg #[.int .u64 (a' : Int), .int .u64 (b' : Int), .int .u64 (c' : Int), .int .u64 (d' : Int)]] w
   fun e w' => e = .returned (.agg #[.int .u64 ((a ||| a' : Nat) : Int), .int .u64 ((b ||| b' : Nat) : Int), .int .u64 ((c ||| c' : Nat) : Int), .int .u64 ((d ||| d' : Nat) : Int)]) ∧ Below w.heap.size w w' := by
 have Ha := Lib.hid (u64_or_nat a a' ha ha')
 have Hb := Lib.hid (u64_or_nat b b' hb hb')
 have Hc := Lib.hid (u64_or_nat c c' hc hc')
 have Hd := Lib.hid (u64_or_nat d d' hd hd')
 clear ha hb hc hd ha' hb' hc' hd'
 go_enter Try.func80, Try.ntmps80
 go_wp2
 refine wp_loop_rounds 5 ?_
 repeat any_goals (rw [rounds_succ]; go_wp2; try (go_region; go_wp2))
 go_returns
 exact ⟨ret_set Ha.out Hb.out Hc.out Hd.out, by go_grown⟩
end Go.Proofs.Ytonknapfndaalaa

namespace Go.Proofs.Ytonknapfndaalaa
set_option linter.unusedVariables false
set_option maxRecDepth 1000000
open Go.RowKit
set_option maxHeartbeats 400000 in
theorem has_any (a b c d x : Nat) (hx : x < 256) (ha : a < P64) (hb : b < P64) (hc : c < P64) (hd : d < P64) (w : World) :
  Calls Try.prog 36 #[.agg #[.int .u64 (a : Int), .int .u64 (b : Int), .int .u64 (c : Int), .int .u64 (d : Int)], .int .u8 (x : Int)] w
   fun e w' => e = .returned (.bool (inSet a b c d x)) ∧ Below w.heap.size w w' := by
 have hw := word_get a b c d x hx
 have H := Lib.hid (has_bit a b c d x ha hb hc hd)
 clear ha hb hc hd
 go_enter Try.func36, Try.ntmps36
 go_wp2
 go_ret
 exact ⟨ret_bool H.out, (Below.refl _ _).alloc (Nat.le_refl _) _⟩
end Go.Proofs.Ytonknapfndaalaa

namespace Go.Proofs.Ytonknapfndaalaa
set_option linter.unusedVariables false
set_option maxRecDepth 1000000
open Go.RowKit
/-- The row's end: as far as the next byte is in h. -/
def runTo (h : Nat → Bool) : Nat → Nat → Nat
 | 0, k => k
 | f + 1, k => if k < 255 ∧ h (k + 1) = true then runTo h f (k + 1) else k
theorem runTo_ge (h : Nat → Bool) : ∀ f k, k ≤ runTo h f k
 | 0, k => Nat.le_refl _
 | f + 1, k => by unfold runTo; split <;> (try have := runTo_ge h f (k + 1)) <;> omega
theorem runTo_le (h : Nat → Bool) : ∀ f k, k ≤ 255 → runTo h f k ≤ 255
 | 0, k => id
 | f + 1, k => fun hk => by
  unfold runTo; split
  ·
   rename_i g; exact runTo_le h f (k + 1) (by omega)
  ·
   exact hk
theorem runTo_step {h : Nat → Bool} {f k : Nat} (h1 : k < 255) (h2 : h (k + 1) = true) : runTo h (f + 1) k = runTo h f (k + 1) := by
 show (if k < 255 ∧ h (k + 1) = true then _ else _) = _; rw [if_pos ⟨h1, h2⟩]
theorem runTo_stop {h : Nat → Bool} {k : Nat} (f : Nat) (hk : ¬ (k < 255 ∧ h (k + 1) = true)) : runTo h f k = k := by
 cases f
 ·
  rfl
 ·
  show (if k < 255 ∧ h (k + 1) = true then _ else _) = _; rw [if_neg hk]
def rowS (lo hi : Nat) : List UInt8 := (wrS spC lo).data.toList ++ ((if lo + 1 < hi then [45] else []) ++ (if lo < hi then (wrS spC hi).data.toList else []))
theorem wr_len (sp : ByteArray) (c : Int) : (wrS sp c).data.toList.length ≤ 4 := by
 have h2 := wrS_size sp c
 have h3 : (wrS sp c).data.toList.length = (wrS sp c).size := by simp
 omega
theorem rowS_len (lo hi : Nat) : (rowS lo hi).length ≤ 9 := by
 have h1 := wr_len spC lo
 have h2 := wr_len spC hi
 unfold rowS
 rw [List.length_append, List.length_append]
 split <;> split <;> simp only [List.length_cons, List.length_nil] <;> omega
/-- The rows from a byte on. -/
def clsF (h : Nat → Bool) : Nat → Nat → List UInt8
 | 0, _ => []
 | f + 1, low => if low < 256 then (if h low = true then rowS low (runTo h 255 low) ++ clsF h f (runTo h 255 low + 1) else clsF h f (low + 1)) else []
theorem clsF_len (h : Nat → Bool) : ∀ f low, (clsF h f low).length ≤ 9 * f
 | 0, _ => Nat.le_refl _
 | f + 1, low => by
  unfold clsF
  split
  ·
   split
   ·
    have h1 := rowS_len low (runTo h 255 low)
    have h2 := clsF_len h f (runTo h 255 low + 1)
    rw [List.length_append]; omega
   ·
    have h2 := clsF_len h f (low + 1); omega
  ·
   simp
theorem clsF_in {h : Nat → Bool} {f low : Nat} (h1 : low < 256) (h2 : h low = true) : clsF h (f + 1) low = rowS low (runTo h 255 low) ++ clsF h f (runTo h 255 low + 1) := by
 show (if low < 256 then (if h low = true then _ else _) else _) = _; rw [if_pos h1, if_pos h2]
theorem clsF_out {h : Nat → Bool} {f low : Nat} (h1 : low < 256) (h2 : h low = false) : clsF h (f + 1) low = clsF h f (low + 1) := by
 show (if low < 256 then (if h low = true then _ else _) else _) = _; rw [if_pos h1, if_neg (by rw [h2]; decide)]
theorem clsF_end (h : Nat → Bool) (f : Nat) {low : Nat} (h1 : ¬ low < 256) : clsF h f low = [] := by
 cases f
 ·
  rfl
 ·
  show (if low < 256 then (if h low = true then _ else _) else _) = _; rw [if_neg h1]
def clsL (h : Nat → Bool) : List UInt8 := [91] ++ clsF h 257 0
theorem clsL_len (h : Nat → Bool) : (clsL h).length ≤ 2400 := by
 have := clsF_len h 257 0
 unfold clsL; rw [List.length_append]; simp only [List.length_cons, List.length_nil]; omega
def classS (h : Nat → Bool) : ByteArray := ofL (clsL h ++ [93])
theorem spC_in {c : Int} (h0 : 0 ≤ c) (h1 : c ≤ 255) (h : isSp spC c = true) : 32 ≤ c ∧ c ≤ 126 := by
 rw [isSp_C h0 h1] at h; simp at h; omega
/-- One row more. -/
theorem cls_step {h : Nat → Bool} {acc tot : List UInt8} {f low : Nat} (ht : acc ++ clsF h f low = tot) (hf : 256 < f + low) (h1 : low < 256) (h2 : h low = true) :
  (acc ++ rowS low (runTo h 255 low)) ++ clsF h (f - 1) (runTo h 255 low + 1) = tot := by
 obtain ⟨g, rfl⟩ : ∃ g, f = g + 1 := ⟨f - 1, by omega⟩
 rw [clsF_in h1 h2, ← List.append_assoc] at ht
 exact ht
theorem cls_skip {h : Nat → Bool} {acc tot : List UInt8} {f low : Nat} (ht : acc ++ clsF h f low = tot) (hf : 256 < f + low) (h1 : low < 256) (h2 : h low = false) :
  acc ++ clsF h (f - 1) (low + 1) = tot := by
 obtain ⟨g, rfl⟩ : ∃ g, f = g + 1 := ⟨f - 1, by omega⟩
 rw [clsF_out h1 h2] at ht
 exact ht
theorem cls_stop {h : Nat → Bool} {acc tot : List UInt8} {f low : Nat} (ht : acc ++ clsF h f low = tot) (h1 : ¬ low < 256) : acc = tot := by
 rw [clsF_end h f h1, List.append_nil] at ht; exact ht
theorem acc_le {h : Nat → Bool} {acc tot : List UInt8} {f low : Nat} (ht : acc ++ clsF h f low = tot) (hl : tot.length ≤ 2400) : acc.length ≤ 2400 := by
 rw [← ht, List.length_append] at hl; omega
end Go.Proofs.Ytonknapfndaalaa
