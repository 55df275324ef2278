/- Plain facts on signs and their bytes. No program in sight. The walks of layer 2's functions. -/
import Derived.Test.YtihcmneidbjmlaaGa
import Derived.PlainAid
import Derived.Laws.BytesArg
import Derived.Laws.BitsAllLaws
import Derived.Test.YtihcmneidbjmlaaChecked
import Derived.WalkLawsBesides
import Derived.Handy
import Derived.KernelRfl
namespace Go.Proofs.Ytihcmneidbjmlaa
set_option linter.unusedVariables false
open Go.RowKit Go.PlainAid

def rightB (n : Int) : Bool := decide (0 ≤ n) && decide (n ≤ 1114111) && (decide (n < 55296) || decide (57343 < n))
theorem rightB_iff (n : Int) : rightB n = true ↔ 0 ≤ n ∧ n ≤ 1114111 ∧ (n < 55296 ∨ 57343 < n) := by unfold rightB; simp [and_assoc]
/-- A sign's bytes. -/
def encL (n : Int) : List Int :=
  if n < 128 then [n] else if n < 2048 then [192 + n / 64, 128 + n % 64]
  else if n < 65536 then [224 + n / 4096, 128 + n / 64 % 64, 128 + n % 64] else [240 + n / 262144, 128 + n / 4096 % 64, 128 + n / 64 % 64, 128 + n % 64]
def encS (n : Int) : ByteArray := if rightB n = true then strOfNums (encL n) else ⟨#[]⟩

theorem or8 (a i : Nat) (x : Int) (h0 : 0 ≤ x) (hx : x < 2 ^ i) (hl : 2 ^ i * a + 2 ^ i ≤ 256) : bits .or .u8 ((2 ^ i * a : Nat) : Int) x = ((2 ^ i * a : Nat) : Int) + x := by
  obtain ⟨n, rfl⟩ := Int.eq_ofNat_of_zero_le h0
  have hn : n < 2 ^ i := by exact_mod_cast hx
  rw [u8_or_nat _ _ (by omega) (by omega), ← Nat.two_pow_add_eq_or_of_lt hn a]
  omega
theorem or64 (a i : Nat) (x : Int) (h0 : 0 ≤ x) (hx : x < 2 ^ i) (hl : 2 ^ i * a + 2 ^ i ≤ 1000000000000) : bits .or .i64 ((2 ^ i * a : Nat) : Int) x = ((2 ^ i * a : Nat) : Int) + x := by
  obtain ⟨n, rfl⟩ := Int.eq_ofNat_of_zero_le h0
  have hn : n < 2 ^ i := by exact_mod_cast hx
  show IntKind.i64.wrap ((BitVec.ofInt 64 ((2 ^ i * a : Nat) : Int) ||| BitVec.ofInt 64 (n : Int)).toNat : Int) = _
  generalize hp : 2 ^ i = p at *
  rw [BitVec.toNat_or, ofInt_u64 _ (by omega), ofInt_u64 _ (by omega), ← hp, ← Nat.two_pow_add_eq_or_of_lt (by omega) a, hp, IntKind.wrap_i64]
  omega
theorem or8_192 (x : Int) (h0 : 0 ≤ x) (hx : x < 64) : bits .or .u8 192 x = 192 + x := or8 3 6 x h0 hx (by decide)
theorem or8_224 (x : Int) (h0 : 0 ≤ x) (hx : x < 32) : bits .or .u8 224 x = 224 + x := or8 7 5 x h0 hx (by decide)
theorem or8_240 (x : Int) (h0 : 0 ≤ x) (hx : x < 16) : bits .or .u8 240 x = 240 + x := or8 15 4 x h0 hx (by decide)
theorem or8_128 (x : Int) (h0 : 0 ≤ x) (hx : x < 64) : bits .or .u8 128 x = 128 + x := or8 2 6 x h0 hx (by decide)
theorem or64_192 (x : Int) (h0 : 0 ≤ x) (hx : x < 64) : bits .or .i64 192 x = 192 + x := or64 3 6 x h0 hx (by decide)
theorem or64_224 (x : Int) (h0 : 0 ≤ x) (hx : x < 32) : bits .or .i64 224 x = 224 + x := or64 7 5 x h0 hx (by decide)
theorem or64_240 (x : Int) (h0 : 0 ≤ x) (hx : x < 16) : bits .or .i64 240 x = 240 + x := or64 15 4 x h0 hx (by decide)
theorem or64_128 (x : Int) (h0 : 0 ≤ x) (hx : x < 64) : bits .or .i64 128 x = 128 + x := or64 2 6 x h0 hx (by decide)
theorem or_shift (n b : Int) (h0 : 0 ≤ n) (h1 : n ≤ 1000000000) (hb0 : 0 ≤ b) (hb : b < 64) : bits .or .i64 (n * 64) b = n * 64 + b := by
  obtain ⟨x, rfl⟩ := Int.eq_ofNat_of_zero_le h0
  have := or64 x 6 b hb0 hb (by omega)
  rw [show ((2 ^ 6 * x : Nat) : Int) = (x : Int) * 64 from by omega] at this
  exact this
theorem and_low (k n : Nat) (hk : k ≤ 30) (hn : n < 9223372036854775808) : bits .and .i64 (n : Int) ((2 ^ k - 1 : Nat) : Int) = ((n % 2 ^ k : Nat) : Int) := by
  have h2 : 2 ^ k ≤ 2 ^ 30 := Nat.pow_le_pow_right (by decide) hk
  have h3 : n % 2 ^ k ≤ n := Nat.mod_le _ _
  show IntKind.i64.wrap ((BitVec.ofInt 64 (n : Int) &&& BitVec.ofInt 64 ((2 ^ k - 1 : Nat) : Int)).toNat : Int) = _
  rw [BitVec.toNat_and, ofInt_u64 n (by omega), ofInt_u64 _ (by omega), Nat.and_two_pow_sub_one_eq_mod, IntKind.wrap_i64]
  omega
theorem and63 (n : Int) (h0 : 0 ≤ n) (h1 : n ≤ 9223372036854775807) : bits .and .i64 n 63 = n % 64 := by
  obtain ⟨x, rfl⟩ := Int.eq_ofNat_of_zero_le h0
  exact and_low 6 x (by decide) (by omega)
theorem and31 (n : Int) (h0 : 0 ≤ n) (h1 : n ≤ 255) : bits .and .i64 n 31 = n % 32 := by
  obtain ⟨x, rfl⟩ := Int.eq_ofNat_of_zero_le h0
  exact and_low 5 x (by decide) (by omega)
theorem and15 (n : Int) (h0 : 0 ≤ n) (h1 : n ≤ 255) : bits .and .i64 n 15 = n % 16 := by
  obtain ⟨x, rfl⟩ := Int.eq_ofNat_of_zero_le h0
  exact and_low 4 x (by decide) (by omega)
theorem and7 (n : Int) (h0 : 0 ≤ n) (h1 : n ≤ 255) : bits .and .i64 n 7 = n % 8 := by
  obtain ⟨x, rfl⟩ := Int.eq_ofNat_of_zero_le h0
  exact and_low 3 x (by decide) (by omega)
theorem u8_low (k : Nat) (hk : k ≤ 8) (b : Nat) (hb : b < 256) : bits .and .u8 (b : Int) ((2 ^ k - 1 : Nat) : Int) = ((b % 2 ^ k : Nat) : Int) := by
  have h2 : 2 ^ k ≤ 2 ^ 8 := Nat.pow_le_pow_right (by decide) hk
  rw [u8_and_nat b (2 ^ k - 1) hb (by omega), Nat.and_two_pow_sub_one_eq_mod]
theorem u8_31 (b : Int) (h0 : 0 ≤ b) (h1 : b ≤ 255) : bits .and .u8 b 31 = b % 32 := by
  obtain ⟨n, rfl⟩ := Int.eq_ofNat_of_zero_le h0
  exact u8_low 5 (by decide) n (by omega)
theorem u8_15 (b : Int) (h0 : 0 ≤ b) (h1 : b ≤ 255) : bits .and .u8 b 15 = b % 16 := by
  obtain ⟨n, rfl⟩ := Int.eq_ofNat_of_zero_le h0
  exact u8_low 4 (by decide) n (by omega)
theorem u8_7 (b : Int) (h0 : 0 ≤ b) (h1 : b ≤ 255) : bits .and .u8 b 7 = b % 8 := by
  obtain ⟨n, rfl⟩ := Int.eq_ofNat_of_zero_le h0
  exact u8_low 3 (by decide) n (by omega)
theorem u8_63 (b : Int) (h0 : 0 ≤ b) (h1 : b ≤ 255) : bits .and .u8 b 63 = b % 64 := by
  obtain ⟨n, rfl⟩ := Int.eq_ofNat_of_zero_le h0
  exact u8_low 6 (by decide) n (by omega)

/-- What the first k bytes would mean, and how many bytes the first one tells. -/
def cand (s : ByteArray) : Nat → Int
  | 1 => bt s 0
  | 2 => bt s 0 % 32 * 64 + bt s 1 % 64
  | 3 => (bt s 0 % 16 * 64 + bt s 1 % 64) * 64 + bt s 2 % 64
  | _ => ((bt s 0 % 8 * 64 + bt s 1 % 64) * 64 + bt s 2 % 64) * 64 + bt s 3 % 64
def headN (b : Int) : Int := if b < 128 then b else if b < 224 then b % 32 else if b < 240 then b % 16 else b % 8
def headK (b : Int) : Nat := if b < 128 then 1 else if b < 224 then 2 else if b < 240 then 3 else 4
def firsts (s : ByteArray) (k : Nat) : List Int := (List.range k).map fun i => bt s i
/-- Are the first k bytes a sign's? -/
def good (s : ByteArray) (k : Nat) : Bool := decide (k ≤ s.size) && rightB (cand s k) && decide (encL (cand s k) = firsts s k)

theorem encL_len (n : Int) : (encL n).length = if n < 128 then 1 else if n < 2048 then 2 else if n < 65536 then 3 else 4 := by
  unfold encL; split
  · rfl
  · split
    · rfl
    · split <;> rfl
theorem good_head {s : ByteArray} {k : Nat} (h : good s k = true) (hk : 1 ≤ k) : headK (bt s 0) = k := by
  unfold good at h
  simp only [Bool.and_eq_true, decide_eq_true_eq] at h
  obtain ⟨⟨hs, hr⟩, he⟩ := h
  rw [rightB_iff] at hr
  have hl : (encL (cand s k)).length = k := by rw [he]; simp [firsts]
  have h0 : (encL (cand s k))[0]? = some (bt s 0) := by rw [he, firsts, List.getElem?_map, List.getElem?_range (by omega)]; rfl
  generalize cand s k = n at *
  rw [encL_len] at hl
  unfold encL at h0
  unfold headK
  by_cases c1 : n < 128
  · simp only [c1, if_true] at hl h0
    simp at h0
    rw [if_pos (by omega)]; exact hl
  · by_cases c2 : n < 2048
    · simp only [c1, c2, if_false, if_true] at hl h0
      simp at h0
      rw [if_neg (by omega), if_pos (by omega)]; exact hl
    · by_cases c3 : n < 65536
      · simp only [c1, c2, c3, if_false, if_true] at hl h0
        simp at h0
        rw [if_neg (by omega), if_neg (by omega), if_pos (by omega)]; exact hl
      · simp only [c1, c2, c3, if_false] at hl h0
        simp at h0
        rw [if_neg (by omega), if_neg (by omega), if_neg (by omega)]; exact hl
/-- The sign with which a text begins: number, size, whether there is one. -/
def decV (s : ByteArray) : Value :=
  if good s (headK (bt s 0)) = true then .tuple #[.int .i64 (cand s (headK (bt s 0))), .int .i64 (headK (bt s 0) : Int), .bool true] else .tuple #[.int .i64 0, .int .i64 0, .bool false]

theorem u8_inj {l m : List UInt8} (h : l.map (fun b => (b.toNat : Int)) = m.map (fun b => (b.toNat : Int))) : l = m := by
  induction l generalizing m with
  | nil => cases m with
    | nil => rfl
    | cons _ _ => simp at h
  | cons a l ih => cases m with
    | nil => simp at h
    | cons b m =>
      simp only [List.map_cons, List.cons.injEq] at h
      have e : a.toNat = b.toNat := by omega
      rw [ih h.2, UInt8.toNat_inj.1 e]
theorem nums_back (l : List Int) (h : ∀ x ∈ l, 0 ≤ x ∧ x ≤ 255) : (strOfNums l).toList.map (fun b => (b.toNat : Int)) = l := by
  rw [ByteArray.toList_eq, strOfNums_data, List.map_map]
  conv => rhs; rw [← List.map_id l]
  apply List.map_congr_left
  intro x hx
  have := h x hx
  have hn : x.toNat < 256 := by omega
  show ((UInt8.ofNat x.toNat).toNat : Int) = x
  rw [UInt8.toNat_ofNat_of_lt' hn]
  omega
theorem firsts_back (s : ByteArray) (k : Nat) (hk : k ≤ s.size) : (s.extract 0 k).toList.map (fun b => (b.toNat : Int)) = firsts s k := by
  rw [ByteArray.toList_eq]
  apply List.ext_getElem?
  intro i
  unfold firsts
  rw [List.getElem?_map, List.getElem?_map]
  have he : (s.extract 0 k).data.toList = (s.data.toList.drop 0).take (k - 0) := by simp [ByteArray.data_extract]
  rw [he, List.drop_zero, Nat.sub_zero]
  by_cases hi : i < k
  · rw [List.getElem?_range hi, List.getElem?_take_of_lt hi]
    have hl : i < s.data.toList.length := by simpa using Nat.lt_of_lt_of_le hi hk
    rw [List.getElem?_eq_getElem hl]
    have : i < s.size := by omega
    simp only [Option.map_some, Option.some.injEq]
    rw [← get_bt s i this]
    rfl
  · rw [List.getElem?_eq_none (by simp; omega), List.getElem?_eq_none (by simp; omega)]; rfl
theorem encL_byte (n : Int) (h : rightB n = true) : ∀ x ∈ encL n, 0 ≤ x ∧ x ≤ 255 := by
  rw [rightB_iff] at h
  unfold encL
  intro x hx
  by_cases c1 : n < 128
  · simp [c1] at hx; omega
  · by_cases c2 : n < 2048
    · simp [c1, c2] at hx; omega
    · by_cases c3 : n < 65536
      · simp [c1, c2, c3] at hx; omega
      · simp [c1, c2, c3] at hx; omega
theorem good_of (s : ByteArray) (k : Nat) (hk : k ≤ s.size) (hr : rightB (cand s k) = true) : ((encS (cand s k)).toList == (s.extract 0 k).toList) = good s k := by
  have e : encS (cand s k) = strOfNums (encL (cand s k)) := by unfold encS; rw [if_pos hr]
  unfold good
  rw [e, hr, decide_eq_true hk, Bool.true_and, Bool.true_and, Bool.eq_iff_iff, beq_iff_eq, decide_eq_true_eq]
  constructor
  · intro h
    rw [← nums_back _ (encL_byte _ hr), ← firsts_back s k hk, h]
  · intro h
    apply u8_inj
    rw [nums_back _ (encL_byte _ hr), firsts_back s k hk, h]
theorem bad_right (s : ByteArray) (k : Nat) (hr : rightB (cand s k) = false) : good s k = false := by unfold good; rw [hr]; simp
theorem bad_size (s : ByteArray) (k : Nat) (h : s.size < k) : good s k = false := by unfold good; rw [decide_eq_false (by omega)]; simp
theorem decV_some {s : ByteArray} {k : Nat} (hk : headK (bt s 0) = k) (h : good s k = true) : decV s = .tuple #[.int .i64 (cand s k), .int .i64 (k : Int), .bool true] := by
  unfold decV; rw [hk, if_pos h]
theorem decV_none {s : ByteArray} {k : Nat} (hk : headK (bt s 0) = k) (h : good s k = false) : decV s = .tuple #[.int .i64 0, .int .i64 0, .bool false] := by
  unfold decV; rw [hk, h]; rfl
theorem not_empty {s : ByteArray} (h : 0 < s.size) : s.toList.isEmpty = false := by
  rw [ByteArray.toList_eq]
  obtain ⟨⟨l⟩⟩ := s
  cases l with
  | nil => simp [ByteArray.size] at h
  | cons _ _ => rfl
theorem is_empty {s : ByteArray} (h : s.size = 0) : s.toList.isEmpty = true := by
  rw [ByteArray.toList_eq]
  obtain ⟨⟨l⟩⟩ := s
  cases l with
  | nil => rfl
  | cons _ _ => simp [ByteArray.size] at h
theorem headK_cases (b : Int) : (headK b = 1 ∧ b < 128 ∧ headN b = b) ∨ (headK b = 2 ∧ 128 ≤ b ∧ b < 224 ∧ headN b = b % 32) ∨ (headK b = 3 ∧ 224 ≤ b ∧ b < 240 ∧ headN b = b % 16) ∨ (headK b = 4 ∧ 240 ≤ b ∧ headN b = b % 8) := by
  unfold headK headN
  by_cases c1 : b < 128
  · exact .inl ⟨if_pos c1, c1, if_pos c1⟩
  · by_cases c2 : b < 224
    · exact .inr (.inl ⟨by rw [if_neg c1, if_pos c2], by omega, c2, by rw [if_neg c1, if_pos c2]⟩)
    · by_cases c3 : b < 240
      · exact .inr (.inr (.inl ⟨by rw [if_neg c1, if_neg c2, if_pos c3], by omega, c3, by rw [if_neg c1, if_neg c2, if_pos c3]⟩))
      · exact .inr (.inr (.inr ⟨by rw [if_neg c1, if_neg c2, if_neg c3], by omega, by rw [if_neg c1, if_neg c2, if_neg c3]⟩))
end Go.Proofs.Ytihcmneidbjmlaa

namespace Go.Proofs.Ytihcmneidbjmlaa
set_option linter.unusedVariables false
open Go.RowKit Go.Sort Go.PlainAid

/-- Bytes that the call has laid itself, as a string. -/
theorem conv_lit (xs : List Int) (w : World) : (convert 108 9 (.slice (some ⟨w.heap.size, 0, none⟩) xs.length xs.length)).run Try.prog (w.alloc (.cells (xs.map (Value.int .u8)).toArray 5)) = .ok (.string (strOfNums xs)) (w.alloc (.cells (xs.map (Value.int .u8)).toArray 5)) := by
  refine run_convert_bytes_arg _ 108 5 Try.underlying108 Try.underlying5 w.heap.size 0 xs.length xs.length xs rfl (fun i hi => ?_) 9 Try.underlying9
  rw [Nat.zero_add, (Own.fresh w 5 (xs.map (Value.int .u8))).cell i]
  simp [List.getElem?_eq_getElem hi]


theorem ret_tup {a b : ByteArray} {x : Bool} (h : a = b) : Ending.returned (.tuple #[.string a, .bool x]) = .returned (.tuple #[.string b, .bool x]) := by rw [h]

end Go.Proofs.Ytihcmneidbjmlaa
