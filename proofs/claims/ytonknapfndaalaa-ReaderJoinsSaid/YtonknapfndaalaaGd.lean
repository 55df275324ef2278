/- Plain facts on signs and their bytes. No program in sight. The walks of layer 2's functions. A byte as it is written: the walks of written and letter. A byte as it is written: the walk of the reference's letter. -/
import Derived.Test.YtonknapfndaalaaGa
import Derived.PlainAid
import Derived.Laws.BytesArg
import Derived.Laws.BitsAllLaws
import Derived.Test.YtonknapfndaalaaChecked
import Derived.WalkLawsBesides
import Derived.Handy
import Derived.KernelRfl
import Derived.Test.YtonknapfndaalaaGb
import Derived.StillTailTactics
namespace Go.Proofs.Ytonknapfndaalaa
set_option linter.unusedVariables false
set_option maxRecDepth 1000000
open Go.RowKit Go.PlainAid
def rightB (n : Int) : Bool := decide (0 ≤ n) && decide (n ≤ 1114111) && (decide (n < 55296) || decide (57343 < n))
theorem rightB_iff (n : Int) : rightB n = true ↔ 0 ≤ n ∧ n ≤ 1114111 ∧ (n < 55296 ∨ 57343 < n) := by unfold rightB; simp [and_assoc]
/-- A sign's bytes. -/
def encL (n : Int) : List Int :=
 if n < 128 then [n] else if n < 2048 then [192 + n / 64, 128 + n % 64]
 else if n < 65536 then [224 + n / 4096, 128 + n / 64 % 64, 128 + n % 64] else [240 + n / 262144, 128 + n / 4096 % 64, 128 + n / 64 % 64, 128 + n % 64]
def encS (n : Int) : ByteArray := if rightB n = true then strOfNums (encL n) else ⟨#[]⟩
theorem or8 (a i : Nat) (x : Int) (h0 : 0 ≤ x) (hx : x < 2 ^ i) (hl : 2 ^ i * a + 2 ^ i ≤ 256) : bits .or .u8 ((2 ^ i * a : Nat) : Int) x = ((2 ^ i * a : Nat) : Int) + x := by
 obtain ⟨n, rfl⟩ := Int.eq_ofNat_of_zero_le h0
 have hn : n < 2 ^ i := by exact_mod_cast hx
 rw [u8_or_nat _ _ (by omega) (by omega), ← Nat.two_pow_add_eq_or_of_lt hn a]
 omega
theorem or64 (a i : Nat) (x : Int) (h0 : 0 ≤ x) (hx : x < 2 ^ i) (hl : 2 ^ i * a + 2 ^ i ≤ 1000000000000) : bits .or .i64 ((2 ^ i * a : Nat) : Int) x = ((2 ^ i * a : Nat) : Int) + x := by
 obtain ⟨n, rfl⟩ := Int.eq_ofNat_of_zero_le h0
 have hn : n < 2 ^ i := by exact_mod_cast hx
 show IntKind.i64.wrap ((BitVec.ofInt 64 ((2 ^ i * a : Nat) : Int) ||| BitVec.ofInt 64 (n : Int)).toNat : Int) = _
 generalize hp : 2 ^ i = p at *
 rw [BitVec.toNat_or, ofInt_u64 _ (by omega), ofInt_u64 _ (by omega), ← hp, ← Nat.two_pow_add_eq_or_of_lt (by omega) a, hp, IntKind.wrap_i64]
 omega
theorem or8_192 (x : Int) (h0 : 0 ≤ x) (hx : x < 64) : bits .or .u8 192 x = 192 + x := or8 3 6 x h0 hx (by decide)
theorem or8_224 (x : Int) (h0 : 0 ≤ x) (hx : x < 32) : bits .or .u8 224 x = 224 + x := or8 7 5 x h0 hx (by decide)
theorem or8_240 (x : Int) (h0 : 0 ≤ x) (hx : x < 16) : bits .or .u8 240 x = 240 + x := or8 15 4 x h0 hx (by decide)
theorem or8_128 (x : Int) (h0 : 0 ≤ x) (hx : x < 64) : bits .or .u8 128 x = 128 + x := or8 2 6 x h0 hx (by decide)
theorem or64_192 (x : Int) (h0 : 0 ≤ x) (hx : x < 64) : bits .or .i64 192 x = 192 + x := or64 3 6 x h0 hx (by decide)
theorem or64_224 (x : Int) (h0 : 0 ≤ x) (hx : x < 32) : bits .or .i64 224 x = 224 + x := or64 7 5 x h0 hx (by decide)
theorem or64_240 (x : Int) (h0 : 0 ≤ x) (hx : x < 16) : bits .or .i64 240 x = 240 + x := or64 15 4 x h0 hx (by decide)
theorem or64_128 (x : Int) (h0 : 0 ≤ x) (hx : x < 64) : bits .or .i64 128 x = 128 + x := or64 2 6 x h0 hx (by decide)
theorem and_low (k n : Nat) (hk : k ≤ 30) (hn : n < 9223372036854775808) : bits .and .i64 (n : Int) ((2 ^ k - 1 : Nat) : Int) = ((n % 2 ^ k : Nat) : Int) := by
 have h2 : 2 ^ k ≤ 2 ^ 30 := Nat.pow_le_pow_right (by decide) hk
 have h3 : n % 2 ^ k ≤ n := Nat.mod_le _ _
 show IntKind.i64.wrap ((BitVec.ofInt 64 (n : Int) &&& BitVec.ofInt 64 ((2 ^ k - 1 : Nat) : Int)).toNat : Int) = _
 rw [BitVec.toNat_and, ofInt_u64 n (by omega), ofInt_u64 _ (by omega), Nat.and_two_pow_sub_one_eq_mod, IntKind.wrap_i64]
 omega
theorem and63 (n : Int) (h0 : 0 ≤ n) (h1 : n ≤ 9223372036854775807) : bits .and .i64 n 63 = n % 64 := by
 obtain ⟨x, rfl⟩ := Int.eq_ofNat_of_zero_le h0
 exact and_low 6 x (by decide) (by omega)
theorem u8_low (k : Nat) (hk : k ≤ 8) (b : Nat) (hb : b < 256) : bits .and .u8 (b : Int) ((2 ^ k - 1 : Nat) : Int) = ((b % 2 ^ k : Nat) : Int) := by
 have h2 : 2 ^ k ≤ 2 ^ 8 := Nat.pow_le_pow_right (by decide) hk
 rw [u8_and_nat b (2 ^ k - 1) hb (by omega), Nat.and_two_pow_sub_one_eq_mod]
theorem u8_15 (b : Int) (h0 : 0 ≤ b) (h1 : b ≤ 255) : bits .and .u8 b 15 = b % 16 := by
 obtain ⟨n, rfl⟩ := Int.eq_ofNat_of_zero_le h0
 exact u8_low 4 (by decide) n (by omega)
theorem encL_len (n : Int) : (encL n).length = if n < 128 then 1 else if n < 2048 then 2 else if n < 65536 then 3 else 4 := by
 unfold encL; split
 ·
  rfl
 ·
  split
  ·
   rfl
  ·
   split <;> rfl
end Go.Proofs.Ytonknapfndaalaa

namespace Go.Proofs.Ytonknapfndaalaa
set_option linter.unusedVariables false
set_option maxRecDepth 1000000
open Go.RowKit Go.Sort Go.PlainAid
/-- Bytes that the call has laid itself, as a string. -/
theorem conv_lit (xs : List Int) (w : World) : (convert 65 9 (.slice (some ⟨w.heap.size, 0, none⟩) xs.length xs.length)).run Try.prog (w.alloc (.cells (xs.map (Value.int .u8)).toArray 5)) = .ok (.string (strOfNums xs)) (w.alloc (.cells (xs.map (Value.int .u8)).toArray 5)) := by
 refine run_convert_bytes_arg _ 65 5 Try.underlying65 Try.underlying5 w.heap.size 0 xs.length xs.length xs rfl (fun i hi => ?_) 9 Try.underlying9
 rw [Nat.zero_add, (Own.fresh w 5 (xs.map (Value.int .u8))).cell i]
 simp [List.getElem?_eq_getElem hi]
set_option maxHeartbeats 400000 in
theorem right_any (n : Int) (w : World) : Calls Try.prog 121 #[.int .i64 n] w fun e w' => e = .returned (.bool (rightB n)) ∧ w = w' := by
 by_cases h1 : 0 ≤ n <;> by_cases h2 : n ≤ 1114111 <;> by_cases h3 : n < 55296 <;> by_cases h4 : 57343 < n
 all_goals first
  | (exfalso; omega)
  | (have H := Lib.hid (show rightB n = (decide (0 ≤ n) && decide (n ≤ 1114111) && (decide (n < 55296) || decide (57343 < n))) from rfl)
     go_enter Try.func121, Try.ntmps121
     go_wp2
     go_ret
     exact ⟨ret_bool (by rw [H.out]; simp; omega), rfl⟩)
set_option maxHeartbeats 400000 in
theorem behind_any (n : Int) (h0 : 0 ≤ n) (h1 : n ≤ 9223372036854775807) (w : World) : Calls Try.prog 122 #[.int .i64 n] w fun e w' => e = .returned (.int .u8 (128 + n % 64)) ∧ w = w' := by
 have e1 := and63 n h0 h1
 have H := Lib.hid (or8_128 (n % 64) (by omega) (by omega))
 have e3 : n % 64 % 256 = n % 64 := by omega
 generalize n % 64 = m at *
 clear h0 h1
 go_enter Try.func122, Try.ntmps122
 go_wp2
 go_ret
 exact ⟨ret_int H.out, rfl⟩
theorem ret_tup {a b : ByteArray} {x : Bool} (h : a = b) : Ending.returned (.tuple #[.string a, .bool x]) = .returned (.tuple #[.string b, .bool x]) := by rw [h]
set_option maxHeartbeats 800000 in
theorem encode_any (n : Int) (w : World) : Calls Try.prog 115 #[.int .i64 n] w fun e w' => e = .returned (.tuple #[.string (encS n), .bool (rightB n)]) ∧ Below w.heap.size w w' := by
 obtain ⟨v, hv⟩ : ∃ v, rightB n = v := ⟨_, rfl⟩
 have R := right_any n
 rw [hv] at R ⊢
 have R' := Lib.hid R
 clear R
 cases v
 ·
  have HE := Lib.hid (show encS n = ⟨#[]⟩ by unfold encS; rw [hv]; rfl)
  clear hv
  go_enter Try.func115, Try.ntmps115
  go_wp2_with fail
  refine (R'.out _).mono ?_
  rintro e w1 ⟨rfl, rfl⟩
  go_wp2_with fail
  go_ret2
  exact ⟨ret_tup HE.out.symm, Below.refl _ _⟩
 ·
  have HE : encS n = strOfNums (encL n) := by unfold encS; rw [hv]; rfl
  rw [rightB_iff] at hv
  obtain ⟨h0, h1, -⟩ := hv
  by_cases c1 : n < 128
  ·
   rw [encL, if_pos c1] at HE
   have H := Lib.hid HE
   have K := conv_lit [n]
   simp only [List.map_cons, List.map_nil, List.length_cons, List.length_nil, Nat.zero_add] at K
   clear HE
   go_enter Try.func115, Try.ntmps115
   go_wp2_with fail
   refine (R'.out _).mono ?_
   rintro e w1 ⟨rfl, rfl⟩
   go_wp2_with fail
   go_ret2
   exact ⟨ret_tup H.out.symm, by go_grown⟩
  ·
   by_cases c2 : n < 2048
   ·
    rw [encL, if_neg c1, if_pos c2] at HE
    have H := Lib.hid HE
    have e1 : bits .or .u8 192 (n / 64) = 192 + n / 64 := or8_192 _ (by omega) (by omega)
    have K := conv_lit [192 + n / 64, 128 + n % 64]
    simp only [List.map_cons, List.map_nil, List.length_cons, List.length_nil, Nat.zero_add] at K
    have B := Lib.hid (behind_any n h0 (by omega))
    clear HE
    go_enter Try.func115, Try.ntmps115
    go_wp2_with fail
    refine (R'.out _).mono ?_
    rintro e w1 ⟨rfl, rfl⟩
    go_wp2_with fail
    refine (B.out _).mono ?_
    rintro e w1 ⟨rfl, rfl⟩
    go_wp2_with fail
    go_ret2
    exact ⟨ret_tup H.out.symm, by go_grown⟩
   ·
    by_cases c3 : n < 65536
    ·
     rw [encL, if_neg c1, if_neg c2, if_pos c3] at HE
     have H := Lib.hid HE
     have e1 : bits .or .u8 224 (n / 4096) = 224 + n / 4096 := or8_224 _ (by omega) (by omega)
     have K := conv_lit [224 + n / 4096, 128 + n / 64 % 64, 128 + n % 64]
     simp only [List.map_cons, List.map_nil, List.length_cons, List.length_nil, Nat.zero_add] at K
     have B := Lib.hid (behind_any n h0 (by omega))
     have B1 := Lib.hid (behind_any (n / 64) (by omega) (by omega))
     clear HE
     go_enter Try.func115, Try.ntmps115
     go_wp2_with fail
     refine (R'.out _).mono ?_
     rintro e w1 ⟨rfl, rfl⟩
     go_wp2_with fail
     refine (B1.out _).mono ?_
     rintro e w1 ⟨rfl, rfl⟩
     go_wp2_with fail
     refine (B.out _).mono ?_
     rintro e w1 ⟨rfl, rfl⟩
     go_wp2_with fail
     go_ret2
     exact ⟨ret_tup H.out.symm, by go_grown⟩
    ·
     rw [encL, if_neg c1, if_neg c2, if_neg c3] at HE
     have H := Lib.hid HE
     have e1 : bits .or .u8 240 (n / 262144) = 240 + n / 262144 := or8_240 _ (by omega) (by omega)
     have K := conv_lit [240 + n / 262144, 128 + n / 4096 % 64, 128 + n / 64 % 64, 128 + n % 64]
     simp only [List.map_cons, List.map_nil, List.length_cons, List.length_nil, Nat.zero_add] at K
     have B := Lib.hid (behind_any n h0 (by omega))
     have B1 := Lib.hid (behind_any (n / 64) (by omega) (by omega))
     have B2 := Lib.hid (behind_any (n / 4096) (by omega) (by omega))
     clear HE
     go_enter Try.func115, Try.ntmps115
     go_wp2_with fail
     refine (R'.out _).mono ?_
     rintro e w1 ⟨rfl, rfl⟩
     go_wp2_with fail
     refine (B2.out _).mono ?_
     rintro e w1 ⟨rfl, rfl⟩
     go_wp2_with fail
     refine (B1.out _).mono ?_
     rintro e w1 ⟨rfl, rfl⟩
     go_wp2_with fail
     refine (B.out _).mono ?_
     rintro e w1 ⟨rfl, rfl⟩
     go_wp2_with fail
     go_ret2
     exact ⟨ret_tup H.out.symm, by go_grown⟩
end Go.Proofs.Ytonknapfndaalaa

namespace Go.Proofs.Ytonknapfndaalaa
set_option linter.unusedVariables false
set_option maxRecDepth 1000000
open Go.RowKit
def dgv (d : Int) : Int := if d < 10 then 48 + d else 87 + d
/-- A byte as it is written. -/
def wrS (sp : ByteArray) (c : Int) : ByteArray :=
 if plainB sp c = true then strOfNums [c] else if c = 10 then ⟨#[92, 110]⟩ else if c = 9 then ⟨#[92, 116]⟩
 else if (c == 92 || isSp sp c) = true then strOfNums [92, c] else strOfNums [92, 120, dgv (c / 16), dgv (c % 16)]
theorem ret_str {a b : ByteArray} (h : a = b) : Ending.returned (.string a) = .returned (.string b) := by rw [h]
end Go.Proofs.Ytonknapfndaalaa

namespace Go.Proofs.Ytonknapfndaalaa
set_option linter.unusedVariables false
set_option maxRecDepth 1000000
open Go.RowKit
def dgs : ByteArray := ⟨#[48, 49, 50, 51, 52, 53, 54, 55, 56, 57, 97, 98, 99, 100, 101, 102]⟩
theorem bytes_eq {s t : ByteArray} (h : s.data.toList = t.data.toList) : s = t := by
 apply ByteArray.ext
 apply Array.ext'
 exact h
theorem esc_join (c : Int) : (⟨#[92]⟩ : ByteArray) ++ strOfNums [c] = strOfNums [92, c] := by
 apply bytes_eq
 simp [strOfNums, ByteArray.data_append]
theorem hex_join {c : Int} (h0 : 0 ≤ c) (h1 : c ≤ 255) : (⟨#[92, 120]⟩ : ByteArray) ++ dgs.extract (c / 16).toNat (c / 16 + 1).toNat ++ dgs.extract (c % 16).toNat (c % 16 + 1).toNat = strOfNums [92, 120, dgv (c / 16), dgv (c % 16)] := by
 apply bytes_eq
 exact byte_cases (P := fun c => ((⟨#[92, 120]⟩ : ByteArray) ++ dgs.extract (c / 16).toNat (c / 16 + 1).toNat ++ dgs.extract (c % 16).toNat (c % 16 + 1).toNat).data.toList = (strOfNums [92, 120, dgv (c / 16), dgv (c % 16)]).data.toList) (by decide +kernel) h0 h1
end Go.Proofs.Ytonknapfndaalaa
