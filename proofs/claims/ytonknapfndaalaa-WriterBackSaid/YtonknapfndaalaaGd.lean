/- Plain facts on signs and their bytes. No program in sight. The walks of layer 2's functions. A byte as it is written: the walks of written and letter. A byte as it is written: the walk of the reference's letter. -/
import Derived.Test.YtonknapfndaalaaGa
import Derived.PlainAid
import Derived.Laws.BytesArg
import Derived.Laws.BitsAllLaws
import Derived.Test.YtonknapfndaalaaChecked
import Derived.WalkLawsBesides
import Derived.Handy
import Derived.KernelRfl
import Derived.Test.YtonknapfndaalaaGb
import Derived.StillTailTactics
namespace Go.Proofs.Ytonknapfndaalaa
set_option linter.unusedVariables false
set_option maxRecDepth 1000000
open Go.RowKit Go.PlainAid
def rightB (n : Int) : Bool := decide (0 ≤ n) && decide (n ≤ 1114111) && (decide (n < 55296) || decide (57343 < n))
theorem rightB_iff (n : Int) : rightB n = true ↔ 0 ≤ n ∧ n ≤ 1114111 ∧ (n < 55296 ∨ 57343 < n) := by unfold rightB; simp [and_assoc]
/-- A sign's bytes. -/
def encL (n : Int) : List Int :=
 if n < 128 then [n] else if n < 2048 then [192 + n / 64, 128 + n % 64]
 else if n < 65536 then [224 + n / 4096, 128 + n / 64 % 64, 128 + n % 64] else [240 + n / 262144, 128 + n / 4096 % 64, 128 + n / 64 % 64, 128 + n % 64]
def encS (n : Int) : ByteArray := if rightB n = true then strOfNums (encL n) else ⟨#[]⟩
theorem or64 (a i : Nat) (x : Int) (h0 : 0 ≤ x) (hx : x < 2 ^ i) (hl : 2 ^ i * a + 2 ^ i ≤ 1000000000000) : bits .or .i64 ((2 ^ i * a : Nat) : Int) x = ((2 ^ i * a : Nat) : Int) + x := by
 obtain ⟨n, rfl⟩ := Int.eq_ofNat_of_zero_le h0
 have hn : n < 2 ^ i := by exact_mod_cast hx
 show IntKind.i64.wrap ((BitVec.ofInt 64 ((2 ^ i * a : Nat) : Int) ||| BitVec.ofInt 64 (n : Int)).toNat : Int) = _
 generalize hp : 2 ^ i = p at *
 rw [BitVec.toNat_or, ofInt_u64 _ (by omega), ofInt_u64 _ (by omega), ← hp, ← Nat.two_pow_add_eq_or_of_lt (by omega) a, hp, IntKind.wrap_i64]
 omega
theorem or64_192 (x : Int) (h0 : 0 ≤ x) (hx : x < 64) : bits .or .i64 192 x = 192 + x := or64 3 6 x h0 hx (by decide)
theorem or64_224 (x : Int) (h0 : 0 ≤ x) (hx : x < 32) : bits .or .i64 224 x = 224 + x := or64 7 5 x h0 hx (by decide)
theorem or64_240 (x : Int) (h0 : 0 ≤ x) (hx : x < 16) : bits .or .i64 240 x = 240 + x := or64 15 4 x h0 hx (by decide)
theorem or64_128 (x : Int) (h0 : 0 ≤ x) (hx : x < 64) : bits .or .i64 128 x = 128 + x := or64 2 6 x h0 hx (by decide)
theorem and_low (k n : Nat) (hk : k ≤ 30) (hn : n < 9223372036854775808) : bits .and .i64 (n : Int) ((2 ^ k - 1 : Nat) : Int) = ((n % 2 ^ k : Nat) : Int) := by
 have h2 : 2 ^ k ≤ 2 ^ 30 := Nat.pow_le_pow_right (by decide) hk
 have h3 : n % 2 ^ k ≤ n := Nat.mod_le _ _
 show IntKind.i64.wrap ((BitVec.ofInt 64 (n : Int) &&& BitVec.ofInt 64 ((2 ^ k - 1 : Nat) : Int)).toNat : Int) = _
 rw [BitVec.toNat_and, ofInt_u64 n (by omega), ofInt_u64 _ (by omega), Nat.and_two_pow_sub_one_eq_mod, IntKind.wrap_i64]
 omega
theorem and63 (n : Int) (h0 : 0 ≤ n) (h1 : n ≤ 9223372036854775807) : bits .and .i64 n 63 = n % 64 := by
 obtain ⟨x, rfl⟩ := Int.eq_ofNat_of_zero_le h0
 exact and_low 6 x (by decide) (by omega)
theorem u8_low (k : Nat) (hk : k ≤ 8) (b : Nat) (hb : b < 256) : bits .and .u8 (b : Int) ((2 ^ k - 1 : Nat) : Int) = ((b % 2 ^ k : Nat) : Int) := by
 have h2 : 2 ^ k ≤ 2 ^ 8 := Nat.pow_le_pow_right (by decide) hk
 rw [u8_and_nat b (2 ^ k - 1) hb (by omega), Nat.and_two_pow_sub_one_eq_mod]
theorem u8_15 (b : Int) (h0 : 0 ≤ b) (h1 : b ≤ 255) : bits .and .u8 b 15 = b % 16 := by
 obtain ⟨n, rfl⟩ := Int.eq_ofNat_of_zero_le h0
 exact u8_low 4 (by decide) n (by omega)
theorem encL_len (n : Int) : (encL n).length = if n < 128 then 1 else if n < 2048 then 2 else if n < 65536 then 3 else 4 := by
 unfold encL; split
 ·
  rfl
 ·
  split
  ·
   rfl
  ·
   split <;> rfl
end Go.Proofs.Ytonknapfndaalaa

namespace Go.Proofs.Ytonknapfndaalaa
set_option linter.unusedVariables false
set_option maxRecDepth 1000000
open Go.RowKit Go.Sort Go.PlainAid
/-- Bytes that the call has laid itself, as a string. -/
theorem conv_lit (xs : List Int) (w : World) : (convert 65 9 (.slice (some ⟨w.heap.size, 0, none⟩) xs.length xs.length)).run Try.prog (w.alloc (.cells (xs.map (Value.int .u8)).toArray 5)) = .ok (.string (strOfNums xs)) (w.alloc (.cells (xs.map (Value.int .u8)).toArray 5)) := by
 refine run_convert_bytes_arg _ 65 5 Try.underlying65 Try.underlying5 w.heap.size 0 xs.length xs.length xs rfl (fun i hi => ?_) 9 Try.underlying9
 rw [Nat.zero_add, (Own.fresh w 5 (xs.map (Value.int .u8))).cell i]
 simp [List.getElem?_eq_getElem hi]
theorem ret_tup {a b : ByteArray} {x : Bool} (h : a = b) : Ending.returned (.tuple #[.string a, .bool x]) = .returned (.tuple #[.string b, .bool x]) := by rw [h]
end Go.Proofs.Ytonknapfndaalaa

namespace Go.Proofs.Ytonknapfndaalaa
set_option linter.unusedVariables false
set_option maxRecDepth 1000000
open Go.RowKit
def dgv (d : Int) : Int := if d < 10 then 48 + d else 87 + d
/-- A byte as it is written. -/
def wrS (sp : ByteArray) (c : Int) : ByteArray :=
 if plainB sp c = true then strOfNums [c] else if c = 10 then ⟨#[92, 110]⟩ else if c = 9 then ⟨#[92, 116]⟩
 else if (c == 92 || isSp sp c) = true then strOfNums [92, c] else strOfNums [92, 120, dgv (c / 16), dgv (c % 16)]
theorem dg_at (d : Int) (h0 : 0 ≤ d) (h1 : d < 16) (hp : d.toNat < (⟨#[48, 49, 50, 51, 52, 53, 54, 55, 56, 57, 97, 98, 99, 100, 101, 102]⟩ : ByteArray).size) :
  (((⟨#[48, 49, 50, 51, 52, 53, 54, 55, 56, 57, 97, 98, 99, 100, 101, 102]⟩ : ByteArray)[d.toNat]'hp).toNat : Int) = dgv d := by
 have key : ∀ x : Fin 16, ∀ hx : x.val < (⟨#[48, 49, 50, 51, 52, 53, 54, 55, 56, 57, 97, 98, 99, 100, 101, 102]⟩ : ByteArray).size, (((⟨#[48, 49, 50, 51, 52, 53, 54, 55, 56, 57, 97, 98, 99, 100, 101, 102]⟩ : ByteArray)[x.val]'hx).toNat : Int) = dgv (x.val : Int) := by decide +kernel
 have h := key ⟨d.toNat, by omega⟩ hp
 rw [show ((d.toNat : Nat) : Int) = d by omega] at h
 exact h
theorem ret_str {a b : ByteArray} (h : a = b) : Ending.returned (.string a) = .returned (.string b) := by rw [h]
set_option maxHeartbeats 1600000 in
theorem written_any (sp : ByteArray) (c : Int) (hc0 : 0 ≤ c) (hc1 : c ≤ 255) (w : World) : Calls Try.prog 34 #[.int .u8 c, .string sp] w fun e w' => e = .returned (.string (wrS sp c)) ∧ Below w.heap.size w w' := by
 have HS := Lib.hid (show wrS sp c = (if plainB sp c = true then strOfNums [c] else if c = 10 then ⟨#[92, 110]⟩ else if c = 9 then ⟨#[92, 116]⟩
  else if (c == 92 || isSp sp c) = true then strOfNums [92, c] else strOfNums [92, 120, dgv (c / 16), dgv (c % 16)]) from rfl)
 have HP := Lib.hid (fun W => plain_any sp c W)
 obtain ⟨bp, hbp⟩ : ∃ bp, plainB sp c = bp := ⟨_, rfl⟩
 rw [hbp] at HP HS
 clear hbp
 cases bp
 ·
  by_cases h1 : c = 10
  ·
   subst h1
   go_enter Try.func34, Try.ntmps34
   go_wp2_with fail
   refine (HP.out _).mono ?_
   rintro e w1 ⟨rfl, rfl⟩
   go_wp2
   go_ret
   exact ⟨ret_str (by rw [HS.out]; rfl), Below.refl _ _⟩
  ·
   have e1 : (c == 10) = false := beq_eq_false_iff_ne.2 h1
   by_cases h2 : c = 9
   ·
    subst h2
    go_enter Try.func34, Try.ntmps34
    go_wp2_with fail
    refine (HP.out _).mono ?_
    rintro e w1 ⟨rfl, rfl⟩
    go_wp2
    go_ret
    exact ⟨ret_str (by rw [HS.out]; rfl), Below.refl _ _⟩
   ·
    have e2 : (c == 9) = false := beq_eq_false_iff_ne.2 h2
    obtain ⟨bq, hbq⟩ : ∃ bq, (c == 92 || isSp sp c) = bq := ⟨_, rfl⟩
    have HQ := Lib.hid hbq
    clear hbq
    have HI := Lib.hid (show isSp sp c = decide (0 ≤ Lib.indexByte sp.data.toList c.toNat.toUInt8) from rfl)
    cases bq
    ·
     have hq := HQ.out
     rw [Bool.or_eq_false_iff] at hq
     obtain ⟨e3, e4⟩ := hq
     have H4 := Lib.hid e4
     clear e4
     go_enter Try.func34, Try.ntmps34
     go_wp2_with fail
     refine (HP.out _).mono ?_
     rintro e w1 ⟨rfl, rfl⟩
     go_wp2_with fail
     refine (Try.strings_IndexByte sp c _).mono ?_
     rintro e w' ⟨rfl, rfl⟩
     have h5 : Lib.indexByte sp.data.toList c.toNat.toUInt8 < 0 := by have h := H4.out; rw [HI.out, decide_eq_false_iff_not] at h; omega
     generalize Lib.indexByte sp.data.toList c.toNat.toUInt8 = x at *
     have ea := u8_15 c hc0 hc1
     have hlt1 : c / 16 < 16 := by omega
     have hlt0 : 0 ≤ c / 16 := by omega
     have hlt3 : c % 16 < 16 := by omega
     have hlt2 : 0 ≤ c % 16 := by omega
     have d1 := dg_at (c / 16) hlt0 hlt1 (by show (c / 16).toNat < 16; omega)
     have d2 := dg_at (c % 16) hlt2 hlt3 (by show (c % 16).toNat < 16; omega)
     have HR := Lib.hid (show wrS sp c = strOfNums [92, 120, dgv (c / 16), dgv (c % 16)] by rw [HS.out, if_neg (by decide), if_neg h1, if_neg h2, HQ.out]; rfl)
     have K := conv_lit [92, 120, dgv (c / 16), dgv (c % 16)]
     simp only [List.map_cons, List.map_nil, List.length_cons, List.length_nil, Nat.zero_add, Nat.reduceAdd] at K
     have K2 : ∀ w : World, (convert 65 9 (.slice (some ⟨w.heap.size, 0, none⟩) 4 4)).run Try.prog ((w.alloc (.cells #[.int .u8 92, .int .u8 120, .int .u8 (dgv (c / 16)), .int .u8 (dgv (c % 16))] 5)).drew) = .ok (.string (strOfNums [92, 120, dgv (c / 16), dgv (c % 16)])) ((w.alloc (.cells #[.int .u8 92, .int .u8 120, .int .u8 (dgv (c / 16)), .int .u8 (dgv (c % 16))] 5)).drew) := fun w => K w.drew
     clear HS HQ HI H4 HP K
     go_wp2_with fail
     go_still_tail 6, (by kernel_rfl)
     generalize dgv (c / 16) = y1 at *
     generalize dgv (c % 16) = y2 at *
     clear d1 d2
     go_wp2
     go_ret
     exact ⟨ret_str HR.out.symm, ((Below.refl _ _).alloc (Nat.le_refl _) _).drew⟩
    ·
     have HR := Lib.hid (show wrS sp c = strOfNums [92, c] by rw [HS.out, if_neg (by decide), if_neg h1, if_neg h2, HQ.out]; rfl)
     have K := conv_lit [92, c]
     simp only [List.map_cons, List.map_nil, List.length_cons, List.length_nil, Nat.zero_add, Nat.reduceAdd] at K
     clear HS
     obtain ⟨b3, h3⟩ : ∃ b3, (c == 92) = b3 := ⟨_, rfl⟩
     cases b3
     ·
      have H5 := Lib.hid (show 0 ≤ Lib.indexByte sp.data.toList c.toNat.toUInt8 from by have h := HQ.out; rw [h3, HI.out] at h; simpa using h)
      clear HQ HI
      go_enter Try.func34, Try.ntmps34
      go_wp2_with fail
      refine (HP.out _).mono ?_
      rintro e w1 ⟨rfl, rfl⟩
      go_wp2_with fail
      refine (Try.strings_IndexByte sp c _).mono ?_
      rintro e w' ⟨rfl, rfl⟩
      have h5 := H5.out
      generalize Lib.indexByte sp.data.toList c.toNat.toUInt8 = x at *
      go_wp2
      go_ret
      exact ⟨ret_str HR.out.symm, by go_grown⟩
     ·
      clear HQ HI
      go_enter Try.func34, Try.ntmps34
      go_wp2_with fail
      refine (HP.out _).mono ?_
      rintro e w1 ⟨rfl, rfl⟩
      go_wp2
      go_ret
      exact ⟨ret_str HR.out.symm, by go_grown⟩
 ·
  have HR := Lib.hid (show wrS sp c = strOfNums [c] by rw [HS.out, if_pos rfl])
  have K := conv_lit [c]
  simp only [List.map_cons, List.map_nil, List.length_cons, List.length_nil, Nat.zero_add] at K
  clear HS
  go_enter Try.func34, Try.ntmps34
  go_wp2_with fail
  refine (HP.out _).mono ?_
  rintro e w1 ⟨rfl, rfl⟩
  go_wp2
  go_ret
  exact ⟨ret_str HR.out.symm, by go_grown⟩
end Go.Proofs.Ytonknapfndaalaa

namespace Go.Proofs.Ytonknapfndaalaa
set_option linter.unusedVariables false
set_option maxRecDepth 1000000
open Go.RowKit
theorem bytes_eq {s t : ByteArray} (h : s.data.toList = t.data.toList) : s = t := by
 apply ByteArray.ext
 apply Array.ext'
 exact h
end Go.Proofs.Ytonknapfndaalaa
