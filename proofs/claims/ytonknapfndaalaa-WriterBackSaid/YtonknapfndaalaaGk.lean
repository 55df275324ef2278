/- Letters, blanks, signs: what they are; the walks of the small functions. How long a name is, where a line ends, where blanks end, of the program and of the reference, walked. Where blanks and notes end: the walks of Skip, of the program's and the reference's. Signs: the walks of the program's signLength and the reference's sign. The set that stands at a place: the walk of the program's ReadClass. A token: what it is; the walk of the program's read. The token that comes: what it is; the walk of the program's Next. -/
import Derived.Test.YtonknapfndaalaaGj
import Derived.Laws.Tables
namespace Go.Proofs.Ytonknapfndaalaa
set_option linter.unusedVariables false
set_option maxRecDepth 1000000
open Go.RowKit
def letB (c : Int) : Bool := (decide (97 ≤ c) && decide (c ≤ 122)) || (decide (65 ≤ c) && decide (c ≤ 90))
def innB (c : Int) : Bool := letB c || (decide (48 ≤ c) && decide (c ≤ 57)) || c == 95
/-- How many bytes from k on have P, f at most. -/
def runB (P : Int → Bool) (s : ByteArray) : Nat → Nat → Nat
 | 0, _ => 0
 | f + 1, k => if k < s.size ∧ P (byt s k) = true then 1 + runB P s f (k + 1) else 0
theorem runB_is {P : Int → Bool} {s : ByteArray} : ∀ (n f k : Nat), n ≤ f → (∀ j, j < n → k + j < s.size ∧ P (byt s (k + j)) = true) → (n < f → ¬ (k + n < s.size ∧ P (byt s (k + n)) = true)) → runB P s f k = n
 | 0, f, k, h1, h2, h3 => by
  cases f with
  | zero => rfl
  | succ f => unfold runB; rw [if_neg (show ¬ (k < s.size ∧ P (byt s k) = true) from h3 (by omega))]
 | n + 1, f, k, h1, h2, h3 => by
  obtain ⟨g, rfl⟩ : ∃ g, f = g + 1 := ⟨f - 1, by omega⟩
  unfold runB
  rw [if_pos (show k < s.size ∧ P (byt s k) = true from h2 0 (by omega)), runB_is n g (k + 1) (by omega) (fun j hj => by have := h2 (j + 1) (by omega); rw [show k + 1 + j = k + (j + 1) by omega]; exact this)
   (fun hn => by have := h3 (by omega); rw [show k + 1 + n = k + (n + 1) by omega]; exact this)]
  omega
theorem runB_all {P : Int → Bool} {s : ByteArray} : ∀ (f k j : Nat), j < runB P s f k → k + j < s.size ∧ P (byt s (k + j)) = true
 | 0, k, j, h => by unfold runB at h; omega
 | f + 1, k, j, h => by
  unfold runB at h
  split at h
  ·
   rename_i g
   cases j with
   | zero => exact g
   | succ j => have := runB_all (P := P) (s := s) f (k + 1) j (by omega); rw [show k + (j + 1) = k + 1 + j by omega]; exact this
  ·
   omega
/-- How long the name is. -/
def nmO (s : ByteArray) (k : Nat) : Nat := runB innB s s.size k
/-- How many bytes stand ahead of the line's end. -/
def ntO (s : ByteArray) (k : Nat) : Nat := runB (fun c => c != 10) s s.size k
def blkB (c : Int) : Bool := c == 32 || c == 9 || c == 10
/-- The place behind blanks and notes. -/
def skF (s : ByteArray) : Nat → Nat → Nat
 | 0, k => k
 | f + 1, k => if k < s.size then (if blkB (byt s k) = true then skF s f (k + 1) else if byt s k = 35 then skF s f (k + ntO s k) else k) else k
def skO (s : ByteArray) (k : Nat) : Nat := skF s (s.size + 1) k
theorem skF_out {s : ByteArray} {f k : Nat} (h : ¬ k < s.size) : skF s f k = k := by
 cases f
 ·
  rfl
 ·
  unfold skF; rw [if_neg h]
theorem skF_blank {s : ByteArray} {f k : Nat} (hf : s.size < f + k) (hk : k < s.size) (h : blkB (byt s k) = true) : skF s f k = skF s (f - 1) (k + 1) := by
 obtain ⟨g, rfl⟩ : ∃ g, f = g + 1 := ⟨f - 1, by omega⟩
 rw [skF.eq_2, if_pos hk, if_pos h]; rfl
theorem skF_note {s : ByteArray} {f k : Nat} (hf : s.size < f + k) (hk : k < s.size) (h : byt s k = 35) : skF s f k = skF s (f - 1) (k + ntO s k) := by
 obtain ⟨g, rfl⟩ : ∃ g, f = g + 1 := ⟨f - 1, by omega⟩
 rw [skF.eq_2, if_pos hk, if_neg (by rw [h]; decide), if_pos h]; rfl
theorem skF_stop {s : ByteArray} {f k : Nat} (h : blkB (byt s k) = false) (h2 : byt s k ≠ 35) : skF s f k = k := by
 cases f
 ·
  rfl
 ·
  unfold skF
  split
  ·
   rw [if_neg (by rw [h]; decide)]; try rw [if_neg h2]
  ·
   rfl
theorem ntO_pos {s : ByteArray} {k : Nat} (hk : k < s.size) (h : byt s k = 35) : 1 ≤ ntO s k := by
 unfold ntO
 obtain ⟨g, hg⟩ : ∃ g, s.size = g + 1 := ⟨s.size - 1, by omega⟩
 rw [show runB (fun c => c != 10) s s.size k = runB (fun c => c != 10) s (g + 1) k by rw [hg]]
 unfold runB
 rw [if_pos ⟨hk, by rw [h]; rfl⟩]; omega
theorem nmO_le {s : ByteArray} {k : Nat} (hk : k ≤ s.size) : k + nmO s k ≤ s.size := by
 unfold nmO
 by_cases h : runB innB s s.size k = 0
 ·
  omega
 ·
  have := (runB_all (P := innB) (s := s) s.size k (runB innB s s.size k - 1) (by omega)).1; omega
/-- Is it a sign of one byte? -/
def sgB (c : Int) : Bool := c == 59 || c == 61 || c == 47 || c == 38 || c == 33 || c == 126 || c == 42 || c == 43 || c == 63 || c == 46 || c == 40 || c == 41
/-- How many bytes the sign has. -/
def sgO (s : ByteArray) (k : Nat) : Nat :=
 if byt s k = 58 then (if standB s ((k + 1 : Nat) : Int) 58 = true then 2 else 1) else if sgB (byt s k) = true then 1 else 0
set_option maxHeartbeats 800000 in
theorem rlet_any (c : Int) (w : World) : Calls Try.prog 40 #[.int .u8 c] w fun e w' => e = .returned (.bool (letB c)) ∧ w' = w := by
 have HS := Lib.hid (show letB c = ((decide (97 ≤ c) && decide (c ≤ 122)) || (decide (65 ≤ c) && decide (c ≤ 90))) from rfl)
 by_cases g0 : 97 ≤ c <;> by_cases g1 : c ≤ 122 <;> by_cases g2 : 65 ≤ c <;> by_cases g3 : c ≤ 90
 all_goals first
  | (exfalso; omega)
  | (go_enter Try.func40, Try.ntmps40
     go_wp2
     go_ret
     exact ⟨ret_bool (by rw [HS.out]; simp <;> omega), rfl⟩)
set_option maxHeartbeats 800000 in
theorem inn_any (c : Int) (w : World) : Calls Try.prog 41 #[.int .u8 c] w fun e w' => e = .returned (.bool (innB c)) ∧ w' = w := by
 have HS := Lib.hid (show innB c = (letB c || (decide (48 ≤ c) && decide (c ≤ 57)) || c == 95) from rfl)
 have HL := Lib.hid (fun W => rlet_any c W)
 obtain ⟨b, hb⟩ : ∃ b, letB c = b := ⟨_, rfl⟩
 rw [hb] at HS HL
 clear hb
 obtain ⟨q, hq⟩ : ∃ q, (c == 95) = q := ⟨_, rfl⟩
 have HQ := Lib.hid hq
 by_cases g0 : 48 ≤ c <;> by_cases g1 : c ≤ 57 <;> cases b <;> cases q
 all_goals first
  | (exfalso; omega)
  | (go_enter Try.func41, Try.ntmps41
     go_wp2_with fail
     refine (HL.out _).mono ?_
     rintro e w1 ⟨rfl, rfl⟩
     go_wp2
     go_ret
     exact ⟨ret_bool (by rw [HS.out, HQ.out]; simp <;> omega), rfl⟩)
end Go.Proofs.Ytonknapfndaalaa

namespace Go.Proofs.Ytonknapfndaalaa
set_option linter.unusedVariables false
set_option maxRecDepth 1000000
open Go.RowKit
theorem nt_is {s : ByteArray} {p n : Nat} (hp : p ≤ s.size) (hn : p + n ≤ s.size) (h : ∀ j, j < n → byt s (p + j) ≠ 10) (h2 : p + n < s.size → byt s (p + n) = 10) : ntO s p = n := by
 refine runB_is n s.size p (by omega) (fun j hj => ⟨by omega, by simp [h j hj]⟩) (fun hlt => ?_)
 rintro ⟨g1, g2⟩
 rw [h2 g1] at g2; revert g2; decide
end Go.Proofs.Ytonknapfndaalaa

namespace Go.Proofs.Ytonknapfndaalaa
set_option linter.unusedVariables false
set_option maxRecDepth 1000000
open Go.RowKit
set_option maxHeartbeats 1600000 in
set_option maxRecDepth 100000 in
theorem rskip_any (s : ByteArray) (hs : s.size ≤ 1000000) (a : Nat) (ha : (a : Int) ≤ 9223372036854775807) (w : World) :
  Calls Try.prog 39 #[.string s, .int .i64 (a : Int)] w fun e w' => e = .returned (.int .i64 (skO s a : Int)) ∧ w' = w := by
 have HT0 := Lib.hid (show skF s (s.size + 1) a = skO s a ∧ s.size < s.size + 1 + a from ⟨rfl, by omega⟩)
 obtain ⟨o, ho⟩ : ∃ o, skO s a = o := ⟨_, rfl⟩
 rw [ho] at HT0 ⊢
 clear ho
 go_enter Try.func39, Try.ntmps39
 go_wp2
 go_loop [1] (fun i => ∃ k f : Nat, i = .int .i64 (k : Int) ∧ (k : Int) ≤ 9223372036854775807 ∧ Hid (skF s f k = o ∧ s.size < f + k)) (fun i => s.size - (intOf i).toNat)
 case atStart => exact ⟨a, s.size + 1, rfl, ha, HT0⟩
 case round =>
  obtain ⟨k, f, rfl, hk, HT⟩ := hrel
  by_cases hlt : (k : Int) < s.size
  ·
   have hk1 : k < s.size := by omega
   obtain ⟨c, hc⟩ : ∃ c : Int, (s[k].toNat : Int) = c := ⟨_, rfl⟩
   have hbc : byt s k = c := by rw [byt_get hk1, hc]
   by_cases h32 : c = 32
   ·
    subst h32
    have HT2 := Lib.hid (show skF s (f - 1) (k + 1) = o ∧ s.size < (f - 1) + (k + 1) from ⟨by rw [← HT.out.1]; exact (skF_blank HT.out.2 hk1 (by rw [hbc]; rfl)).symm, by have := HT.out.2; omega⟩)
    clear HT hbc
    go_wp2
    go_round
    case rel => exact ⟨k + 1, f - 1, by go_num, by omega, HT2⟩
    case measure => simp [intOf]; omega
   have e32 : (c == 32) = false := beq_eq_false_iff_ne.2 h32
   by_cases h9 : c = 9
   ·
    subst h9
    have HT2 := Lib.hid (show skF s (f - 1) (k + 1) = o ∧ s.size < (f - 1) + (k + 1) from ⟨by rw [← HT.out.1]; exact (skF_blank HT.out.2 hk1 (by rw [hbc]; rfl)).symm, by have := HT.out.2; omega⟩)
    clear HT hbc
    go_wp2
    go_round
    case rel => exact ⟨k + 1, f - 1, by go_num, by omega, HT2⟩
    case measure => simp [intOf]; omega
   have e9 : (c == 9) = false := beq_eq_false_iff_ne.2 h9
   by_cases h10 : c = 10
   ·
    subst h10
    have HT2 := Lib.hid (show skF s (f - 1) (k + 1) = o ∧ s.size < (f - 1) + (k + 1) from ⟨by rw [← HT.out.1]; exact (skF_blank HT.out.2 hk1 (by rw [hbc]; rfl)).symm, by have := HT.out.2; omega⟩)
    clear HT hbc
    go_wp2
    go_round
    case rel => exact ⟨k + 1, f - 1, by go_num, by omega, HT2⟩
    case measure => simp [intOf]; omega
   have e10 : (c == 10) = false := beq_eq_false_iff_ne.2 h10
   by_cases h35 : c = 35
   ·
    subst h35
    have hn1 := ntO_pos hk1 hbc
    have HT2 := Lib.hid (show skF s (f - 1) (k + ntO s k) = o ∧ s.size < (f - 1) + (k + ntO s k) from ⟨by rw [← HT.out.1]; exact (skF_note HT.out.2 hk1 hbc).symm, by have := HT.out.2; omega⟩)
    clear HT
    go_wp2
    go_loop [1] (fun i => ∃ j : Nat, i = .int .i64 ((k + j : Nat) : Int) ∧ k + j ≤ s.size ∧ Hid (∀ t, t < j → byt s (k + t) ≠ 10)) (fun i => s.size - (intOf i).toNat)
    case atStart => exact ⟨0, rfl, by omega, Lib.hid (fun t h => by omega)⟩
    case round =>
     obtain ⟨j, rfl, hj, HA⟩ := hrel
     by_cases hlt2 : ((k + j : Nat) : Int) < s.size
     ·
      have hj1 : k + j < s.size := by omega
      obtain ⟨d, hd⟩ : ∃ d : Int, (s[k + j].toNat : Int) = d := ⟨_, rfl⟩
      have hbd : byt s (k + j) = d := by rw [byt_get hj1, hd]
      by_cases h10 : d = 10
      ·
       subst h10
       have HN := Lib.hid (show ntO s k = j from nt_is (by omega) hj HA.out (fun _ => hbd))
       clear hbd HA
       go_wp2
       go_round
       case rel => exact ⟨k + j, f - 1, rfl, by omega, by rw [← HN.out]; exact HT2⟩
       case measure => have := HN.out; simp [intOf]; omega
      ·
       have e10' : (d != 10) = true := by simp [h10]
       have e10'' : (d == 10) = false := beq_eq_false_iff_ne.2 h10
       have HA1 : Hid (∀ t, t < j + 1 → byt s (k + t) ≠ 10) := Lib.hid (fun t ht => by
        by_cases e : t = j
        ·
         rw [e, hbd]; exact h10
        ·
         exact HA.out t (by omega))
       clear hbd HA
       go_wp2
       go_round
       case rel => exact ⟨j + 1, by go_num, by omega, HA1⟩
       case measure => simp [intOf]; omega
     ·
      have HN := Lib.hid (show ntO s k = j from nt_is (by omega) hj HA.out (fun h => by omega))
      have hlt3 : decide (((k + j : Nat) : Int) < (s.size : Int)) = false := decide_eq_false hlt2
      clear HA
      go_wp2
      go_round
      case rel => exact ⟨k + j, f - 1, rfl, by omega, by rw [← HN.out]; exact HT2⟩
      case measure => have := HN.out; simp [intOf]; omega
   have e35 : (c == 35) = false := beq_eq_false_iff_ne.2 h35
   have HE := Lib.hid (show o = k by rw [← HT.out.1]; exact skF_stop (by rw [hbc]; unfold blkB; rw [e32, e9, e10]; rfl) (by rw [hbc]; exact h35))
   clear HT hbc
   go_wp2
   go_ret
   exact ⟨ret_int (by rw [HE.out]), rfl⟩
  ·
   have HE := Lib.hid (show o = k by rw [← HT.out.1]; exact skF_out (by omega))
   clear HT
   go_wp2
   go_ret
   exact ⟨ret_int (by rw [HE.out]), rfl⟩
end Go.Proofs.Ytonknapfndaalaa

namespace Go.Proofs.Ytonknapfndaalaa
set_option linter.unusedVariables false
set_option maxRecDepth 1000000
open Go.RowKit
theorem byt_head {s : ByteArray} {p : Nat} (hp : p < s.size) : ∃ x r, s.data.toList.drop p = x :: r ∧ (x.toNat : Int) = byt s p ∧ r = s.data.toList.drop (p + 1) := by
 have h' : p < s.data.toList.length := by simpa using hp
 refine ⟨s.data.toList[p], s.data.toList.drop (p + 1), List.drop_eq_getElem_cons h', ?_, rfl⟩
 unfold byt; rw [List.getD_eq_getElem?_getD, List.getElem?_eq_getElem h']; rfl
theorem u8_is {x : UInt8} {n : Nat} (hn : n < 256) (h : (x.toNat : Int) = n) : x = UInt8.ofNat n := by
 apply UInt8.toNat.inj; rw [UInt8.toNat_ofNat']; omega
theorem sgO_colon {s : ByteArray} {p : Nat} (h : byt s p = 58) : sgO s p = if standB s ((p + 1 : Nat) : Int) 58 = true then 2 else 1 := by unfold sgO; rw [if_pos h]
theorem sgO_one {s : ByteArray} {p : Nat} (h : byt s p ≠ 58) (h2 : sgB (byt s p) = true) : sgO s p = 1 := by unfold sgO; rw [if_neg h, if_pos h2]
theorem sgO_no {s : ByteArray} {p : Nat} (h : byt s p ≠ 58) (h2 : sgB (byt s p) = false) : sgO s p = 0 := by unfold sgO; rw [if_neg h, h2]; rfl
theorem sgO_le {s : ByteArray} {p : Nat} (h : p < s.size) : p + sgO s p ≤ s.size := by
 unfold sgO
 split
 ·
  split
  ·
   rename_i g; have := (stand_iff.1 g).1; omega
  ·
   omega
 ·
  split <;> omega
theorem cc_is {s : ByteArray} {p : Nat} (hp : p + 1 < s.size) : (s.extract p (p + 2)).toList = [(58 : UInt8), 58] ↔ byt s p = 58 ∧ byt s (p + 1) = 58 := by
 obtain ⟨x, r, e, hx, hr⟩ := byt_head (s := s) (p := p) (by omega)
 obtain ⟨y, r2, e2, hy, -⟩ := byt_head hp
 rw [ByteArray.toList_eq, ByteArray.data_extract]
 simp only [Array.toList_extract, List.extract_eq_take_drop]
 rw [e, show p + 2 - p = 2 by omega, hr, e2, ← hx, ← hy]
 simp only [List.take_succ_cons, List.take_zero, List.cons.injEq, and_true]
 constructor
 ·
  rintro ⟨rfl, rfl⟩; exact ⟨rfl, rfl⟩
 ·
  rintro ⟨h1, h2⟩; exact ⟨u8_is (n := 58) (by omega) h1, u8_is (n := 58) (by omega) h2⟩
theorem cc_text {s : ByteArray} {p : Nat} (hp : p + 1 < s.size) (h : byt s p = 58 ∧ byt s (p + 1) = 58) : s.extract p (p + 2) = (⟨#[58, 58]⟩ : ByteArray) := by
 apply bytes_eq
 have := (cc_is hp).2 h
 rw [ByteArray.toList_eq] at this; exact this
theorem ext_none (s : ByteArray) (p : Nat) : s.extract p (p + 0) = (⟨#[]⟩ : ByteArray) := by
 apply bytes_eq; rw [ByteArray.data_extract]; simp
set_option maxHeartbeats 6400000 in
theorem rsign5_any (s : ByteArray) (hs : s.size ≤ 1000000) (p : Nat) (hp : p < s.size) (w : World) :
  Calls Try.prog 44 #[.string s, .int .i64 (p : Int)] w fun e w' => e = .returned (.string (s.extract p (p + sgO s p))) ∧ w' = w := by
 obtain ⟨c, hc⟩ : ∃ c : Int, (s[p].toNat : Int) = c := ⟨_, rfl⟩
 have hbc : byt s p = c := by rw [byt_get hp, hc]
 have hx0 := ext_none s p
 by_cases h58 : c = 58
 ·
  subst h58
  have HE := Lib.hid (sgO_colon hbc)
  by_cases g : (p : Int) + 1 < s.size
  ·
   have g1 : p + 1 < s.size := by omega
   have hcc := cc_is g1
   have hct := cc_text g1
   have g2 : (p : Int) + 2 ≤ s.size := by omega
   by_cases h2 : byt s (p + 1) = 58
   ·
    have HT := Lib.hid (hct ⟨hbc, h2⟩)
    have HB := Lib.hid (show standB s ((p + 1 : Nat) : Int) 58 = true from stand_iff.2 ⟨g1, h2⟩)
    have e2 : ((s.extract p (p + 2)).toList == [(58 : UInt8), 58]) = true := by rw [beq_iff_eq]; exact hcc.2 ⟨hbc, h2⟩
    clear hcc hct hbc h2 hx0
    go_enter Try.func44, Try.ntmps44
    go_wp2
    go_ret
    exact ⟨ret_str (by rw [HE.out, HB.out]; exact HT.out.symm), rfl⟩
   ·
    have HB := Lib.hid (show standB s ((p + 1 : Nat) : Int) 58 = false from by rw [stand_in g1]; exact beq_eq_false_iff_ne.2 h2)
    have e2 : ((s.extract p (p + 2)).toList == [(58 : UInt8), 58]) = false := by rw [beq_eq_false_iff_ne]; exact fun q => h2 (hcc.1 q).2
    clear hcc hct hbc h2 hx0
    go_enter Try.func44, Try.ntmps44
    go_wp2
    go_ret
    exact ⟨ret_str (by rw [HE.out, HB.out]; rfl), rfl⟩
  ·
   have HB := Lib.hid (show standB s ((p + 1 : Nat) : Int) 58 = false from stand_out (by omega))
   have g2 : decide ((p : Int) + 1 < (s.size : Int)) = false := decide_eq_false g
   clear hbc hx0
   go_enter Try.func44, Try.ntmps44
   go_wp2
   go_ret
   exact ⟨ret_str (by rw [HE.out, HB.out]; rfl), rfl⟩
 have e58 : (c == 58) = false := beq_eq_false_iff_ne.2 h58
 have hsl : (p : Int) + 1 ≤ s.size := by omega
 have HX := Lib.hid hx0
 have HCC := Lib.hid (fun (g1 : p + 1 < s.size) => (show ((s.extract p (p + 2)).toList == [(58 : UInt8), 58]) = false from by rw [beq_eq_false_iff_ne]; exact fun q => h58 (by rw [← hbc]; exact ((cc_is g1).1 q).1)))
 clear hx0
 by_cases g : (p : Int) + 1 < s.size
 ·
  have e2 := HCC.out (by omega)
  have g2 : (p : Int) + 2 ≤ s.size := by omega
  clear HCC
  by_cases h59 : c = 59
  ·
   subst h59
   have HE := Lib.hid (sgO_one (s := s) (p := p) (by rw [hbc]; decide) (by rw [hbc]; decide))
   clear hbc
   go_enter Try.func44, Try.ntmps44
   go_wp2
   go_ret
   exact ⟨ret_str (by rw [HE.out]), rfl⟩
  have e59 : (c == 59) = false := beq_eq_false_iff_ne.2 h59
  by_cases h61 : c = 61
  ·
   subst h61
   have HE := Lib.hid (sgO_one (s := s) (p := p) (by rw [hbc]; decide) (by rw [hbc]; decide))
   clear hbc
   go_enter Try.func44, Try.ntmps44
   go_wp2
   go_ret
   exact ⟨ret_str (by rw [HE.out]), rfl⟩
  have e61 : (c == 61) = false := beq_eq_false_iff_ne.2 h61
  by_cases h47 : c = 47
  ·
   subst h47
   have HE := Lib.hid (sgO_one (s := s) (p := p) (by rw [hbc]; decide) (by rw [hbc]; decide))
   clear hbc
   go_enter Try.func44, Try.ntmps44
   go_wp2
   go_ret
   exact ⟨ret_str (by rw [HE.out]), rfl⟩
  have e47 : (c == 47) = false := beq_eq_false_iff_ne.2 h47
  by_cases h38 : c = 38
  ·
   subst h38
   have HE := Lib.hid (sgO_one (s := s) (p := p) (by rw [hbc]; decide) (by rw [hbc]; decide))
   clear hbc
   go_enter Try.func44, Try.ntmps44
   go_wp2
   go_ret
   exact ⟨ret_str (by rw [HE.out]), rfl⟩
  have e38 : (c == 38) = false := beq_eq_false_iff_ne.2 h38
  by_cases h33 : c = 33
  ·
   subst h33
   have HE := Lib.hid (sgO_one (s := s) (p := p) (by rw [hbc]; decide) (by rw [hbc]; decide))
   clear hbc
   go_enter Try.func44, Try.ntmps44
   go_wp2
   go_ret
   exact ⟨ret_str (by rw [HE.out]), rfl⟩
  have e33 : (c == 33) = false := beq_eq_false_iff_ne.2 h33
  by_cases h126 : c = 126
  ·
   subst h126
   have HE := Lib.hid (sgO_one (s := s) (p := p) (by rw [hbc]; decide) (by rw [hbc]; decide))
   clear hbc
   go_enter Try.func44, Try.ntmps44
   go_wp2
   go_ret
   exact ⟨ret_str (by rw [HE.out]), rfl⟩
  have e126 : (c == 126) = false := beq_eq_false_iff_ne.2 h126
  by_cases h42 : c = 42
  ·
   subst h42
   have HE := Lib.hid (sgO_one (s := s) (p := p) (by rw [hbc]; decide) (by rw [hbc]; decide))
   clear hbc
   go_enter Try.func44, Try.ntmps44
   go_wp2
   go_ret
   exact ⟨ret_str (by rw [HE.out]), rfl⟩
  have e42 : (c == 42) = false := beq_eq_false_iff_ne.2 h42
  by_cases h43 : c = 43
  ·
   subst h43
   have HE := Lib.hid (sgO_one (s := s) (p := p) (by rw [hbc]; decide) (by rw [hbc]; decide))
   clear hbc
   go_enter Try.func44, Try.ntmps44
   go_wp2
   go_ret
   exact ⟨ret_str (by rw [HE.out]), rfl⟩
  have e43 : (c == 43) = false := beq_eq_false_iff_ne.2 h43
  by_cases h63 : c = 63
  ·
   subst h63
   have HE := Lib.hid (sgO_one (s := s) (p := p) (by rw [hbc]; decide) (by rw [hbc]; decide))
   clear hbc
   go_enter Try.func44, Try.ntmps44
   go_wp2
   go_ret
   exact ⟨ret_str (by rw [HE.out]), rfl⟩
  have e63 : (c == 63) = false := beq_eq_false_iff_ne.2 h63
  by_cases h46 : c = 46
  ·
   subst h46
   have HE := Lib.hid (sgO_one (s := s) (p := p) (by rw [hbc]; decide) (by rw [hbc]; decide))
   clear hbc
   go_enter Try.func44, Try.ntmps44
   go_wp2
   go_ret
   exact ⟨ret_str (by rw [HE.out]), rfl⟩
  have e46 : (c == 46) = false := beq_eq_false_iff_ne.2 h46
  by_cases h40 : c = 40
  ·
   subst h40
   have HE := Lib.hid (sgO_one (s := s) (p := p) (by rw [hbc]; decide) (by rw [hbc]; decide))
   clear hbc
   go_enter Try.func44, Try.ntmps44
   go_wp2
   go_ret
   exact ⟨ret_str (by rw [HE.out]), rfl⟩
  have e40 : (c == 40) = false := beq_eq_false_iff_ne.2 h40
  by_cases h41 : c = 41
  ·
   subst h41
   have HE := Lib.hid (sgO_one (s := s) (p := p) (by rw [hbc]; decide) (by rw [hbc]; decide))
   clear hbc
   go_enter Try.func44, Try.ntmps44
   go_wp2
   go_ret
   exact ⟨ret_str (by rw [HE.out]), rfl⟩
  have e41 : (c == 41) = false := beq_eq_false_iff_ne.2 h41
  have HE := Lib.hid (sgO_no (s := s) (p := p) (by rw [hbc]; exact h58) (by rw [hbc]; unfold sgB; rw [e59, e61, e47, e38, e33, e126, e42, e43, e63, e46, e40, e41]; rfl))
  clear hbc
  go_enter Try.func44, Try.ntmps44
  go_wp2
  go_ret
  exact ⟨ret_str (by rw [HE.out]; exact HX.out.symm), rfl⟩
 ·
  have g2 : decide ((p : Int) + 1 < (s.size : Int)) = false := decide_eq_false g
  clear HCC
  by_cases h59 : c = 59
  ·
   subst h59
   have HE := Lib.hid (sgO_one (s := s) (p := p) (by rw [hbc]; decide) (by rw [hbc]; decide))
   clear hbc
   go_enter Try.func44, Try.ntmps44
   go_wp2
   go_ret
   exact ⟨ret_str (by rw [HE.out]), rfl⟩
  have e59 : (c == 59) = false := beq_eq_false_iff_ne.2 h59
  by_cases h61 : c = 61
  ·
   subst h61
   have HE := Lib.hid (sgO_one (s := s) (p := p) (by rw [hbc]; decide) (by rw [hbc]; decide))
   clear hbc
   go_enter Try.func44, Try.ntmps44
   go_wp2
   go_ret
   exact ⟨ret_str (by rw [HE.out]), rfl⟩
  have e61 : (c == 61) = false := beq_eq_false_iff_ne.2 h61
  by_cases h47 : c = 47
  ·
   subst h47
   have HE := Lib.hid (sgO_one (s := s) (p := p) (by rw [hbc]; decide) (by rw [hbc]; decide))
   clear hbc
   go_enter Try.func44, Try.ntmps44
   go_wp2
   go_ret
   exact ⟨ret_str (by rw [HE.out]), rfl⟩
  have e47 : (c == 47) = false := beq_eq_false_iff_ne.2 h47
  by_cases h38 : c = 38
  ·
   subst h38
   have HE := Lib.hid (sgO_one (s := s) (p := p) (by rw [hbc]; decide) (by rw [hbc]; decide))
   clear hbc
   go_enter Try.func44, Try.ntmps44
   go_wp2
   go_ret
   exact ⟨ret_str (by rw [HE.out]), rfl⟩
  have e38 : (c == 38) = false := beq_eq_false_iff_ne.2 h38
  by_cases h33 : c = 33
  ·
   subst h33
   have HE := Lib.hid (sgO_one (s := s) (p := p) (by rw [hbc]; decide) (by rw [hbc]; decide))
   clear hbc
   go_enter Try.func44, Try.ntmps44
   go_wp2
   go_ret
   exact ⟨ret_str (by rw [HE.out]), rfl⟩
  have e33 : (c == 33) = false := beq_eq_false_iff_ne.2 h33
  by_cases h126 : c = 126
  ·
   subst h126
   have HE := Lib.hid (sgO_one (s := s) (p := p) (by rw [hbc]; decide) (by rw [hbc]; decide))
   clear hbc
   go_enter Try.func44, Try.ntmps44
   go_wp2
   go_ret
   exact ⟨ret_str (by rw [HE.out]), rfl⟩
  have e126 : (c == 126) = false := beq_eq_false_iff_ne.2 h126
  by_cases h42 : c = 42
  ·
   subst h42
   have HE := Lib.hid (sgO_one (s := s) (p := p) (by rw [hbc]; decide) (by rw [hbc]; decide))
   clear hbc
   go_enter Try.func44, Try.ntmps44
   go_wp2
   go_ret
   exact ⟨ret_str (by rw [HE.out]), rfl⟩
  have e42 : (c == 42) = false := beq_eq_false_iff_ne.2 h42
  by_cases h43 : c = 43
  ·
   subst h43
   have HE := Lib.hid (sgO_one (s := s) (p := p) (by rw [hbc]; decide) (by rw [hbc]; decide))
   clear hbc
   go_enter Try.func44, Try.ntmps44
   go_wp2
   go_ret
   exact ⟨ret_str (by rw [HE.out]), rfl⟩
  have e43 : (c == 43) = false := beq_eq_false_iff_ne.2 h43
  by_cases h63 : c = 63
  ·
   subst h63
   have HE := Lib.hid (sgO_one (s := s) (p := p) (by rw [hbc]; decide) (by rw [hbc]; decide))
   clear hbc
   go_enter Try.func44, Try.ntmps44
   go_wp2
   go_ret
   exact ⟨ret_str (by rw [HE.out]), rfl⟩
  have e63 : (c == 63) = false := beq_eq_false_iff_ne.2 h63
  by_cases h46 : c = 46
  ·
   subst h46
   have HE := Lib.hid (sgO_one (s := s) (p := p) (by rw [hbc]; decide) (by rw [hbc]; decide))
   clear hbc
   go_enter Try.func44, Try.ntmps44
   go_wp2
   go_ret
   exact ⟨ret_str (by rw [HE.out]), rfl⟩
  have e46 : (c == 46) = false := beq_eq_false_iff_ne.2 h46
  by_cases h40 : c = 40
  ·
   subst h40
   have HE := Lib.hid (sgO_one (s := s) (p := p) (by rw [hbc]; decide) (by rw [hbc]; decide))
   clear hbc
   go_enter Try.func44, Try.ntmps44
   go_wp2
   go_ret
   exact ⟨ret_str (by rw [HE.out]), rfl⟩
  have e40 : (c == 40) = false := beq_eq_false_iff_ne.2 h40
  by_cases h41 : c = 41
  ·
   subst h41
   have HE := Lib.hid (sgO_one (s := s) (p := p) (by rw [hbc]; decide) (by rw [hbc]; decide))
   clear hbc
   go_enter Try.func44, Try.ntmps44
   go_wp2
   go_ret
   exact ⟨ret_str (by rw [HE.out]), rfl⟩
  have e41 : (c == 41) = false := beq_eq_false_iff_ne.2 h41
  have HE := Lib.hid (sgO_no (s := s) (p := p) (by rw [hbc]; exact h58) (by rw [hbc]; unfold sgB; rw [e59, e61, e47, e38, e33, e126, e42, e43, e63, e46, e40, e41]; rfl))
  clear hbc
  go_enter Try.func44, Try.ntmps44
  go_wp2
  go_ret
  exact ⟨ret_str (by rw [HE.out]; exact HX.out.symm), rfl⟩
end Go.Proofs.Ytonknapfndaalaa

namespace Go.Proofs.Ytonknapfndaalaa
set_option linter.unusedVariables false
set_option maxRecDepth 1000000
open Go.RowKit
end Go.Proofs.Ytonknapfndaalaa

namespace Go.Proofs.Ytonknapfndaalaa
set_option linter.unusedVariables false
set_option maxRecDepth 1000000
open Go.RowKit
theorem Own.seven {w : World} {g : Nat} {t : TypeId} {v0 v1 v2 v3 v4 v5 v6 : Value} (h : Own w g t [v0, v1, v2, v3, v4, v5, v6]) :
  w.cell? ⟨g, 0, none⟩ = some v0 ∧ w.cell? ⟨g, 1, none⟩ = some v1 ∧ w.cell? ⟨g, 2, none⟩ = some v2 ∧ w.cell? ⟨g, 3, none⟩ = some v3 ∧ w.cell? ⟨g, 4, none⟩ = some v4 ∧ w.cell? ⟨g, 5, none⟩ = some v5 ∧ w.cell? ⟨g, 6, none⟩ = some v6 :=
 ⟨h.cell 0, h.cell 1, h.cell 2, h.cell 3, h.cell 4, h.cell 5, h.cell 6⟩
theorem Own.seven2 {w : World} {g : Nat} {t : TypeId} {v0 v1 v2 v3 v4 v5 v6 : Value} (h : Own w g t [v0, v1, v2, v3, v4, v5, v6]) :
  w.cell? ⟨g, 0, none⟩ = some v0 ∧ w.cell? ⟨g, 1, none⟩ = some v1 ∧ w.cell? ⟨g, 2, none⟩ = some v2 ∧ w.cell? ⟨g, 3, none⟩ = some v3 ∧ w.cell? ⟨g, 4, none⟩ = some v4 ∧ w.cell? ⟨g, 5, none⟩ = some v5 ∧ w.cell? ⟨g, 6, none⟩ = some v6 ∧
  w.frozen? ⟨g, 0, none⟩ = false ∧ w.frozen? ⟨g, 1, none⟩ = false ∧ w.frozen? ⟨g, 2, none⟩ = false ∧ w.frozen? ⟨g, 3, none⟩ = false ∧ w.frozen? ⟨g, 4, none⟩ = false ∧ w.frozen? ⟨g, 5, none⟩ = false ∧ w.frozen? ⟨g, 6, none⟩ = false :=
 ⟨h.cell 0, h.cell 1, h.cell 2, h.cell 3, h.cell 4, h.cell 5, h.cell 6, h.thaw 0, h.thaw 1, h.thaw 2, h.thaw 3, h.thaw 4, h.thaw 5, h.thaw 6⟩
def set7t (w : World) (g : Nat) (u0 u1 u2 u3 u4 u5 u6 : Value) : World := ((((((w.setCell ⟨g, 0, none⟩ u0).setCell ⟨g, 1, none⟩ u1).setCell ⟨g, 2, none⟩ u2).setCell ⟨g, 3, none⟩ u3).setCell ⟨g, 4, none⟩ u4).setCell ⟨g, 5, none⟩ u5).setCell ⟨g, 6, none⟩ u6
theorem set7t_fold (w : World) (g : Nat) (u0 u1 u2 u3 u4 u5 u6 : Value) : ((((((w.setCell ⟨g, 0, none⟩ u0).setCell ⟨g, 1, none⟩ u1).setCell ⟨g, 2, none⟩ u2).setCell ⟨g, 3, none⟩ u3).setCell ⟨g, 4, none⟩ u4).setCell ⟨g, 5, none⟩ u5).setCell ⟨g, 6, none⟩ u6 = set7t w g u0 u1 u2 u3 u4 u5 u6 := rfl
theorem Own.put7 {w : World} {g : Nat} {t : TypeId} {v0 v1 v2 v3 v4 v5 v6 u0 u1 u2 u3 u4 u5 u6 : Value} (h : Own w g t [v0, v1, v2, v3, v4, v5, v6]) : Own (set7t w g u0 u1 u2 u3 u4 u5 u6) g t [u0, u1, u2, u3, u4, u5, u6] :=
 ((((((h.put 0 u0).put 1 u1).put 2 u2).put 3 u3).put 4 u4).put 5 u5).put 6 u6
theorem below_put7 {B g : Nat} {a w : World} (h : Below B a w) (hg : B ≤ g) (u0 u1 u2 u3 u4 u5 u6 : Value) : Below B a (set7t w g u0 u1 u2 u3 u4 u5 u6) :=
 ((((((h.setCell (p := ⟨g, 0, none⟩) hg u0).setCell (p := ⟨g, 1, none⟩) hg u1).setCell (p := ⟨g, 2, none⟩) hg u2).setCell (p := ⟨g, 3, none⟩) hg u3).setCell (p := ⟨g, 4, none⟩) hg u4).setCell (p := ⟨g, 5, none⟩) hg u5).setCell (p := ⟨g, 6, none⟩) hg u6
@[go_sem 2000] theorem tbuild2 (k : Int) (t : ByteArray) (w : World) : (Instr.build 48 #[(0, .int .i64 k), (1, .string t)]).run Try.prog w = .ok (.agg #[.int .i64 k, .string t, .int .u64 0, .int .u64 0, .int .u64 0, .int .u64 0, .int .i64 0]) w := run_build w _ _ _ (by kernel_rfl)
@[go_sem 2000] theorem tbuild3 (k a b c d : Int) (w : World) : (Instr.build 48 #[(0, .int .i64 k), (2, .agg #[.int .u64 a, .int .u64 b, .int .u64 c, .int .u64 d])]).run Try.prog w = .ok (.agg #[.int .i64 k, .string ⟨#[]⟩, .int .u64 a, .int .u64 b, .int .u64 c, .int .u64 d, .int .i64 0]) w := run_build w _ _ _ (by kernel_rfl)
@[go_sem 2000] theorem tbuild4 (n : Int) (w : World) : (Instr.build 48 #[(3, .int .i64 n)]).run Try.prog w = .ok (.agg #[.int .i64 0, .string ⟨#[]⟩, .int .u64 0, .int .u64 0, .int .u64 0, .int .u64 0, .int .i64 n]) w := run_build w _ _ _ (by kernel_rfl)
@[go_sem 2000] theorem tbuild5 (k n : Int) (w : World) : (Instr.build 48 #[(0, .int .i64 k), (3, .int .i64 n)]).run Try.prog w = .ok (.agg #[.int .i64 k, .string ⟨#[]⟩, .int .u64 0, .int .u64 0, .int .u64 0, .int .u64 0, .int .i64 n]) w := run_build w _ _ _ (by kernel_rfl)
/-- A token. -/
structure Tok where
 kd : Nat
 tx : ByteArray
 st : Set4
 pos : Nat
def Tok.row (t : Tok) : List Value := [.int .i64 (t.kd : Int), .string t.tx, .int .u64 (t.st.1 : Int), .int .u64 (t.st.2.1 : Int), .int .u64 (t.st.2.2.1 : Int), .int .u64 (t.st.2.2.2 : Int), .int .i64 (t.pos : Int)]
def tokV (t : Tok) : Value := .agg #[.int .i64 (t.kd : Int), .string t.tx, .int .u64 (t.st.1 : Int), .int .u64 (t.st.2.1 : Int), .int .u64 (t.st.2.2.1 : Int), .int .u64 (t.st.2.2.2 : Int), .int .i64 (t.pos : Int)]
def txtK (p : Nat) : Option (ByteArray × Nat) → Option (Tok × Nat)
 | none => none
 | some (u, m) => some (⟨2, u, set0, p⟩, m)
def clsK (p : Nat) : Option (Set4 × Nat) → Option (Tok × Nat)
 | none => none
 | some (x, m) => some (⟨3, ⟨#[]⟩, x, p⟩, m)
/-- The token that begins at a byte. -/
def tkO (s : ByteArray) (p : Nat) : Option (Tok × Nat) :=
 if letB (byt s p) = true then (if nmO s p ≤ 12 then some (⟨1, s.extract p (p + nmO s p), set0, p⟩, p + nmO s p) else none)
 else if byt s p = 34 then txtK p (txtO s (p : Int))
 else if byt s p = 91 then clsK p (clsO s (p : Int))
 else if sgO s p = 0 then none else some (⟨4, s.extract p (p + sgO s p), set0, p⟩, p + sgO s p)
end Go.Proofs.Ytonknapfndaalaa

namespace Go.Proofs.Ytonknapfndaalaa
set_option linter.unusedVariables false
set_option maxRecDepth 1000000
open Go.RowKit
/-- The token that comes from a place on, and the place behind it. -/
def nextO (s : ByteArray) (k : Nat) : Option (Tok × Nat) := if s.size ≤ skO s k then some (⟨0, ⟨#[]⟩, set0, s.size⟩, s.size) else tkO s (skO s k)
def nextV (p : Nat) : Option (Tok × Nat) → Value
 | none => .tuple #[tokV ⟨0, ⟨#[]⟩, set0, p⟩, .int .i64 (p : Int), .bool false]
 | some (t, m) => .tuple #[tokV t, .int .i64 (m : Int), .bool true]
def nextT (s : ByteArray) (k : Nat) : Value := nextV (skO s k) (nextO s k)
theorem nextT_end {s : ByteArray} {k p : Nat} (h : skO s k = p) (hp : s.size ≤ p) : nextT s k = .tuple #[tokV ⟨0, ⟨#[]⟩, set0, s.size⟩, .int .i64 (s.size : Int), .bool true] := by unfold nextT nextO; rw [h, if_pos hp]; rfl
theorem nextT_in {s : ByteArray} {k p : Nat} (h : skO s k = p) (hp : ¬ s.size ≤ p) : nextT s k = nextV p (tkO s p) := by unfold nextT nextO; rw [h, if_neg hp]
end Go.Proofs.Ytonknapfndaalaa
