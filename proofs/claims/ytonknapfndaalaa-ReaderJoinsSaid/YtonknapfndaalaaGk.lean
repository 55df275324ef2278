/- Letters, blanks, signs: what they are; the walks of the small functions. How long a name is, where a line ends, where blanks end, of the program and of the reference, walked. Where blanks and notes end: the walks of Skip, of the program's and the reference's. Signs: the walks of the program's signLength and the reference's sign. The set that stands at a place: the walk of the program's ReadClass. A token: what it is; the walk of the program's read. The token that comes: what it is; the walk of the program's Next. -/
import Derived.Test.YtonknapfndaalaaGj
import Derived.Laws.Tables
namespace Go.Proofs.Ytonknapfndaalaa
set_option linter.unusedVariables false
set_option maxRecDepth 1000000
open Go.RowKit
def letB (c : Int) : Bool := (decide (97 ≤ c) && decide (c ≤ 122)) || (decide (65 ≤ c) && decide (c ≤ 90))
def innB (c : Int) : Bool := letB c || (decide (48 ≤ c) && decide (c ≤ 57)) || c == 95
/-- How many bytes from k on have P, f at most. -/
def runB (P : Int → Bool) (s : ByteArray) : Nat → Nat → Nat
 | 0, _ => 0
 | f + 1, k => if k < s.size ∧ P (byt s k) = true then 1 + runB P s f (k + 1) else 0
theorem runB_is {P : Int → Bool} {s : ByteArray} : ∀ (n f k : Nat), n ≤ f → (∀ j, j < n → k + j < s.size ∧ P (byt s (k + j)) = true) → (n < f → ¬ (k + n < s.size ∧ P (byt s (k + n)) = true)) → runB P s f k = n
 | 0, f, k, h1, h2, h3 => by
  cases f with
  | zero => rfl
  | succ f => unfold runB; rw [if_neg (show ¬ (k < s.size ∧ P (byt s k) = true) from h3 (by omega))]
 | n + 1, f, k, h1, h2, h3 => by
  obtain ⟨g, rfl⟩ : ∃ g, f = g + 1 := ⟨f - 1, by omega⟩
  unfold runB
  rw [if_pos (show k < s.size ∧ P (byt s k) = true from h2 0 (by omega)), runB_is n g (k + 1) (by omega) (fun j hj => by have := h2 (j + 1) (by omega); rw [show k + 1 + j = k + (j + 1) by omega]; exact this)
   (fun hn => by have := h3 (by omega); rw [show k + 1 + n = k + (n + 1) by omega]; exact this)]
  omega
theorem runB_all {P : Int → Bool} {s : ByteArray} : ∀ (f k j : Nat), j < runB P s f k → k + j < s.size ∧ P (byt s (k + j)) = true
 | 0, k, j, h => by unfold runB at h; omega
 | f + 1, k, j, h => by
  unfold runB at h
  split at h
  ·
   rename_i g
   cases j with
   | zero => exact g
   | succ j => have := runB_all (P := P) (s := s) f (k + 1) j (by omega); rw [show k + (j + 1) = k + 1 + j by omega]; exact this
  ·
   omega
/-- How long the name is. -/
def nmO (s : ByteArray) (k : Nat) : Nat := runB innB s s.size k
/-- How many bytes stand ahead of the line's end. -/
def ntO (s : ByteArray) (k : Nat) : Nat := runB (fun c => c != 10) s s.size k
def blkB (c : Int) : Bool := c == 32 || c == 9 || c == 10
/-- The place behind blanks and notes. -/
def skF (s : ByteArray) : Nat → Nat → Nat
 | 0, k => k
 | f + 1, k => if k < s.size then (if blkB (byt s k) = true then skF s f (k + 1) else if byt s k = 35 then skF s f (k + ntO s k) else k) else k
def skO (s : ByteArray) (k : Nat) : Nat := skF s (s.size + 1) k
theorem skF_out {s : ByteArray} {f k : Nat} (h : ¬ k < s.size) : skF s f k = k := by
 cases f
 ·
  rfl
 ·
  unfold skF; rw [if_neg h]
theorem skF_blank {s : ByteArray} {f k : Nat} (hf : s.size < f + k) (hk : k < s.size) (h : blkB (byt s k) = true) : skF s f k = skF s (f - 1) (k + 1) := by
 obtain ⟨g, rfl⟩ : ∃ g, f = g + 1 := ⟨f - 1, by omega⟩
 rw [skF.eq_2, if_pos hk, if_pos h]; rfl
theorem skF_note {s : ByteArray} {f k : Nat} (hf : s.size < f + k) (hk : k < s.size) (h : byt s k = 35) : skF s f k = skF s (f - 1) (k + ntO s k) := by
 obtain ⟨g, rfl⟩ : ∃ g, f = g + 1 := ⟨f - 1, by omega⟩
 rw [skF.eq_2, if_pos hk, if_neg (by rw [h]; decide), if_pos h]; rfl
theorem skF_stop {s : ByteArray} {f k : Nat} (h : blkB (byt s k) = false) (h2 : byt s k ≠ 35) : skF s f k = k := by
 cases f
 ·
  rfl
 ·
  unfold skF
  split
  ·
   rw [if_neg (by rw [h]; decide)]; try rw [if_neg h2]
  ·
   rfl
theorem ntO_pos {s : ByteArray} {k : Nat} (hk : k < s.size) (h : byt s k = 35) : 1 ≤ ntO s k := by
 unfold ntO
 obtain ⟨g, hg⟩ : ∃ g, s.size = g + 1 := ⟨s.size - 1, by omega⟩
 rw [show runB (fun c => c != 10) s s.size k = runB (fun c => c != 10) s (g + 1) k by rw [hg]]
 unfold runB
 rw [if_pos ⟨hk, by rw [h]; rfl⟩]; omega
theorem ntO_le {s : ByteArray} {k : Nat} (hk : k ≤ s.size) : k + ntO s k ≤ s.size := by
 unfold ntO
 by_cases h : runB (fun c => c != 10) s s.size k = 0
 ·
  omega
 ·
  have := (runB_all (P := fun c => c != 10) (s := s) s.size k (runB (fun c => c != 10) s s.size k - 1) (by omega)).1; omega
theorem nmO_le {s : ByteArray} {k : Nat} (hk : k ≤ s.size) : k + nmO s k ≤ s.size := by
 unfold nmO
 by_cases h : runB innB s s.size k = 0
 ·
  omega
 ·
  have := (runB_all (P := innB) (s := s) s.size k (runB innB s s.size k - 1) (by omega)).1; omega
/-- Is it a sign of one byte? -/
def sgB (c : Int) : Bool := c == 59 || c == 61 || c == 47 || c == 38 || c == 33 || c == 126 || c == 42 || c == 43 || c == 63 || c == 46 || c == 40 || c == 41
/-- How many bytes the sign has. -/
def sgO (s : ByteArray) (k : Nat) : Nat :=
 if byt s k = 58 then (if standB s ((k + 1 : Nat) : Int) 58 = true then 2 else 1) else if sgB (byt s k) = true then 1 else 0
set_option maxHeartbeats 800000 in
theorem let_any (c : Int) (w : World) : Calls Try.prog 66 #[.int .u8 c] w fun e w' => e = .returned (.bool (letB c)) ∧ w' = w := by
 have HS := Lib.hid (show letB c = ((decide (97 ≤ c) && decide (c ≤ 122)) || (decide (65 ≤ c) && decide (c ≤ 90))) from rfl)
 by_cases g0 : 97 ≤ c <;> by_cases g1 : c ≤ 122 <;> by_cases g2 : 65 ≤ c <;> by_cases g3 : c ≤ 90
 all_goals first
  | (exfalso; omega)
  | (go_enter Try.func66, Try.ntmps66
     go_wp2
     go_ret
     exact ⟨ret_bool (by rw [HS.out]; simp <;> omega), rfl⟩)
set_option maxHeartbeats 800000 in
theorem rlet_any (c : Int) (w : World) : Calls Try.prog 40 #[.int .u8 c] w fun e w' => e = .returned (.bool (letB c)) ∧ w' = w := by
 have HS := Lib.hid (show letB c = ((decide (97 ≤ c) && decide (c ≤ 122)) || (decide (65 ≤ c) && decide (c ≤ 90))) from rfl)
 by_cases g0 : 97 ≤ c <;> by_cases g1 : c ≤ 122 <;> by_cases g2 : 65 ≤ c <;> by_cases g3 : c ≤ 90
 all_goals first
  | (exfalso; omega)
  | (go_enter Try.func40, Try.ntmps40
     go_wp2
     go_ret
     exact ⟨ret_bool (by rw [HS.out]; simp <;> omega), rfl⟩)
set_option maxHeartbeats 800000 in
theorem inn_any (c : Int) (w : World) : Calls Try.prog 41 #[.int .u8 c] w fun e w' => e = .returned (.bool (innB c)) ∧ w' = w := by
 have HS := Lib.hid (show innB c = (letB c || (decide (48 ≤ c) && decide (c ≤ 57)) || c == 95) from rfl)
 have HL := Lib.hid (fun W => rlet_any c W)
 obtain ⟨b, hb⟩ : ∃ b, letB c = b := ⟨_, rfl⟩
 rw [hb] at HS HL
 clear hb
 obtain ⟨q, hq⟩ : ∃ q, (c == 95) = q := ⟨_, rfl⟩
 have HQ := Lib.hid hq
 by_cases g0 : 48 ≤ c <;> by_cases g1 : c ≤ 57 <;> cases b <;> cases q
 all_goals first
  | (exfalso; omega)
  | (go_enter Try.func41, Try.ntmps41
     go_wp2_with fail
     refine (HL.out _).mono ?_
     rintro e w1 ⟨rfl, rfl⟩
     go_wp2
     go_ret
     exact ⟨ret_bool (by rw [HS.out, HQ.out]; simp <;> omega), rfl⟩)
end Go.Proofs.Ytonknapfndaalaa

namespace Go.Proofs.Ytonknapfndaalaa
set_option linter.unusedVariables false
set_option maxRecDepth 1000000
open Go.RowKit
/-- The rest of a text, from p on. -/
def restS (s : ByteArray) (p : Nat) : ByteArray := s.extract p s.size
theorem rest_size (s : ByteArray) {p : Nat} (hp : p ≤ s.size) : (restS s p).size = s.size - p := by
 unfold restS; rw [ByteArray.size_extract]; omega
theorem rest_byt (s : ByteArray) (p j : Nat) : byt (restS s p) j = byt s (p + j) := by
 unfold restS
 rw [← ofL_drop]
 unfold byt
 rw [show (ofL (s.data.toList.drop p)).data.toList = s.data.toList.drop p by show (s.data.toList.drop p).toArray.toList = _; simp]
 rw [List.getD_eq_getElem?_getD, List.getD_eq_getElem?_getD, List.getElem?_drop]
theorem nm_is {s : ByteArray} {p n : Nat} (hp : p ≤ s.size) (hn : n ≤ (restS s p).size) (h : ∀ j, j < n → innB (byt (restS s p) j) = true) (h2 : n < (restS s p).size → innB (byt (restS s p) n) = false) : nmO s p = n := by
 rw [rest_size s hp] at hn h2
 refine runB_is n s.size p (by omega) (fun j hj => ⟨by omega, by rw [← rest_byt]; exact h j hj⟩) (fun hlt => ?_)
 rintro ⟨g1, g2⟩
 have := h2 (by omega)
 rw [rest_byt, g2] at this; cases this
theorem nt_is {s : ByteArray} {p n : Nat} (hp : p ≤ s.size) (hn : p + n ≤ s.size) (h : ∀ j, j < n → byt s (p + j) ≠ 10) (h2 : p + n < s.size → byt s (p + n) = 10) : ntO s p = n := by
 refine runB_is n s.size p (by omega) (fun j hj => ⟨by omega, by simp [h j hj]⟩) (fun hlt => ?_)
 rintro ⟨g1, g2⟩
 rw [h2 g1] at g2; revert g2; decide
set_option maxHeartbeats 1600000 in
theorem nml_any (v : ByteArray) (hv : v.size ≤ 1000000) (w : World) :
  Calls Try.prog 67 #[.string v] w fun e w' => (∃ n : Nat, e = .returned (.int .i64 (n : Int)) ∧ n ≤ v.size ∧ (∀ j, j < n → innB (byt v j) = true) ∧ (n < v.size → innB (byt v n) = false)) ∧ w' = w := by
 go_enter Try.func67, Try.ntmps67
 go_wp2
 go_loop [3] (fun i => ∃ k : Nat, k ≤ v.size ∧ i = .int .i64 k ∧ Hid (∀ j, j < k → innB (byt v j) = true)) (fun i => v.size - (intOf i).toNat)
 case atStart => exact ⟨0, Nat.zero_le _, rfl, Lib.hid (fun j h => by omega)⟩
 case round =>
  obtain ⟨k, hk, rfl, HA⟩ := hrel
  by_cases hlt : k < v.size
  ·
   obtain ⟨x, hx⟩ : ∃ x : Int, (v[k].toNat : Int) = x := ⟨_, rfl⟩
   have HX := Lib.hid (show byt v k = x by rw [byt_get hlt, hx])
   have HL := Lib.hid (fun W => let_any x W)
   have HI := Lib.hid (show innB x = (letB x || (decide (48 ≤ x) && decide (x ≤ 57)) || x == 95) from rfl)
   obtain ⟨b, hb⟩ : ∃ b, letB x = b := ⟨_, rfl⟩
   rw [hb] at HI HL
   clear hb
   obtain ⟨q, hq⟩ : ∃ q, (x == 95) = q := ⟨_, rfl⟩
   have HQ := Lib.hid hq
   by_cases g0 : 48 ≤ x <;> by_cases g1 : x ≤ 57 <;> cases b <;> cases q
   all_goals try (exfalso; omega)
   all_goals first
    | (have HN := Lib.hid (show innB x = true by rw [HI.out, HQ.out]; simp <;> omega)
       have HA1 : Hid (∀ j, j < k + 1 → innB (byt v j) = true) := Lib.hid (fun j hj => by
        by_cases e : j = k
        ·
         rw [e, HX.out]; exact HN.out
        ·
         exact HA.out j (by omega))
       go_wp2_with fail
       refine (HL.out _).mono ?_
       rintro e w1 ⟨rfl, rfl⟩
       go_wp2
       go_round
       case rel => exact ⟨k + 1, by omega, by go_num, HA1⟩
       case measure => simp [intOf]; omega)
    | (have HN := Lib.hid (show innB x = false by rw [HI.out, HQ.out]; simp <;> omega)
       go_wp2_with fail
       refine (HL.out _).mono ?_
       rintro e w1 ⟨rfl, rfl⟩
       go_wp2
       go_ret
       exact ⟨⟨k, rfl, hk, HA.out, fun _ => by rw [HX.out]; exact HN.out⟩, rfl⟩)
  ·
   obtain rfl : k = v.size := by omega
   go_wp2
   go_ret
   exact ⟨⟨v.size, rfl, Nat.le_refl _, HA.out, fun h => by omega⟩, rfl⟩
theorem idx_bytes {v : ByteArray} {n : Nat} (h : Lib.indexByte v.data.toList 10 = (n : Int)) : n < v.size ∧ byt v n = 10 ∧ ∀ j, j < n → byt v j ≠ 10 := by
 obtain ⟨h1, h2⟩ := Lib.indexByte_some h
 have hlt := (List.getElem?_eq_some_iff.1 h1).1
 refine ⟨by simpa using hlt, ?_, fun j hj hb => ?_⟩
 ·
  unfold byt; rw [List.getD_eq_getElem?_getD, h1]; rfl
 ·
  have hj' : j < v.data.toList.length := by omega
  refine h2 j hj ?_
  rw [List.getElem?_eq_getElem hj']
  congr 1
  apply UInt8.toNat.inj
  have h3 : (v.data.toList[j].toNat : Int) = 10 := by rw [← hb]; unfold byt; rw [List.getD_eq_getElem?_getD, List.getElem?_eq_getElem hj']; rfl
  show _ = 10
  omega
theorem idx_none {v : ByteArray} (h : Lib.indexByte v.data.toList 10 = -1) : ∀ j, j < v.size → byt v j ≠ 10 := fun j hj hb => by
 have hj' : j < v.data.toList.length := by simpa using hj
 refine Lib.indexByte_none h j ?_
 rw [List.getElem?_eq_getElem hj']
 congr 1
 apply UInt8.toNat.inj
 have h3 : (v.data.toList[j].toNat : Int) = 10 := by rw [← hb]; unfold byt; rw [List.getD_eq_getElem?_getD, List.getElem?_eq_getElem hj']; rfl
 show _ = 10
 omega
set_option maxHeartbeats 1600000 in
theorem lend_any (s : ByteArray) (hs : s.size ≤ 1000000) (p : Nat) (hp : p ≤ s.size) (w : World) :
  Calls Try.prog 65 #[.string (restS s p)] w fun e w' => e = .returned (.int .i64 (ntO s p : Int)) ∧ w' = w := by
 have hr := rest_size s hp
 have hge := Lib.indexByte_ge (restS s p).data.toList (10 : Int).toNat.toUInt8
 obtain ⟨x, hx⟩ : ∃ x, Lib.indexByte (restS s p).data.toList (10 : Int).toNat.toUInt8 = x := ⟨_, rfl⟩
 rw [hx] at hge
 have HX := Lib.hid hx
 by_cases g : 0 ≤ x
 ·
  obtain ⟨n, rfl⟩ : ∃ n : Nat, x = (n : Int) := ⟨x.toNat, by omega⟩
  obtain ⟨h1, h2, h3⟩ := idx_bytes hx
  have HE := Lib.hid (show ntO s p = n from nt_is hp (by omega) (fun j hj => by rw [← rest_byt]; exact h3 j hj) (fun _ => by rw [← rest_byt]; exact h2))
  clear hx h1 h2 h3 hge
  go_enter Try.func65, Try.ntmps65
  go_wp2_with fail
  refine (Try.strings_IndexByte (restS s p) 10 _).mono ?_
  rintro e w' ⟨rfl, rfl⟩
  rw [HX.out]
  go_wp2
  go_ret
  exact ⟨ret_int (by rw [HE.out]), rfl⟩
 ·
  obtain rfl : x = -1 := by omega
  have h3 := idx_none hx
  have HE := Lib.hid (show ntO s p = (restS s p).size from nt_is hp (by omega) (fun j hj => by rw [← rest_byt]; exact h3 j hj) (fun h => by omega))
  clear hx h3 hge g
  go_enter Try.func65, Try.ntmps65
  go_wp2_with fail
  refine (Try.strings_IndexByte (restS s p) 10 _).mono ?_
  rintro e w' ⟨rfl, rfl⟩
  rw [HX.out]
  go_wp2
  go_ret
  exact ⟨ret_int (by rw [HE.out, hr]), rfl⟩
end Go.Proofs.Ytonknapfndaalaa

namespace Go.Proofs.Ytonknapfndaalaa
set_option linter.unusedVariables false
set_option maxRecDepth 1000000
open Go.RowKit
set_option maxHeartbeats 1600000 in
set_option maxRecDepth 100000 in
theorem skip_any (s : ByteArray) (hs : s.size ≤ 1000000) (a : Nat) (ha : (a : Int) ≤ 9223372036854775807) (w : World) :
  Calls Try.prog 48 #[.string s, .int .i64 (a : Int)] w fun e w' => e = .returned (.int .i64 (skO s a : Int)) ∧ w' = w := by
 have HT0 := Lib.hid (show skF s (s.size + 1) a = skO s a ∧ s.size < s.size + 1 + a from ⟨rfl, by omega⟩)
 obtain ⟨o, ho⟩ : ∃ o, skO s a = o := ⟨_, rfl⟩
 rw [ho] at HT0 ⊢
 clear ho
 go_enter Try.func48, Try.ntmps48
 go_wp2
 go_loop [1] (fun i => ∃ k f : Nat, i = .int .i64 (k : Int) ∧ (k : Int) ≤ 9223372036854775807 ∧ Hid (skF s f k = o ∧ s.size < f + k)) (fun i => s.size - (intOf i).toNat)
 case atStart => exact ⟨a, s.size + 1, rfl, ha, HT0⟩
 case round =>
  obtain ⟨k, f, rfl, hk, HT⟩ := hrel
  by_cases hlt : (k : Int) < s.size
  ·
   have hk1 : k < s.size := by omega
   obtain ⟨c, hc⟩ : ∃ c : Int, (s[k].toNat : Int) = c := ⟨_, rfl⟩
   have hbc : byt s k = c := by rw [byt_get hk1, hc]
   by_cases h32 : c = 32
   ·
    subst h32
    have HT2 := Lib.hid (show skF s (f - 1) (k + 1) = o ∧ s.size < (f - 1) + (k + 1) from ⟨by rw [← HT.out.1]; exact (skF_blank HT.out.2 hk1 (by rw [hbc]; rfl)).symm, by have := HT.out.2; omega⟩)
    clear HT hbc
    go_wp2
    go_round
    case rel => exact ⟨k + 1, f - 1, by go_num, by omega, HT2⟩
    case measure => simp [intOf]; omega
   have e32 : (c == 32) = false := beq_eq_false_iff_ne.2 h32
   by_cases h9 : c = 9
   ·
    subst h9
    have HT2 := Lib.hid (show skF s (f - 1) (k + 1) = o ∧ s.size < (f - 1) + (k + 1) from ⟨by rw [← HT.out.1]; exact (skF_blank HT.out.2 hk1 (by rw [hbc]; rfl)).symm, by have := HT.out.2; omega⟩)
    clear HT hbc
    go_wp2
    go_round
    case rel => exact ⟨k + 1, f - 1, by go_num, by omega, HT2⟩
    case measure => simp [intOf]; omega
   have e9 : (c == 9) = false := beq_eq_false_iff_ne.2 h9
   by_cases h10 : c = 10
   ·
    subst h10
    have HT2 := Lib.hid (show skF s (f - 1) (k + 1) = o ∧ s.size < (f - 1) + (k + 1) from ⟨by rw [← HT.out.1]; exact (skF_blank HT.out.2 hk1 (by rw [hbc]; rfl)).symm, by have := HT.out.2; omega⟩)
    clear HT hbc
    go_wp2
    go_round
    case rel => exact ⟨k + 1, f - 1, by go_num, by omega, HT2⟩
    case measure => simp [intOf]; omega
   have e10 : (c == 10) = false := beq_eq_false_iff_ne.2 h10
   by_cases h35 : c = 35
   ·
    subst h35
    have hn1 := ntO_pos hk1 hbc
    have hn2 := ntO_le (s := s) (k := k) (by omega)
    have HL := Lib.hid (fun W => lend_any s hs k (by omega) W)
    have HT2 := Lib.hid (show skF s (f - 1) (k + ntO s k) = o ∧ s.size < (f - 1) + (k + ntO s k) from ⟨by rw [← HT.out.1]; exact (skF_note HT.out.2 hk1 hbc).symm, by have := HT.out.2; omega⟩)
    generalize ntO s k = q at *
    clear HT hbc
    have hks : (k : Int) ≤ s.size := by omega
    go_wp2_with fail
    refine (HL.out _).mono ?_
    rintro e w1 ⟨rfl, rfl⟩
    go_wp2
    go_round
    case rel => exact ⟨k + q, f - 1, by go_num, by omega, HT2⟩
    case measure => simp [intOf]; omega
   have e35 : (c == 35) = false := beq_eq_false_iff_ne.2 h35
   have HE := Lib.hid (show o = k by rw [← HT.out.1]; exact skF_stop (by rw [hbc]; unfold blkB; rw [e32, e9, e10]; rfl) (by rw [hbc]; exact h35))
   clear HT hbc
   go_wp2
   go_ret
   exact ⟨ret_int (by rw [HE.out]), rfl⟩
  ·
   have HE := Lib.hid (show o = k by rw [← HT.out.1]; exact skF_out (by omega))
   clear HT
   go_wp2
   go_ret
   exact ⟨ret_int (by rw [HE.out]), rfl⟩
set_option maxHeartbeats 1600000 in
set_option maxRecDepth 100000 in
theorem rskip_any (s : ByteArray) (hs : s.size ≤ 1000000) (a : Nat) (ha : (a : Int) ≤ 9223372036854775807) (w : World) :
  Calls Try.prog 39 #[.string s, .int .i64 (a : Int)] w fun e w' => e = .returned (.int .i64 (skO s a : Int)) ∧ w' = w := by
 have HT0 := Lib.hid (show skF s (s.size + 1) a = skO s a ∧ s.size < s.size + 1 + a from ⟨rfl, by omega⟩)
 obtain ⟨o, ho⟩ : ∃ o, skO s a = o := ⟨_, rfl⟩
 rw [ho] at HT0 ⊢
 clear ho
 go_enter Try.func39, Try.ntmps39
 go_wp2
 go_loop [1] (fun i => ∃ k f : Nat, i = .int .i64 (k : Int) ∧ (k : Int) ≤ 9223372036854775807 ∧ Hid (skF s f k = o ∧ s.size < f + k)) (fun i => s.size - (intOf i).toNat)
 case atStart => exact ⟨a, s.size + 1, rfl, ha, HT0⟩
 case round =>
  obtain ⟨k, f, rfl, hk, HT⟩ := hrel
  by_cases hlt : (k : Int) < s.size
  ·
   have hk1 : k < s.size := by omega
   obtain ⟨c, hc⟩ : ∃ c : Int, (s[k].toNat : Int) = c := ⟨_, rfl⟩
   have hbc : byt s k = c := by rw [byt_get hk1, hc]
   by_cases h32 : c = 32
   ·
    subst h32
    have HT2 := Lib.hid (show skF s (f - 1) (k + 1) = o ∧ s.size < (f - 1) + (k + 1) from ⟨by rw [← HT.out.1]; exact (skF_blank HT.out.2 hk1 (by rw [hbc]; rfl)).symm, by have := HT.out.2; omega⟩)
    clear HT hbc
    go_wp2
    go_round
    case rel => exact ⟨k + 1, f - 1, by go_num, by omega, HT2⟩
    case measure => simp [intOf]; omega
   have e32 : (c == 32) = false := beq_eq_false_iff_ne.2 h32
   by_cases h9 : c = 9
   ·
    subst h9
    have HT2 := Lib.hid (show skF s (f - 1) (k + 1) = o ∧ s.size < (f - 1) + (k + 1) from ⟨by rw [← HT.out.1]; exact (skF_blank HT.out.2 hk1 (by rw [hbc]; rfl)).symm, by have := HT.out.2; omega⟩)
    clear HT hbc
    go_wp2
    go_round
    case rel => exact ⟨k + 1, f - 1, by go_num, by omega, HT2⟩
    case measure => simp [intOf]; omega
   have e9 : (c == 9) = false := beq_eq_false_iff_ne.2 h9
   by_cases h10 : c = 10
   ·
    subst h10
    have HT2 := Lib.hid (show skF s (f - 1) (k + 1) = o ∧ s.size < (f - 1) + (k + 1) from ⟨by rw [← HT.out.1]; exact (skF_blank HT.out.2 hk1 (by rw [hbc]; rfl)).symm, by have := HT.out.2; omega⟩)
    clear HT hbc
    go_wp2
    go_round
    case rel => exact ⟨k + 1, f - 1, by go_num, by omega, HT2⟩
    case measure => simp [intOf]; omega
   have e10 : (c == 10) = false := beq_eq_false_iff_ne.2 h10
   by_cases h35 : c = 35
   ·
    subst h35
    have hn1 := ntO_pos hk1 hbc
    have HT2 := Lib.hid (show skF s (f - 1) (k + ntO s k) = o ∧ s.size < (f - 1) + (k + ntO s k) from ⟨by rw [← HT.out.1]; exact (skF_note HT.out.2 hk1 hbc).symm, by have := HT.out.2; omega⟩)
    clear HT
    go_wp2
    go_loop [1] (fun i => ∃ j : Nat, i = .int .i64 ((k + j : Nat) : Int) ∧ k + j ≤ s.size ∧ Hid (∀ t, t < j → byt s (k + t) ≠ 10)) (fun i => s.size - (intOf i).toNat)
    case atStart => exact ⟨0, rfl, by omega, Lib.hid (fun t h => by omega)⟩
    case round =>
     obtain ⟨j, rfl, hj, HA⟩ := hrel
     by_cases hlt2 : ((k + j : Nat) : Int) < s.size
     ·
      have hj1 : k + j < s.size := by omega
      obtain ⟨d, hd⟩ : ∃ d : Int, (s[k + j].toNat : Int) = d := ⟨_, rfl⟩
      have hbd : byt s (k + j) = d := by rw [byt_get hj1, hd]
      by_cases h10 : d = 10
      ·
       subst h10
       have HN := Lib.hid (show ntO s k = j from nt_is (by omega) hj HA.out (fun _ => hbd))
       clear hbd HA
       go_wp2
       go_round
       case rel => exact ⟨k + j, f - 1, rfl, by omega, by rw [← HN.out]; exact HT2⟩
       case measure => have := HN.out; simp [intOf]; omega
      ·
       have e10' : (d != 10) = true := by simp [h10]
       have e10'' : (d == 10) = false := beq_eq_false_iff_ne.2 h10
       have HA1 : Hid (∀ t, t < j + 1 → byt s (k + t) ≠ 10) := Lib.hid (fun t ht => by
        by_cases e : t = j
        ·
         rw [e, hbd]; exact h10
        ·
         exact HA.out t (by omega))
       clear hbd HA
       go_wp2
       go_round
       case rel => exact ⟨j + 1, by go_num, by omega, HA1⟩
       case measure => simp [intOf]; omega
     ·
      have HN := Lib.hid (show ntO s k = j from nt_is (by omega) hj HA.out (fun h => by omega))
      have hlt3 : decide (((k + j : Nat) : Int) < (s.size : Int)) = false := decide_eq_false hlt2
      clear HA
      go_wp2
      go_round
      case rel => exact ⟨k + j, f - 1, rfl, by omega, by rw [← HN.out]; exact HT2⟩
      case measure => have := HN.out; simp [intOf]; omega
   have e35 : (c == 35) = false := beq_eq_false_iff_ne.2 h35
   have HE := Lib.hid (show o = k by rw [← HT.out.1]; exact skF_stop (by rw [hbc]; unfold blkB; rw [e32, e9, e10]; rfl) (by rw [hbc]; exact h35))
   clear HT hbc
   go_wp2
   go_ret
   exact ⟨ret_int (by rw [HE.out]), rfl⟩
  ·
   have HE := Lib.hid (show o = k by rw [← HT.out.1]; exact skF_out (by omega))
   clear HT
   go_wp2
   go_ret
   exact ⟨ret_int (by rw [HE.out]), rfl⟩
end Go.Proofs.Ytonknapfndaalaa

namespace Go.Proofs.Ytonknapfndaalaa
set_option linter.unusedVariables false
set_option maxRecDepth 1000000
open Go.RowKit
theorem rest_list (s : ByteArray) (p : Nat) : (restS s p).data.toList = s.data.toList.drop p := by
 unfold restS; rw [← ofL_drop]; show (s.data.toList.drop p).toArray.toList = _; simp
theorem byt_head {s : ByteArray} {p : Nat} (hp : p < s.size) : ∃ x r, s.data.toList.drop p = x :: r ∧ (x.toNat : Int) = byt s p ∧ r = s.data.toList.drop (p + 1) := by
 have h' : p < s.data.toList.length := by simpa using hp
 refine ⟨s.data.toList[p], s.data.toList.drop (p + 1), List.drop_eq_getElem_cons h', ?_, rfl⟩
 unfold byt; rw [List.getD_eq_getElem?_getD, List.getElem?_eq_getElem h']; rfl
theorem u8_is {x : UInt8} {n : Nat} (hn : n < 256) (h : (x.toNat : Int) = n) : x = UInt8.ofNat n := by
 apply UInt8.toNat.inj; rw [UInt8.toNat_ofNat']; omega
theorem two_colons {s : ByteArray} {p : Nat} (hp : p < s.size) (h : byt s p = 58) : Lib.hasPrefix (restS s p).data.toList [58, 58] = standB s ((p + 1 : Nat) : Int) 58 := by
 rw [rest_list]
 obtain ⟨x, r, e, hx, hr⟩ := byt_head hp
 obtain rfl : x = 58 := u8_is (n := 58) (by omega) (by rw [hx, h]; rfl)
 rw [e]
 by_cases g : p + 1 < s.size
 ·
  obtain ⟨y, r2, e2, hy, -⟩ := byt_head g
  rw [hr, e2, stand_in g, ← hy]
  by_cases h58 : y = 58
  ·
   subst h58; simp [Lib.hasPrefix, List.isPrefixOf]
  ·
   have : (y.toNat : Int) ≠ 58 := fun q => h58 (u8_is (n := 58) (by omega) q)
   rw [beq_eq_false_iff_ne.2 this]
   simp [Lib.hasPrefix, List.isPrefixOf]
   exact fun q => h58 q.symm
 ·
  rw [stand_out g, hr, List.drop_of_length_le (by simp; omega)]
  simp [Lib.hasPrefix, List.isPrefixOf]
theorem sgO_colon {s : ByteArray} {p : Nat} (h : byt s p = 58) : sgO s p = if standB s ((p + 1 : Nat) : Int) 58 = true then 2 else 1 := by unfold sgO; rw [if_pos h]
theorem sgO_one {s : ByteArray} {p : Nat} (h : byt s p ≠ 58) (h2 : sgB (byt s p) = true) : sgO s p = 1 := by unfold sgO; rw [if_neg h, if_pos h2]
theorem sgO_no {s : ByteArray} {p : Nat} (h : byt s p ≠ 58) (h2 : sgB (byt s p) = false) : sgO s p = 0 := by unfold sgO; rw [if_neg h, h2]; rfl
theorem sgO_le {s : ByteArray} {p : Nat} (h : p < s.size) : p + sgO s p ≤ s.size := by
 unfold sgO
 split
 ·
  split
  ·
   rename_i g; have := (stand_iff.1 g).1; omega
  ·
   omega
 ·
  split <;> omega
set_option maxHeartbeats 3200000 in
theorem sgl_any (s : ByteArray) (hs : s.size ≤ 1000000) (p : Nat) (hp : p < s.size) (w : World) :
  Calls Try.prog 70 #[.string (restS s p)] w fun e w' => e = .returned (.int .i64 (sgO s p : Int)) ∧ w' = w := by
 have hr := rest_size s (p := p) (by omega)
 have h0 : 0 < (restS s p).size := by omega
 obtain ⟨c, hc⟩ : ∃ c : Int, ((restS s p)[0].toNat : Int) = c := ⟨_, rfl⟩
 have hbc : byt s p = c := by have := byt_get h0; rw [rest_byt, hc] at this; exact this
 by_cases h58 : c = 58
 ·
  subst h58
  have HE := Lib.hid (sgO_colon hbc)
  have HP := Lib.hid (two_colons hp hbc)
  obtain ⟨b, hb⟩ : ∃ b, standB s ((p + 1 : Nat) : Int) 58 = b := ⟨_, rfl⟩
  rw [hb] at HE HP
  clear hb hbc hr
  generalize restS s p = v at *
  cases b
  all_goals
   go_enter Try.func70, Try.ntmps70
   go_wp2_with fail
   refine (Try.strings_HasPrefix v ⟨#[58, 58]⟩ _).mono ?_
   rintro e w' ⟨rfl, rfl⟩
   rw [show Lib.hasPrefix v.data.toList (⟨#[58, 58]⟩ : ByteArray).data.toList = _ from HP.out]
   go_wp2
   go_ret
   exact ⟨ret_int (by rw [HE.out]; rfl), rfl⟩
 have e58 : (c == 58) = false := beq_eq_false_iff_ne.2 h58
 by_cases h59 : c = 59
 ·
  subst h59
  have HE := Lib.hid (sgO_one (s := s) (p := p) (by rw [hbc]; decide) (by rw [hbc]; decide))
  clear hbc
  clear hr
  generalize restS s p = v at *
  go_enter Try.func70, Try.ntmps70
  go_wp2
  go_ret
  exact ⟨ret_int (by rw [HE.out]; rfl), rfl⟩
 have e59 : (c == 59) = false := beq_eq_false_iff_ne.2 h59
 by_cases h61 : c = 61
 ·
  subst h61
  have HE := Lib.hid (sgO_one (s := s) (p := p) (by rw [hbc]; decide) (by rw [hbc]; decide))
  clear hbc
  clear hr
  generalize restS s p = v at *
  go_enter Try.func70, Try.ntmps70
  go_wp2
  go_ret
  exact ⟨ret_int (by rw [HE.out]; rfl), rfl⟩
 have e61 : (c == 61) = false := beq_eq_false_iff_ne.2 h61
 by_cases h47 : c = 47
 ·
  subst h47
  have HE := Lib.hid (sgO_one (s := s) (p := p) (by rw [hbc]; decide) (by rw [hbc]; decide))
  clear hbc
  clear hr
  generalize restS s p = v at *
  go_enter Try.func70, Try.ntmps70
  go_wp2
  go_ret
  exact ⟨ret_int (by rw [HE.out]; rfl), rfl⟩
 have e47 : (c == 47) = false := beq_eq_false_iff_ne.2 h47
 by_cases h38 : c = 38
 ·
  subst h38
  have HE := Lib.hid (sgO_one (s := s) (p := p) (by rw [hbc]; decide) (by rw [hbc]; decide))
  clear hbc
  clear hr
  generalize restS s p = v at *
  go_enter Try.func70, Try.ntmps70
  go_wp2
  go_ret
  exact ⟨ret_int (by rw [HE.out]; rfl), rfl⟩
 have e38 : (c == 38) = false := beq_eq_false_iff_ne.2 h38
 by_cases h33 : c = 33
 ·
  subst h33
  have HE := Lib.hid (sgO_one (s := s) (p := p) (by rw [hbc]; decide) (by rw [hbc]; decide))
  clear hbc
  clear hr
  generalize restS s p = v at *
  go_enter Try.func70, Try.ntmps70
  go_wp2
  go_ret
  exact ⟨ret_int (by rw [HE.out]; rfl), rfl⟩
 have e33 : (c == 33) = false := beq_eq_false_iff_ne.2 h33
 by_cases h126 : c = 126
 ·
  subst h126
  have HE := Lib.hid (sgO_one (s := s) (p := p) (by rw [hbc]; decide) (by rw [hbc]; decide))
  clear hbc
  clear hr
  generalize restS s p = v at *
  go_enter Try.func70, Try.ntmps70
  go_wp2
  go_ret
  exact ⟨ret_int (by rw [HE.out]; rfl), rfl⟩
 have e126 : (c == 126) = false := beq_eq_false_iff_ne.2 h126
 by_cases h42 : c = 42
 ·
  subst h42
  have HE := Lib.hid (sgO_one (s := s) (p := p) (by rw [hbc]; decide) (by rw [hbc]; decide))
  clear hbc
  clear hr
  generalize restS s p = v at *
  go_enter Try.func70, Try.ntmps70
  go_wp2
  go_ret
  exact ⟨ret_int (by rw [HE.out]; rfl), rfl⟩
 have e42 : (c == 42) = false := beq_eq_false_iff_ne.2 h42
 by_cases h43 : c = 43
 ·
  subst h43
  have HE := Lib.hid (sgO_one (s := s) (p := p) (by rw [hbc]; decide) (by rw [hbc]; decide))
  clear hbc
  clear hr
  generalize restS s p = v at *
  go_enter Try.func70, Try.ntmps70
  go_wp2
  go_ret
  exact ⟨ret_int (by rw [HE.out]; rfl), rfl⟩
 have e43 : (c == 43) = false := beq_eq_false_iff_ne.2 h43
 by_cases h63 : c = 63
 ·
  subst h63
  have HE := Lib.hid (sgO_one (s := s) (p := p) (by rw [hbc]; decide) (by rw [hbc]; decide))
  clear hbc
  clear hr
  generalize restS s p = v at *
  go_enter Try.func70, Try.ntmps70
  go_wp2
  go_ret
  exact ⟨ret_int (by rw [HE.out]; rfl), rfl⟩
 have e63 : (c == 63) = false := beq_eq_false_iff_ne.2 h63
 by_cases h46 : c = 46
 ·
  subst h46
  have HE := Lib.hid (sgO_one (s := s) (p := p) (by rw [hbc]; decide) (by rw [hbc]; decide))
  clear hbc
  clear hr
  generalize restS s p = v at *
  go_enter Try.func70, Try.ntmps70
  go_wp2
  go_ret
  exact ⟨ret_int (by rw [HE.out]; rfl), rfl⟩
 have e46 : (c == 46) = false := beq_eq_false_iff_ne.2 h46
 by_cases h40 : c = 40
 ·
  subst h40
  have HE := Lib.hid (sgO_one (s := s) (p := p) (by rw [hbc]; decide) (by rw [hbc]; decide))
  clear hbc
  clear hr
  generalize restS s p = v at *
  go_enter Try.func70, Try.ntmps70
  go_wp2
  go_ret
  exact ⟨ret_int (by rw [HE.out]; rfl), rfl⟩
 have e40 : (c == 40) = false := beq_eq_false_iff_ne.2 h40
 by_cases h41 : c = 41
 ·
  subst h41
  have HE := Lib.hid (sgO_one (s := s) (p := p) (by rw [hbc]; decide) (by rw [hbc]; decide))
  clear hbc
  clear hr
  generalize restS s p = v at *
  go_enter Try.func70, Try.ntmps70
  go_wp2
  go_ret
  exact ⟨ret_int (by rw [HE.out]; rfl), rfl⟩
 have e41 : (c == 41) = false := beq_eq_false_iff_ne.2 h41
 have HE := Lib.hid (sgO_no (s := s) (p := p) (by rw [hbc]; exact h58) (by rw [hbc]; unfold sgB; rw [e59, e61, e47, e38, e33, e126, e42, e43, e63, e46, e40, e41]; rfl))
 clear hbc
 clear hr
 generalize restS s p = v at *
 go_enter Try.func70, Try.ntmps70
 go_wp2
 go_ret
 exact ⟨ret_int (by rw [HE.out]; rfl), rfl⟩
theorem cc_is {s : ByteArray} {p : Nat} (hp : p + 1 < s.size) : (s.extract p (p + 2)).toList = [(58 : UInt8), 58] ↔ byt s p = 58 ∧ byt s (p + 1) = 58 := by
 obtain ⟨x, r, e, hx, hr⟩ := byt_head (s := s) (p := p) (by omega)
 obtain ⟨y, r2, e2, hy, -⟩ := byt_head hp
 rw [ByteArray.toList_eq, ByteArray.data_extract]
 simp only [Array.toList_extract, List.extract_eq_take_drop]
 rw [e, show p + 2 - p = 2 by omega, hr, e2, ← hx, ← hy]
 simp only [List.take_succ_cons, List.take_zero, List.cons.injEq, and_true]
 constructor
 ·
  rintro ⟨rfl, rfl⟩; exact ⟨rfl, rfl⟩
 ·
  rintro ⟨h1, h2⟩; exact ⟨u8_is (n := 58) (by omega) h1, u8_is (n := 58) (by omega) h2⟩
theorem cc_text {s : ByteArray} {p : Nat} (hp : p + 1 < s.size) (h : byt s p = 58 ∧ byt s (p + 1) = 58) : s.extract p (p + 2) = (⟨#[58, 58]⟩ : ByteArray) := by
 apply bytes_eq
 have := (cc_is hp).2 h
 rw [ByteArray.toList_eq] at this; exact this
theorem ext_none (s : ByteArray) (p : Nat) : s.extract p (p + 0) = (⟨#[]⟩ : ByteArray) := by
 apply bytes_eq; rw [ByteArray.data_extract]; simp
set_option maxHeartbeats 6400000 in
theorem rsign5_any (s : ByteArray) (hs : s.size ≤ 1000000) (p : Nat) (hp : p < s.size) (w : World) :
  Calls Try.prog 44 #[.string s, .int .i64 (p : Int)] w fun e w' => e = .returned (.string (s.extract p (p + sgO s p))) ∧ w' = w := by
 obtain ⟨c, hc⟩ : ∃ c : Int, (s[p].toNat : Int) = c := ⟨_, rfl⟩
 have hbc : byt s p = c := by rw [byt_get hp, hc]
 have hx0 := ext_none s p
 by_cases h58 : c = 58
 ·
  subst h58
  have HE := Lib.hid (sgO_colon hbc)
  by_cases g : (p : Int) + 1 < s.size
  ·
   have g1 : p + 1 < s.size := by omega
   have hcc := cc_is g1
   have hct := cc_text g1
   have g2 : (p : Int) + 2 ≤ s.size := by omega
   by_cases h2 : byt s (p + 1) = 58
   ·
    have HT := Lib.hid (hct ⟨hbc, h2⟩)
    have HB := Lib.hid (show standB s ((p + 1 : Nat) : Int) 58 = true from stand_iff.2 ⟨g1, h2⟩)
    have e2 : ((s.extract p (p + 2)).toList == [(58 : UInt8), 58]) = true := by rw [beq_iff_eq]; exact hcc.2 ⟨hbc, h2⟩
    clear hcc hct hbc h2 hx0
    go_enter Try.func44, Try.ntmps44
    go_wp2
    go_ret
    exact ⟨ret_str (by rw [HE.out, HB.out]; exact HT.out.symm), rfl⟩
   ·
    have HB := Lib.hid (show standB s ((p + 1 : Nat) : Int) 58 = false from by rw [stand_in g1]; exact beq_eq_false_iff_ne.2 h2)
    have e2 : ((s.extract p (p + 2)).toList == [(58 : UInt8), 58]) = false := by rw [beq_eq_false_iff_ne]; exact fun q => h2 (hcc.1 q).2
    clear hcc hct hbc h2 hx0
    go_enter Try.func44, Try.ntmps44
    go_wp2
    go_ret
    exact ⟨ret_str (by rw [HE.out, HB.out]; rfl), rfl⟩
  ·
   have HB := Lib.hid (show standB s ((p + 1 : Nat) : Int) 58 = false from stand_out (by omega))
   have g2 : decide ((p : Int) + 1 < (s.size : Int)) = false := decide_eq_false g
   clear hbc hx0
   go_enter Try.func44, Try.ntmps44
   go_wp2
   go_ret
   exact ⟨ret_str (by rw [HE.out, HB.out]; rfl), rfl⟩
 have e58 : (c == 58) = false := beq_eq_false_iff_ne.2 h58
 have hsl : (p : Int) + 1 ≤ s.size := by omega
 have HX := Lib.hid hx0
 have HCC := Lib.hid (fun (g1 : p + 1 < s.size) => (show ((s.extract p (p + 2)).toList == [(58 : UInt8), 58]) = false from by rw [beq_eq_false_iff_ne]; exact fun q => h58 (by rw [← hbc]; exact ((cc_is g1).1 q).1)))
 clear hx0
 by_cases g : (p : Int) + 1 < s.size
 ·
  have e2 := HCC.out (by omega)
  have g2 : (p : Int) + 2 ≤ s.size := by omega
  clear HCC
  by_cases h59 : c = 59
  ·
   subst h59
   have HE := Lib.hid (sgO_one (s := s) (p := p) (by rw [hbc]; decide) (by rw [hbc]; decide))
   clear hbc
   go_enter Try.func44, Try.ntmps44
   go_wp2
   go_ret
   exact ⟨ret_str (by rw [HE.out]), rfl⟩
  have e59 : (c == 59) = false := beq_eq_false_iff_ne.2 h59
  by_cases h61 : c = 61
  ·
   subst h61
   have HE := Lib.hid (sgO_one (s := s) (p := p) (by rw [hbc]; decide) (by rw [hbc]; decide))
   clear hbc
   go_enter Try.func44, Try.ntmps44
   go_wp2
   go_ret
   exact ⟨ret_str (by rw [HE.out]), rfl⟩
  have e61 : (c == 61) = false := beq_eq_false_iff_ne.2 h61
  by_cases h47 : c = 47
  ·
   subst h47
   have HE := Lib.hid (sgO_one (s := s) (p := p) (by rw [hbc]; decide) (by rw [hbc]; decide))
   clear hbc
   go_enter Try.func44, Try.ntmps44
   go_wp2
   go_ret
   exact ⟨ret_str (by rw [HE.out]), rfl⟩
  have e47 : (c == 47) = false := beq_eq_false_iff_ne.2 h47
  by_cases h38 : c = 38
  ·
   subst h38
   have HE := Lib.hid (sgO_one (s := s) (p := p) (by rw [hbc]; decide) (by rw [hbc]; decide))
   clear hbc
   go_enter Try.func44, Try.ntmps44
   go_wp2
   go_ret
   exact ⟨ret_str (by rw [HE.out]), rfl⟩
  have e38 : (c == 38) = false := beq_eq_false_iff_ne.2 h38
  by_cases h33 : c = 33
  ·
   subst h33
   have HE := Lib.hid (sgO_one (s := s) (p := p) (by rw [hbc]; decide) (by rw [hbc]; decide))
   clear hbc
   go_enter Try.func44, Try.ntmps44
   go_wp2
   go_ret
   exact ⟨ret_str (by rw [HE.out]), rfl⟩
  have e33 : (c == 33) = false := beq_eq_false_iff_ne.2 h33
  by_cases h126 : c = 126
  ·
   subst h126
   have HE := Lib.hid (sgO_one (s := s) (p := p) (by rw [hbc]; decide) (by rw [hbc]; decide))
   clear hbc
   go_enter Try.func44, Try.ntmps44
   go_wp2
   go_ret
   exact ⟨ret_str (by rw [HE.out]), rfl⟩
  have e126 : (c == 126) = false := beq_eq_false_iff_ne.2 h126
  by_cases h42 : c = 42
  ·
   subst h42
   have HE := Lib.hid (sgO_one (s := s) (p := p) (by rw [hbc]; decide) (by rw [hbc]; decide))
   clear hbc
   go_enter Try.func44, Try.ntmps44
   go_wp2
   go_ret
   exact ⟨ret_str (by rw [HE.out]), rfl⟩
  have e42 : (c == 42) = false := beq_eq_false_iff_ne.2 h42
  by_cases h43 : c = 43
  ·
   subst h43
   have HE := Lib.hid (sgO_one (s := s) (p := p) (by rw [hbc]; decide) (by rw [hbc]; decide))
   clear hbc
   go_enter Try.func44, Try.ntmps44
   go_wp2
   go_ret
   exact ⟨ret_str (by rw [HE.out]), rfl⟩
  have e43 : (c == 43) = false := beq_eq_false_iff_ne.2 h43
  by_cases h63 : c = 63
  ·
   subst h63
   have HE := Lib.hid (sgO_one (s := s) (p := p) (by rw [hbc]; decide) (by rw [hbc]; decide))
   clear hbc
   go_enter Try.func44, Try.ntmps44
   go_wp2
   go_ret
   exact ⟨ret_str (by rw [HE.out]), rfl⟩
  have e63 : (c == 63) = false := beq_eq_false_iff_ne.2 h63
  by_cases h46 : c = 46
  ·
   subst h46
   have HE := Lib.hid (sgO_one (s := s) (p := p) (by rw [hbc]; decide) (by rw [hbc]; decide))
   clear hbc
   go_enter Try.func44, Try.ntmps44
   go_wp2
   go_ret
   exact ⟨ret_str (by rw [HE.out]), rfl⟩
  have e46 : (c == 46) = false := beq_eq_false_iff_ne.2 h46
  by_cases h40 : c = 40
  ·
   subst h40
   have HE := Lib.hid (sgO_one (s := s) (p := p) (by rw [hbc]; decide) (by rw [hbc]; decide))
   clear hbc
   go_enter Try.func44, Try.ntmps44
   go_wp2
   go_ret
   exact ⟨ret_str (by rw [HE.out]), rfl⟩
  have e40 : (c == 40) = false := beq_eq_false_iff_ne.2 h40
  by_cases h41 : c = 41
  ·
   subst h41
   have HE := Lib.hid (sgO_one (s := s) (p := p) (by rw [hbc]; decide) (by rw [hbc]; decide))
   clear hbc
   go_enter Try.func44, Try.ntmps44
   go_wp2
   go_ret
   exact ⟨ret_str (by rw [HE.out]), rfl⟩
  have e41 : (c == 41) = false := beq_eq_false_iff_ne.2 h41
  have HE := Lib.hid (sgO_no (s := s) (p := p) (by rw [hbc]; exact h58) (by rw [hbc]; unfold sgB; rw [e59, e61, e47, e38, e33, e126, e42, e43, e63, e46, e40, e41]; rfl))
  clear hbc
  go_enter Try.func44, Try.ntmps44
  go_wp2
  go_ret
  exact ⟨ret_str (by rw [HE.out]; exact HX.out.symm), rfl⟩
 ·
  have g2 : decide ((p : Int) + 1 < (s.size : Int)) = false := decide_eq_false g
  clear HCC
  by_cases h59 : c = 59
  ·
   subst h59
   have HE := Lib.hid (sgO_one (s := s) (p := p) (by rw [hbc]; decide) (by rw [hbc]; decide))
   clear hbc
   go_enter Try.func44, Try.ntmps44
   go_wp2
   go_ret
   exact ⟨ret_str (by rw [HE.out]), rfl⟩
  have e59 : (c == 59) = false := beq_eq_false_iff_ne.2 h59
  by_cases h61 : c = 61
  ·
   subst h61
   have HE := Lib.hid (sgO_one (s := s) (p := p) (by rw [hbc]; decide) (by rw [hbc]; decide))
   clear hbc
   go_enter Try.func44, Try.ntmps44
   go_wp2
   go_ret
   exact ⟨ret_str (by rw [HE.out]), rfl⟩
  have e61 : (c == 61) = false := beq_eq_false_iff_ne.2 h61
  by_cases h47 : c = 47
  ·
   subst h47
   have HE := Lib.hid (sgO_one (s := s) (p := p) (by rw [hbc]; decide) (by rw [hbc]; decide))
   clear hbc
   go_enter Try.func44, Try.ntmps44
   go_wp2
   go_ret
   exact ⟨ret_str (by rw [HE.out]), rfl⟩
  have e47 : (c == 47) = false := beq_eq_false_iff_ne.2 h47
  by_cases h38 : c = 38
  ·
   subst h38
   have HE := Lib.hid (sgO_one (s := s) (p := p) (by rw [hbc]; decide) (by rw [hbc]; decide))
   clear hbc
   go_enter Try.func44, Try.ntmps44
   go_wp2
   go_ret
   exact ⟨ret_str (by rw [HE.out]), rfl⟩
  have e38 : (c == 38) = false := beq_eq_false_iff_ne.2 h38
  by_cases h33 : c = 33
  ·
   subst h33
   have HE := Lib.hid (sgO_one (s := s) (p := p) (by rw [hbc]; decide) (by rw [hbc]; decide))
   clear hbc
   go_enter Try.func44, Try.ntmps44
   go_wp2
   go_ret
   exact ⟨ret_str (by rw [HE.out]), rfl⟩
  have e33 : (c == 33) = false := beq_eq_false_iff_ne.2 h33
  by_cases h126 : c = 126
  ·
   subst h126
   have HE := Lib.hid (sgO_one (s := s) (p := p) (by rw [hbc]; decide) (by rw [hbc]; decide))
   clear hbc
   go_enter Try.func44, Try.ntmps44
   go_wp2
   go_ret
   exact ⟨ret_str (by rw [HE.out]), rfl⟩
  have e126 : (c == 126) = false := beq_eq_false_iff_ne.2 h126
  by_cases h42 : c = 42
  ·
   subst h42
   have HE := Lib.hid (sgO_one (s := s) (p := p) (by rw [hbc]; decide) (by rw [hbc]; decide))
   clear hbc
   go_enter Try.func44, Try.ntmps44
   go_wp2
   go_ret
   exact ⟨ret_str (by rw [HE.out]), rfl⟩
  have e42 : (c == 42) = false := beq_eq_false_iff_ne.2 h42
  by_cases h43 : c = 43
  ·
   subst h43
   have HE := Lib.hid (sgO_one (s := s) (p := p) (by rw [hbc]; decide) (by rw [hbc]; decide))
   clear hbc
   go_enter Try.func44, Try.ntmps44
   go_wp2
   go_ret
   exact ⟨ret_str (by rw [HE.out]), rfl⟩
  have e43 : (c == 43) = false := beq_eq_false_iff_ne.2 h43
  by_cases h63 : c = 63
  ·
   subst h63
   have HE := Lib.hid (sgO_one (s := s) (p := p) (by rw [hbc]; decide) (by rw [hbc]; decide))
   clear hbc
   go_enter Try.func44, Try.ntmps44
   go_wp2
   go_ret
   exact ⟨ret_str (by rw [HE.out]), rfl⟩
  have e63 : (c == 63) = false := beq_eq_false_iff_ne.2 h63
  by_cases h46 : c = 46
  ·
   subst h46
   have HE := Lib.hid (sgO_one (s := s) (p := p) (by rw [hbc]; decide) (by rw [hbc]; decide))
   clear hbc
   go_enter Try.func44, Try.ntmps44
   go_wp2
   go_ret
   exact ⟨ret_str (by rw [HE.out]), rfl⟩
  have e46 : (c == 46) = false := beq_eq_false_iff_ne.2 h46
  by_cases h40 : c = 40
  ·
   subst h40
   have HE := Lib.hid (sgO_one (s := s) (p := p) (by rw [hbc]; decide) (by rw [hbc]; decide))
   clear hbc
   go_enter Try.func44, Try.ntmps44
   go_wp2
   go_ret
   exact ⟨ret_str (by rw [HE.out]), rfl⟩
  have e40 : (c == 40) = false := beq_eq_false_iff_ne.2 h40
  by_cases h41 : c = 41
  ·
   subst h41
   have HE := Lib.hid (sgO_one (s := s) (p := p) (by rw [hbc]; decide) (by rw [hbc]; decide))
   clear hbc
   go_enter Try.func44, Try.ntmps44
   go_wp2
   go_ret
   exact ⟨ret_str (by rw [HE.out]), rfl⟩
  have e41 : (c == 41) = false := beq_eq_false_iff_ne.2 h41
  have HE := Lib.hid (sgO_no (s := s) (p := p) (by rw [hbc]; exact h58) (by rw [hbc]; unfold sgB; rw [e59, e61, e47, e38, e33, e126, e42, e43, e63, e46, e40, e41]; rfl))
  clear hbc
  go_enter Try.func44, Try.ntmps44
  go_wp2
  go_ret
  exact ⟨ret_str (by rw [HE.out]; exact HX.out.symm), rfl⟩
end Go.Proofs.Ytonknapfndaalaa

namespace Go.Proofs.Ytonknapfndaalaa
set_option linter.unusedVariables false
set_option maxRecDepth 1000000
open Go.RowKit
theorem cnt_zero {p : Nat → Bool} : ∀ n, cnt p n = 0 → ∀ x, x < n → p x = false
 | 0, _, x, hx => by omega
 | n + 1, h, x, hx => by
  have e : cnt p (n + 1) = cnt p n + (if p n then 1 else 0) := rfl
  rw [e] at h
  by_cases g : x = n
  ·
   subst g
   cases hp : p x
   ·
    rfl
   ·
    rw [hp] at h; simp at h
  ·
   exact cnt_zero n (by omega) x (by omega)
theorem card_zero {a b c d : Nat} (hf : fits (a, b, c, d)) (h : card a b c d = 0) : (a, b, c, d) = set0 := by
 rw [card_cnt] at h
 refine set_ext hf fits0 fun x hx => ?_
 show inSet a b c d x = inSet 0 0 0 0 x
 rw [cnt_zero 256 h x hx]
 unfold inSet word
 split <;> simp
theorem card_0 : card 0 0 0 0 = 0 := by decide +kernel
theorem card_none {a b c d : Nat} (h : (a, b, c, d) = set0) : card a b c d = 0 := by
 simp only [set0, Prod.mk.injEq] at h
 obtain ⟨rfl, rfl, rfl, rfl⟩ := h
 exact card_0
set_option maxHeartbeats 3200000 in
set_option maxRecDepth 100000 in
theorem readclass_any (s : ByteArray) (hs : s.size ≤ 1000000) (i : Int) (w : World) :
  Calls Try.prog 69 #[.string s, .int .i64 i] w fun e w' => e = .returned (clsT (clsO s i)) ∧ Below w.heap.size w w' := by
 have HF := Lib.hid (show clsO s i = if standB s i 91 = true then endR (standB s (i + 1) 94) (rwsF s (s.size + 1) (i.toNat + 1 + (if standB s (i + 1) 94 = true then 1 else 0)) set0) else none from rfl)
 have HS91 := Lib.hid (fun W => stands_any s i 91 W)
 obtain ⟨b0, hb0⟩ : ∃ b0, standB s i 91 = b0 := ⟨_, rfl⟩
 rw [hb0] at HS91 HF
 cases b0
 ·
  have HE := Lib.hid (show clsO s i = none by rw [HF.out]; rfl)
  have HO1 := Lib.hid (Own.fresh w 25 [.int .u64 0, .int .u64 0, .int .u64 0, .int .u64 0])
  have HB1 := Lib.hid (show Below w.heap.size w (w.alloc (.cells #[.int .u64 0, .int .u64 0, .int .u64 0, .int .u64 0] 25)) from (Below.refl _ _).alloc (Nat.le_refl _) _)
  clear HF hb0
  go_enter Try.func69, Try.ntmps69
  go_wp2_with fail
  refine (HS91.out _).mono ?_
  rintro e wx ⟨rfl, rfl⟩
  go_wp2
  obtain ⟨z0, z1, z2, z3, -⟩ := HO1.out.four
  refine bodyPost_ret (by simp [results, Try.results69, go_sem, z0, z1, z2, z3]; rfl) rfl ?_
  exact ⟨by rw [HE.out]; rfl, HB1.out⟩
 ·
  have hi0 : 0 ≤ i ∧ i < s.size := by
   unfold standB at hb0
   simp at hb0
   exact hb0.1
  obtain ⟨a, rfl⟩ : ∃ a : Nat, i = (a : Int) := ⟨i.toNat, by omega⟩
  rw [Int.toNat_natCast, if_pos rfl] at HF
  obtain ⟨-, ha⟩ := hi0
  clear hb0
  have HS94 := Lib.hid (fun W => stands_any s ((a : Int) + 1) 94 W)
  cases ho : standB s ((a : Int) + 1) 94
  ·
   have HF2 := Lib.hid (show clsO s (a : Int) = endR false (rwsF s (s.size + 1) (a + 1) set0) by rw [HF.out, ho]; rfl)
   have HT0 := Lib.hid (show (if true = true then rwsF s (s.size + 1) (a + 1) set0 else some (set0, (a + 1))) = rwsF s (s.size + 1) (a + 1) set0 ∧ s.size < s.size + 1 + (a + 1) ∧ fits set0 from ⟨rfl, by omega, fits0⟩)
   obtain ⟨o, hro⟩ : ∃ o, rwsF s (s.size + 1) (a + 1) set0 = o := ⟨_, rfl⟩
   rw [hro] at HF2
   conv at HT0 => arg 1; arg 1; rhs; rw [hro]
   rw [ho] at HS94
   clear HF ho hro
   have HO0 := Lib.hid ((Own.fresh w 25 [.int .u64 0, .int .u64 0, .int .u64 0, .int .u64 0]).on_alloc (.cells #[.int .u64 0, .int .u64 0, .int .u64 0, .int .u64 0] 25))
   have HX0 := Lib.hid (Own.fresh' (w := w.alloc (.cells #[.int .u64 0, .int .u64 0, .int .u64 0, .int .u64 0] 25)) (g := w.heap.size + 1) (by simp) 25 [.int .u64 0, .int .u64 0, .int .u64 0, .int .u64 0])
   have HB0 := Lib.hid (show Below w.heap.size w ((w.alloc (.cells #[.int .u64 0, .int .u64 0, .int .u64 0, .int .u64 0] 25)).alloc (.cells #[.int .u64 0, .int .u64 0, .int .u64 0, .int .u64 0] 25)) from ((Below.refl _ _).alloc (Nat.le_refl _) _).alloc (by simp) _)
   go_enter Try.func69, Try.ntmps69
   go_wp2_with fail
   refine (HS91.out _).mono ?_
   rintro e wx ⟨rfl, rfl⟩
   go_wp2_with fail
   refine (HS94.out _).mono ?_
   rintro e wx ⟨rfl, rfl⟩
   go_wp2_with fail
   clear HS91 HS94
   go_loopw [1, 9] (fun b1 b9 wr => ∃ (k f X0 X1 X2 X3 : Nat) (more : Bool), b1 = .int .i64 (k : Int) ∧ b9 = .bool more ∧ (k : Int) ≤ 1000100 ∧ Hid ((if more = true then rwsF s f k (X0, X1, X2, X3) else some ((X0, X1, X2, X3), k)) = o ∧ s.size < f + k ∧ fits (X0, X1, X2, X3)) ∧ Hid (Own wr w.heap.size 25 [.int .u64 0, .int .u64 0, .int .u64 0, .int .u64 0]) ∧ Hid (Own wr (w.heap.size + 1) 25 [.int .u64 (X0 : Int), .int .u64 (X1 : Int), .int .u64 (X2 : Int), .int .u64 (X3 : Int)]) ∧ Hid (Below w.heap.size w wr)) (fun b1 _ _ => 1200000 - (intOf b1).toNat)
   case atStart => exact ⟨(a + 1), s.size + 1, 0, 0, 0, 0, true, by go_num, rfl, by omega, HT0, HO0, HX0, HB0⟩
   case round =>
    obtain ⟨k, f, X0, X1, X2, X3, more, rfl, rfl, hk, HT, HO, HX, HB⟩ := hrel
    clear HT0 HO0 HX0 HB0
    cases more
    ·
     have HFX := Lib.hid (show fits (X0, X1, X2, X3) from HT.out.2.2)
     have HFY := Lib.hid (show fits (X0, X1, X2, X3) from HT.out.2.2)
     have HE0 := Lib.hid (show clsO s (a : Int) = if (X0, X1, X2, X3) = set0 then none else some ((X0, X1, X2, X3), k + 1) by rw [HF2.out, ← HT.out.1]; rfl)
     obtain ⟨q, hq⟩ : ∃ q, card X0 X1 X2 X3 = q := ⟨_, rfl⟩
     have HC := Lib.hid (fun W => count_any X0 X1 X2 X3 HFY.out.1 HFY.out.2.1 HFY.out.2.2.1 HFY.out.2.2.2 W)
     rw [hq] at HC
     clear HT HF2
     obtain ⟨x0, x1, x2, x3, v0, v1, v2, v3⟩ := HX.out.four
     have HO4 := HO
     have HX4 := HX
     have HB4 := HB
     clear HO HX HB
     go_wp2_with fail
     refine (HC.out _).mono ?_
     rintro e w5 ⟨rfl, hb5⟩
     have HO5 := Lib.hid (HO4.out.under hb5 HO4.out.lt)
     have HX5 := Lib.hid (HX4.out.under hb5 HX4.out.lt)
     have HB5 := Lib.hid (keepb HB4.out hb5)
     clear hb5 HO4 HX4 HB4 x0 x1 x2 x3 v0 v1 v2 v3 HC
     obtain ⟨x0, x1, x2, x3, v0, v1, v2, v3⟩ := HX5.out.four
     obtain ⟨z0, z1, z2, z3, y0, y1, y2, y3⟩ := HO5.out.four
     by_cases g : q = 0
     ·
      subst g
      have HE := Lib.hid (show clsO s (a : Int) = none by rw [HE0.out]; exact if_pos (card_zero HFY.out hq))
      clear HE0 hq
      go_wp2
      rw [set4_fold]
      have hF := HO5.out.put4 (u0 := .int .u64 0) (u1 := .int .u64 0) (u2 := .int .u64 0) (u3 := .int .u64 0)
      have hB := below_put4 HB5.out (Nat.le_refl _) (.int .u64 0) (.int .u64 0) (.int .u64 0) (.int .u64 0)
      clear z0 z1 z2 z3 y0 y1 y2 y3
      obtain ⟨z0, z1, z2, z3, -⟩ := hF.four
      refine bodyPost_ret (by simp [results, Try.results69, go_sem, z0, z1, z2, z3]; rfl) rfl ?_
      exact ⟨by rw [HE.out]; rfl, hB⟩
     ·
      have g2 : ((q : Int) == 0) = false := beq_eq_false_iff_ne.2 (by omega)
      have HE := Lib.hid (show clsO s (a : Int) = some ((X0, X1, X2, X3), k + 1) by rw [HE0.out]; exact if_neg (fun e => g (hq.symm.trans (card_none e))))
      clear HE0 hq
      go_wp2
      rw [set4_fold]
      have hF := HO5.out.put4 (u0 := .int .u64 (X0 : Int)) (u1 := .int .u64 (X1 : Int)) (u2 := .int .u64 (X2 : Int)) (u3 := .int .u64 (X3 : Int))
      have hB := below_put4 HB5.out (Nat.le_refl _) (.int .u64 (X0 : Int)) (.int .u64 (X1 : Int)) (.int .u64 (X2 : Int)) (.int .u64 (X3 : Int))
      clear z0 z1 z2 z3 y0 y1 y2 y3
      obtain ⟨z0, z1, z2, z3, -⟩ := hF.four
      refine bodyPost_ret (by simp [results, Try.results69, go_sem, z0, z1, z2, z3]; rfl) rfl ?_
      exact ⟨by rw [HE.out]; rfl, hB⟩
    ·
     have HR := Lib.hid (fun W => row_any s hs k (by omega) W)
     cases hq : rowO s k with
     | none =>
      have HE := Lib.hid (show clsO s (a : Int) = none by rw [HF2.out, ← HT.out.1, if_pos rfl, rwsF_no hq]; rfl)
      rw [hq] at HR
      simp only [rowT] at HR
      clear hq HT HF2
      go_wp2_with fail
      refine (HR.out _).mono ?_
      rintro e w2 ⟨he, hb2⟩
      subst he
      have HO2 := Lib.hid (HO.out.under hb2 HO.out.lt)
      have HB2 := Lib.hid (keepb HB.out hb2)
      have hlt2 := HO2.out.lt
      clear hb2 HO HX HB HR
      obtain ⟨z0, z1, z2, z3, y0, y1, y2, y3⟩ := HO2.out.four
      go_wp2
      rw [set4_fold]
      have hF := (HO2.out.put4 (u0 := .int .u64 0) (u1 := .int .u64 0) (u2 := .int .u64 0) (u3 := .int .u64 0)).on_alloc (.cells #[.int .u64 0, .int .u64 0, .int .u64 0, .int .u64 0] 25)
      have hB0 := below_put4 HB2.out (Nat.le_refl _) (.int .u64 0) (.int .u64 0) (.int .u64 0) (.int .u64 0)
      have hB := hB0.alloc hB0.size (.cells #[.int .u64 0, .int .u64 0, .int .u64 0, .int .u64 0] 25)
      clear z0 z1 z2 z3 y0 y1 y2 y3
      obtain ⟨z0, z1, z2, z3, -⟩ := hF.four
      refine bodyPost_ret (by simp [results, Try.results69, go_sem, z0, z1, z2, z3]; rfl) rfl ?_
      exact ⟨by rw [HE.out]; rfl, hB⟩
     | some p =>
      obtain ⟨⟨lo, hi⟩, m⟩ := p
      have hbd := rowO_bd hq
      obtain ⟨bd, hd⟩ : ∃ bd, standB s (m : Int) 93 = bd := ⟨_, rfl⟩
      have HT2 := Lib.hid (show (if (!bd) = true then rwsF s (f - 1) m (orR (X0, X1, X2, X3) lo hi) else some (orR (X0, X1, X2, X3) lo hi, m)) = o ∧ s.size < (f - 1) + m ∧ fits (orR (X0, X1, X2, X3) lo hi) from
       ⟨by rw [← HT.out.1, if_pos rfl, rwsF_go HT.out.2.1 hq, hd]; cases bd <;> rfl, by have := HT.out.2.1; omega, orR_fits HT.out.2.2 lo hi⟩)
      have HS := Lib.hid (fun W => stands_any s (m : Int) 93 W)
      have HOR := Lib.hid (fun W => or_any X0 X1 X2 X3 (rowW 0 lo (hi + 1)) (rowW 1 lo (hi + 1)) (rowW 2 lo (hi + 1)) (rowW 3 lo (hi + 1)) HT.out.2.2.1 HT.out.2.2.2.1 HT.out.2.2.2.2.1 HT.out.2.2.2.2.2 (rowW_lt ..) (rowW_lt ..) (rowW_lt ..) (rowW_lt ..) W)
      rw [hd] at HS
      rw [hq] at HR
      simp only [rowT] at HR
      obtain ⟨q1, q2, q3, -, -⟩ := hbd
      clear hq HT HF2 hd
      go_wp2_with fail
      refine (HR.out _).mono ?_
      rintro e w2 ⟨he, hb2⟩
      subst he
      have HO2 := Lib.hid (HO.out.under hb2 HO.out.lt)
      have HX2 := Lib.hid (HX.out.under hb2 HX.out.lt)
      have HB2 := Lib.hid (keepb HB.out hb2)
      have hlt2 := HX2.out.lt
      have HOE := Lib.hid (HO2.out.on_alloc (.cells #[.int .u64 (rowW 0 lo (hi + 1) : Int), .int .u64 (rowW 1 lo (hi + 1) : Int), .int .u64 (rowW 2 lo (hi + 1) : Int), .int .u64 (rowW 3 lo (hi + 1) : Int)] 25))
      have HXE := Lib.hid (HX2.out.on_alloc (.cells #[.int .u64 (rowW 0 lo (hi + 1) : Int), .int .u64 (rowW 1 lo (hi + 1) : Int), .int .u64 (rowW 2 lo (hi + 1) : Int), .int .u64 (rowW 3 lo (hi + 1) : Int)] 25))
      have HBE := Lib.hid (HB2.out.alloc HB2.out.size (.cells #[.int .u64 (rowW 0 lo (hi + 1) : Int), .int .u64 (rowW 1 lo (hi + 1) : Int), .int .u64 (rowW 2 lo (hi + 1) : Int), .int .u64 (rowW 3 lo (hi + 1) : Int)] 25))
      obtain ⟨x0, x1, x2, x3, v0, v1, v2, v3⟩ := HX2.out.four
      clear hb2 HO HX HB HR HO2 HX2 HB2
      go_wp2_with fail
      refine (HOR.out _).mono ?_
      rintro e w3 ⟨he, hb3⟩
      subst he
      have HO3 := Lib.hid (HOE.out.under hb3 HOE.out.lt)
      have HX3 := Lib.hid (HXE.out.under hb3 HXE.out.lt)
      have HB3 := Lib.hid (keepb HBE.out hb3)
      clear hb3 HOE HXE HBE HOR x0 x1 x2 x3 v0 v1 v2 v3
      obtain ⟨x0, x1, x2, x3, v0, v1, v2, v3⟩ := HX3.out.four
      go_wp2_with fail
      refine (HS.out _).mono ?_
      rintro e wx ⟨rfl, rfl⟩
      go_wp2
      go_roundw
      case rel => exact ⟨m, f - 1, _, _, _, _, !bd, rfl, rfl, by omega, HT2, Lib.hid (HO3.out.off4 (by omega) _ _ _ _), Lib.hid (HX3.out.put4), Lib.hid (below_put4 HB3.out (by omega) _ _ _ _)⟩
      case measure => simp [intOf]; omega
  ·
   have HF2 := Lib.hid (show clsO s (a : Int) = endR true (rwsF s (s.size + 1) (a + 1 + 1) set0) by rw [HF.out, ho]; rfl)
   have HT0 := Lib.hid (show (if true = true then rwsF s (s.size + 1) (a + 1 + 1) set0 else some (set0, (a + 1 + 1))) = rwsF s (s.size + 1) (a + 1 + 1) set0 ∧ s.size < s.size + 1 + (a + 1 + 1) ∧ fits set0 from ⟨rfl, by omega, fits0⟩)
   obtain ⟨o, hro⟩ : ∃ o, rwsF s (s.size + 1) (a + 1 + 1) set0 = o := ⟨_, rfl⟩
   rw [hro] at HF2
   conv at HT0 => arg 1; arg 1; rhs; rw [hro]
   rw [ho] at HS94
   clear HF ho hro
   have HO0 := Lib.hid ((Own.fresh w 25 [.int .u64 0, .int .u64 0, .int .u64 0, .int .u64 0]).on_alloc (.cells #[.int .u64 0, .int .u64 0, .int .u64 0, .int .u64 0] 25))
   have HX0 := Lib.hid (Own.fresh' (w := w.alloc (.cells #[.int .u64 0, .int .u64 0, .int .u64 0, .int .u64 0] 25)) (g := w.heap.size + 1) (by simp) 25 [.int .u64 0, .int .u64 0, .int .u64 0, .int .u64 0])
   have HB0 := Lib.hid (show Below w.heap.size w ((w.alloc (.cells #[.int .u64 0, .int .u64 0, .int .u64 0, .int .u64 0] 25)).alloc (.cells #[.int .u64 0, .int .u64 0, .int .u64 0, .int .u64 0] 25)) from ((Below.refl _ _).alloc (Nat.le_refl _) _).alloc (by simp) _)
   go_enter Try.func69, Try.ntmps69
   go_wp2_with fail
   refine (HS91.out _).mono ?_
   rintro e wx ⟨rfl, rfl⟩
   go_wp2_with fail
   refine (HS94.out _).mono ?_
   rintro e wx ⟨rfl, rfl⟩
   go_wp2_with fail
   clear HS91 HS94
   go_loopw [1, 9] (fun b1 b9 wr => ∃ (k f X0 X1 X2 X3 : Nat) (more : Bool), b1 = .int .i64 (k : Int) ∧ b9 = .bool more ∧ (k : Int) ≤ 1000100 ∧ Hid ((if more = true then rwsF s f k (X0, X1, X2, X3) else some ((X0, X1, X2, X3), k)) = o ∧ s.size < f + k ∧ fits (X0, X1, X2, X3)) ∧ Hid (Own wr w.heap.size 25 [.int .u64 0, .int .u64 0, .int .u64 0, .int .u64 0]) ∧ Hid (Own wr (w.heap.size + 1) 25 [.int .u64 (X0 : Int), .int .u64 (X1 : Int), .int .u64 (X2 : Int), .int .u64 (X3 : Int)]) ∧ Hid (Below w.heap.size w wr)) (fun b1 _ _ => 1200000 - (intOf b1).toNat)
   case atStart => exact ⟨(a + 1 + 1), s.size + 1, 0, 0, 0, 0, true, by go_num, rfl, by omega, HT0, HO0, HX0, HB0⟩
   case round =>
    obtain ⟨k, f, X0, X1, X2, X3, more, rfl, rfl, hk, HT, HO, HX, HB⟩ := hrel
    clear HT0 HO0 HX0 HB0
    cases more
    ·
     have HFX := Lib.hid (show fits (X0, X1, X2, X3) from HT.out.2.2)
     have HFY := Lib.hid (show fits ((notW X0), (notW X1), (notW X2), (notW X3)) from ⟨notW_lt _, notW_lt _, notW_lt _, notW_lt _⟩)
     have HE0 := Lib.hid (show clsO s (a : Int) = if ((notW X0), (notW X1), (notW X2), (notW X3)) = set0 then none else some (((notW X0), (notW X1), (notW X2), (notW X3)), k + 1) by rw [HF2.out, ← HT.out.1]; rfl)
     obtain ⟨q, hq⟩ : ∃ q, card (notW X0) (notW X1) (notW X2) (notW X3) = q := ⟨_, rfl⟩
     have HC := Lib.hid (fun W => count_any (notW X0) (notW X1) (notW X2) (notW X3) HFY.out.1 HFY.out.2.1 HFY.out.2.2.1 HFY.out.2.2.2 W)
     rw [hq] at HC
     clear HT HF2
     obtain ⟨x0, x1, x2, x3, v0, v1, v2, v3⟩ := HX.out.four
     have HN := Lib.hid (fun W => not_any X0 X1 X2 X3 HFX.out.1 HFX.out.2.1 HFX.out.2.2.1 HFX.out.2.2.2 W)
     go_wp2_with fail
     refine (HN.out _).mono ?_
     rintro e w3 ⟨rfl, hb3⟩
     have HO3 := Lib.hid (HO.out.under hb3 HO.out.lt)
     have HX3 := Lib.hid (HX.out.under hb3 HX.out.lt)
     have HB3 := Lib.hid (keepb HB.out hb3)
     clear hb3 HO HX HB x0 x1 x2 x3 v0 v1 v2 v3 HN
     obtain ⟨x0, x1, x2, x3, v0, v1, v2, v3⟩ := HX3.out.four
     have HO4 := Lib.hid (HO3.out.off4 (k := w.heap.size + 1) (by omega) (.int .u64 (notW X0 : Int)) (.int .u64 (notW X1 : Int)) (.int .u64 (notW X2 : Int)) (.int .u64 (notW X3 : Int)))
     have HX4 := Lib.hid (HX3.out.put4 (u0 := .int .u64 (notW X0 : Int)) (u1 := .int .u64 (notW X1 : Int)) (u2 := .int .u64 (notW X2 : Int)) (u3 := .int .u64 (notW X3 : Int)))
     have HB4 := Lib.hid (below_put4 (g := w.heap.size + 1) HB3.out (by omega) (.int .u64 (notW X0 : Int)) (.int .u64 (notW X1 : Int)) (.int .u64 (notW X2 : Int)) (.int .u64 (notW X3 : Int)))
     clear HO3 HX3 HB3
     go_wp2_with fail
     refine (HC.out _).mono ?_
     rintro e w5 ⟨rfl, hb5⟩
     have HO5 := Lib.hid (HO4.out.under hb5 HO4.out.lt)
     have HX5 := Lib.hid (HX4.out.under hb5 HX4.out.lt)
     have HB5 := Lib.hid (keepb HB4.out hb5)
     clear hb5 HO4 HX4 HB4 x0 x1 x2 x3 v0 v1 v2 v3 HC
     obtain ⟨x0, x1, x2, x3, v0, v1, v2, v3⟩ := HX5.out.four
     obtain ⟨z0, z1, z2, z3, y0, y1, y2, y3⟩ := HO5.out.four
     by_cases g : q = 0
     ·
      subst g
      have HE := Lib.hid (show clsO s (a : Int) = none by rw [HE0.out]; exact if_pos (card_zero HFY.out hq))
      clear HE0 hq
      go_wp2
      rw [set4_fold]
      have hF := HO5.out.put4 (u0 := .int .u64 0) (u1 := .int .u64 0) (u2 := .int .u64 0) (u3 := .int .u64 0)
      have hB := below_put4 HB5.out (Nat.le_refl _) (.int .u64 0) (.int .u64 0) (.int .u64 0) (.int .u64 0)
      clear z0 z1 z2 z3 y0 y1 y2 y3
      obtain ⟨z0, z1, z2, z3, -⟩ := hF.four
      refine bodyPost_ret (by simp [results, Try.results69, go_sem, z0, z1, z2, z3]; rfl) rfl ?_
      exact ⟨by rw [HE.out]; rfl, hB⟩
     ·
      have g2 : ((q : Int) == 0) = false := beq_eq_false_iff_ne.2 (by omega)
      have HE := Lib.hid (show clsO s (a : Int) = some (((notW X0), (notW X1), (notW X2), (notW X3)), k + 1) by rw [HE0.out]; exact if_neg (fun e => g (hq.symm.trans (card_none e))))
      clear HE0 hq
      go_wp2
      rw [set4_fold]
      have hF := HO5.out.put4 (u0 := .int .u64 (notW X0 : Int)) (u1 := .int .u64 (notW X1 : Int)) (u2 := .int .u64 (notW X2 : Int)) (u3 := .int .u64 (notW X3 : Int))
      have hB := below_put4 HB5.out (Nat.le_refl _) (.int .u64 (notW X0 : Int)) (.int .u64 (notW X1 : Int)) (.int .u64 (notW X2 : Int)) (.int .u64 (notW X3 : Int))
      clear z0 z1 z2 z3 y0 y1 y2 y3
      obtain ⟨z0, z1, z2, z3, -⟩ := hF.four
      refine bodyPost_ret (by simp [results, Try.results69, go_sem, z0, z1, z2, z3]; rfl) rfl ?_
      exact ⟨by rw [HE.out]; rfl, hB⟩
    ·
     have HR := Lib.hid (fun W => row_any s hs k (by omega) W)
     cases hq : rowO s k with
     | none =>
      have HE := Lib.hid (show clsO s (a : Int) = none by rw [HF2.out, ← HT.out.1, if_pos rfl, rwsF_no hq]; rfl)
      rw [hq] at HR
      simp only [rowT] at HR
      clear hq HT HF2
      go_wp2_with fail
      refine (HR.out _).mono ?_
      rintro e w2 ⟨he, hb2⟩
      subst he
      have HO2 := Lib.hid (HO.out.under hb2 HO.out.lt)
      have HB2 := Lib.hid (keepb HB.out hb2)
      have hlt2 := HO2.out.lt
      clear hb2 HO HX HB HR
      obtain ⟨z0, z1, z2, z3, y0, y1, y2, y3⟩ := HO2.out.four
      go_wp2
      rw [set4_fold]
      have hF := (HO2.out.put4 (u0 := .int .u64 0) (u1 := .int .u64 0) (u2 := .int .u64 0) (u3 := .int .u64 0)).on_alloc (.cells #[.int .u64 0, .int .u64 0, .int .u64 0, .int .u64 0] 25)
      have hB0 := below_put4 HB2.out (Nat.le_refl _) (.int .u64 0) (.int .u64 0) (.int .u64 0) (.int .u64 0)
      have hB := hB0.alloc hB0.size (.cells #[.int .u64 0, .int .u64 0, .int .u64 0, .int .u64 0] 25)
      clear z0 z1 z2 z3 y0 y1 y2 y3
      obtain ⟨z0, z1, z2, z3, -⟩ := hF.four
      refine bodyPost_ret (by simp [results, Try.results69, go_sem, z0, z1, z2, z3]; rfl) rfl ?_
      exact ⟨by rw [HE.out]; rfl, hB⟩
     | some p =>
      obtain ⟨⟨lo, hi⟩, m⟩ := p
      have hbd := rowO_bd hq
      obtain ⟨bd, hd⟩ : ∃ bd, standB s (m : Int) 93 = bd := ⟨_, rfl⟩
      have HT2 := Lib.hid (show (if (!bd) = true then rwsF s (f - 1) m (orR (X0, X1, X2, X3) lo hi) else some (orR (X0, X1, X2, X3) lo hi, m)) = o ∧ s.size < (f - 1) + m ∧ fits (orR (X0, X1, X2, X3) lo hi) from
       ⟨by rw [← HT.out.1, if_pos rfl, rwsF_go HT.out.2.1 hq, hd]; cases bd <;> rfl, by have := HT.out.2.1; omega, orR_fits HT.out.2.2 lo hi⟩)
      have HS := Lib.hid (fun W => stands_any s (m : Int) 93 W)
      have HOR := Lib.hid (fun W => or_any X0 X1 X2 X3 (rowW 0 lo (hi + 1)) (rowW 1 lo (hi + 1)) (rowW 2 lo (hi + 1)) (rowW 3 lo (hi + 1)) HT.out.2.2.1 HT.out.2.2.2.1 HT.out.2.2.2.2.1 HT.out.2.2.2.2.2 (rowW_lt ..) (rowW_lt ..) (rowW_lt ..) (rowW_lt ..) W)
      rw [hd] at HS
      rw [hq] at HR
      simp only [rowT] at HR
      obtain ⟨q1, q2, q3, -, -⟩ := hbd
      clear hq HT HF2 hd
      go_wp2_with fail
      refine (HR.out _).mono ?_
      rintro e w2 ⟨he, hb2⟩
      subst he
      have HO2 := Lib.hid (HO.out.under hb2 HO.out.lt)
      have HX2 := Lib.hid (HX.out.under hb2 HX.out.lt)
      have HB2 := Lib.hid (keepb HB.out hb2)
      have hlt2 := HX2.out.lt
      have HOE := Lib.hid (HO2.out.on_alloc (.cells #[.int .u64 (rowW 0 lo (hi + 1) : Int), .int .u64 (rowW 1 lo (hi + 1) : Int), .int .u64 (rowW 2 lo (hi + 1) : Int), .int .u64 (rowW 3 lo (hi + 1) : Int)] 25))
      have HXE := Lib.hid (HX2.out.on_alloc (.cells #[.int .u64 (rowW 0 lo (hi + 1) : Int), .int .u64 (rowW 1 lo (hi + 1) : Int), .int .u64 (rowW 2 lo (hi + 1) : Int), .int .u64 (rowW 3 lo (hi + 1) : Int)] 25))
      have HBE := Lib.hid (HB2.out.alloc HB2.out.size (.cells #[.int .u64 (rowW 0 lo (hi + 1) : Int), .int .u64 (rowW 1 lo (hi + 1) : Int), .int .u64 (rowW 2 lo (hi + 1) : Int), .int .u64 (rowW 3 lo (hi + 1) : Int)] 25))
      obtain ⟨x0, x1, x2, x3, v0, v1, v2, v3⟩ := HX2.out.four
      clear hb2 HO HX HB HR HO2 HX2 HB2
      go_wp2_with fail
      refine (HOR.out _).mono ?_
      rintro e w3 ⟨he, hb3⟩
      subst he
      have HO3 := Lib.hid (HOE.out.under hb3 HOE.out.lt)
      have HX3 := Lib.hid (HXE.out.under hb3 HXE.out.lt)
      have HB3 := Lib.hid (keepb HBE.out hb3)
      clear hb3 HOE HXE HBE HOR x0 x1 x2 x3 v0 v1 v2 v3
      obtain ⟨x0, x1, x2, x3, v0, v1, v2, v3⟩ := HX3.out.four
      go_wp2_with fail
      refine (HS.out _).mono ?_
      rintro e wx ⟨rfl, rfl⟩
      go_wp2
      go_roundw
      case rel => exact ⟨m, f - 1, _, _, _, _, !bd, rfl, rfl, by omega, HT2, Lib.hid (HO3.out.off4 (by omega) _ _ _ _), Lib.hid (HX3.out.put4), Lib.hid (below_put4 HB3.out (by omega) _ _ _ _)⟩
      case measure => simp [intOf]; omega
end Go.Proofs.Ytonknapfndaalaa

namespace Go.Proofs.Ytonknapfndaalaa
set_option linter.unusedVariables false
set_option maxRecDepth 1000000
open Go.RowKit
theorem Own.seven {w : World} {g : Nat} {t : TypeId} {v0 v1 v2 v3 v4 v5 v6 : Value} (h : Own w g t [v0, v1, v2, v3, v4, v5, v6]) :
  w.cell? ⟨g, 0, none⟩ = some v0 ∧ w.cell? ⟨g, 1, none⟩ = some v1 ∧ w.cell? ⟨g, 2, none⟩ = some v2 ∧ w.cell? ⟨g, 3, none⟩ = some v3 ∧ w.cell? ⟨g, 4, none⟩ = some v4 ∧ w.cell? ⟨g, 5, none⟩ = some v5 ∧ w.cell? ⟨g, 6, none⟩ = some v6 :=
 ⟨h.cell 0, h.cell 1, h.cell 2, h.cell 3, h.cell 4, h.cell 5, h.cell 6⟩
theorem Own.seven2 {w : World} {g : Nat} {t : TypeId} {v0 v1 v2 v3 v4 v5 v6 : Value} (h : Own w g t [v0, v1, v2, v3, v4, v5, v6]) :
  w.cell? ⟨g, 0, none⟩ = some v0 ∧ w.cell? ⟨g, 1, none⟩ = some v1 ∧ w.cell? ⟨g, 2, none⟩ = some v2 ∧ w.cell? ⟨g, 3, none⟩ = some v3 ∧ w.cell? ⟨g, 4, none⟩ = some v4 ∧ w.cell? ⟨g, 5, none⟩ = some v5 ∧ w.cell? ⟨g, 6, none⟩ = some v6 ∧
  w.frozen? ⟨g, 0, none⟩ = false ∧ w.frozen? ⟨g, 1, none⟩ = false ∧ w.frozen? ⟨g, 2, none⟩ = false ∧ w.frozen? ⟨g, 3, none⟩ = false ∧ w.frozen? ⟨g, 4, none⟩ = false ∧ w.frozen? ⟨g, 5, none⟩ = false ∧ w.frozen? ⟨g, 6, none⟩ = false :=
 ⟨h.cell 0, h.cell 1, h.cell 2, h.cell 3, h.cell 4, h.cell 5, h.cell 6, h.thaw 0, h.thaw 1, h.thaw 2, h.thaw 3, h.thaw 4, h.thaw 5, h.thaw 6⟩
def set7t (w : World) (g : Nat) (u0 u1 u2 u3 u4 u5 u6 : Value) : World := ((((((w.setCell ⟨g, 0, none⟩ u0).setCell ⟨g, 1, none⟩ u1).setCell ⟨g, 2, none⟩ u2).setCell ⟨g, 3, none⟩ u3).setCell ⟨g, 4, none⟩ u4).setCell ⟨g, 5, none⟩ u5).setCell ⟨g, 6, none⟩ u6
theorem set7t_fold (w : World) (g : Nat) (u0 u1 u2 u3 u4 u5 u6 : Value) : ((((((w.setCell ⟨g, 0, none⟩ u0).setCell ⟨g, 1, none⟩ u1).setCell ⟨g, 2, none⟩ u2).setCell ⟨g, 3, none⟩ u3).setCell ⟨g, 4, none⟩ u4).setCell ⟨g, 5, none⟩ u5).setCell ⟨g, 6, none⟩ u6 = set7t w g u0 u1 u2 u3 u4 u5 u6 := rfl
theorem Own.put7 {w : World} {g : Nat} {t : TypeId} {v0 v1 v2 v3 v4 v5 v6 u0 u1 u2 u3 u4 u5 u6 : Value} (h : Own w g t [v0, v1, v2, v3, v4, v5, v6]) : Own (set7t w g u0 u1 u2 u3 u4 u5 u6) g t [u0, u1, u2, u3, u4, u5, u6] :=
 ((((((h.put 0 u0).put 1 u1).put 2 u2).put 3 u3).put 4 u4).put 5 u5).put 6 u6
theorem below_put7 {B g : Nat} {a w : World} (h : Below B a w) (hg : B ≤ g) (u0 u1 u2 u3 u4 u5 u6 : Value) : Below B a (set7t w g u0 u1 u2 u3 u4 u5 u6) :=
 ((((((h.setCell (p := ⟨g, 0, none⟩) hg u0).setCell (p := ⟨g, 1, none⟩) hg u1).setCell (p := ⟨g, 2, none⟩) hg u2).setCell (p := ⟨g, 3, none⟩) hg u3).setCell (p := ⟨g, 4, none⟩) hg u4).setCell (p := ⟨g, 5, none⟩) hg u5).setCell (p := ⟨g, 6, none⟩) hg u6
@[go_sem 2000] theorem tbuild2 (k : Int) (t : ByteArray) (w : World) : (Instr.build 48 #[(0, .int .i64 k), (1, .string t)]).run Try.prog w = .ok (.agg #[.int .i64 k, .string t, .int .u64 0, .int .u64 0, .int .u64 0, .int .u64 0, .int .i64 0]) w := run_build w _ _ _ (by kernel_rfl)
@[go_sem 2000] theorem tbuild3 (k a b c d : Int) (w : World) : (Instr.build 48 #[(0, .int .i64 k), (2, .agg #[.int .u64 a, .int .u64 b, .int .u64 c, .int .u64 d])]).run Try.prog w = .ok (.agg #[.int .i64 k, .string ⟨#[]⟩, .int .u64 a, .int .u64 b, .int .u64 c, .int .u64 d, .int .i64 0]) w := run_build w _ _ _ (by kernel_rfl)
@[go_sem 2000] theorem tbuild4 (n : Int) (w : World) : (Instr.build 48 #[(3, .int .i64 n)]).run Try.prog w = .ok (.agg #[.int .i64 0, .string ⟨#[]⟩, .int .u64 0, .int .u64 0, .int .u64 0, .int .u64 0, .int .i64 n]) w := run_build w _ _ _ (by kernel_rfl)
@[go_sem 2000] theorem tbuild5 (k n : Int) (w : World) : (Instr.build 48 #[(0, .int .i64 k), (3, .int .i64 n)]).run Try.prog w = .ok (.agg #[.int .i64 k, .string ⟨#[]⟩, .int .u64 0, .int .u64 0, .int .u64 0, .int .u64 0, .int .i64 n]) w := run_build w _ _ _ (by kernel_rfl)
/-- A token. -/
structure Tok where
 kd : Nat
 tx : ByteArray
 st : Set4
 pos : Nat
def Tok.row (t : Tok) : List Value := [.int .i64 (t.kd : Int), .string t.tx, .int .u64 (t.st.1 : Int), .int .u64 (t.st.2.1 : Int), .int .u64 (t.st.2.2.1 : Int), .int .u64 (t.st.2.2.2 : Int), .int .i64 (t.pos : Int)]
def tokV (t : Tok) : Value := .agg #[.int .i64 (t.kd : Int), .string t.tx, .int .u64 (t.st.1 : Int), .int .u64 (t.st.2.1 : Int), .int .u64 (t.st.2.2.1 : Int), .int .u64 (t.st.2.2.2 : Int), .int .i64 (t.pos : Int)]
def txtK (p : Nat) : Option (ByteArray × Nat) → Option (Tok × Nat)
 | none => none
 | some (u, m) => some (⟨2, u, set0, p⟩, m)
def clsK (p : Nat) : Option (Set4 × Nat) → Option (Tok × Nat)
 | none => none
 | some (x, m) => some (⟨3, ⟨#[]⟩, x, p⟩, m)
/-- The token that begins at a byte. -/
def tkO (s : ByteArray) (p : Nat) : Option (Tok × Nat) :=
 if letB (byt s p) = true then (if nmO s p ≤ 12 then some (⟨1, s.extract p (p + nmO s p), set0, p⟩, p + nmO s p) else none)
 else if byt s p = 34 then txtK p (txtO s (p : Int))
 else if byt s p = 91 then clsK p (clsO s (p : Int))
 else if sgO s p = 0 then none else some (⟨4, s.extract p (p + sgO s p), set0, p⟩, p + sgO s p)
/-- What read answers. -/
def ReadE (o : Option (Tok × Nat)) (p : Nat) (e : Ending) : Prop := ∃ (kd : Nat) (tx : ByteArray) (x0 x1 x2 x3 n : Nat) (b : Bool),
 e = .returned (.tuple #[.agg #[.int .i64 (kd : Int), .string tx, .int .u64 (x0 : Int), .int .u64 (x1 : Int), .int .u64 (x2 : Int), .int .u64 (x3 : Int), .int .i64 0], .int .i64 (n : Int), .bool b]) ∧
 ((o = none ∧ b = false) ∨ (b = true ∧ o = some (⟨kd, tx, (x0, x1, x2, x3), p⟩, n)))
set_option maxHeartbeats 3200000 in
set_option maxRecDepth 100000 in
theorem tread_any (s : ByteArray) (hs : s.size ≤ 1000000) (p : Nat) (hp : p < s.size) (w : World) :
  Calls Try.prog 49 #[.string s, .int .i64 (p : Int)] w fun e w' => ReadE (tkO s p) p e ∧ Below w.heap.size w w' := by
 obtain ⟨c, hc⟩ : ∃ c : Int, (s[p].toNat : Int) = c := ⟨_, rfl⟩
 have hbc : byt s p = c := by rw [byt_get hp, hc]
 have HF := Lib.hid (show tkO s p = if letB c = true then (if nmO s p ≤ 12 then some (⟨1, s.extract p (p + nmO s p), set0, p⟩, p + nmO s p) else none)
  else if c = 34 then txtK p (txtO s (p : Int)) else if c = 91 then clsK p (clsO s (p : Int))
  else if sgO s p = 0 then none else some (⟨4, s.extract p (p + sgO s p), set0, p⟩, p + sgO s p) by unfold tkO; rw [hbc])
 obtain ⟨o, ho⟩ : ∃ o, tkO s p = o := ⟨_, rfl⟩
 rw [ho] at HF ⊢
 clear ho hbc
 have hps : (p : Int) ≤ s.size := by omega
 have HL := Lib.hid (fun W => let_any c W)
 have HR := Lib.hid (rest_size s (p := p) (by omega))
 obtain ⟨bl, hbl⟩ : ∃ bl, letB c = bl := ⟨_, rfl⟩
 have HBL := Lib.hid hbl
 rw [hbl] at HL HF
 clear hbl
 cases bl
 ·
  by_cases h34 : c = 34
  ·
   subst h34
   have HT := Lib.hid (fun W => readtext_any s hs (p : Int) W)
   cases hq : txtO s (p : Int) with
   | none =>
    have HE := Lib.hid (show o = none by rw [HF.out, hq]; rfl)
    rw [hq] at HT
    simp only [txtT] at HT
    clear HF hq
    have HO1 := Lib.hid (Own.fresh w 48 [.int .i64 0, .string ⟨#[]⟩, .int .u64 0, .int .u64 0, .int .u64 0, .int .u64 0, .int .i64 0])
    have HB1 := Lib.hid ((Below.refl w.heap.size w).alloc (Nat.le_refl _) (.cells #[.int .i64 0, .string ⟨#[]⟩, .int .u64 0, .int .u64 0, .int .u64 0, .int .u64 0, .int .i64 0] 48))
    go_enter Try.func49, Try.ntmps49
    go_wp2_with fail
    refine (HL.out _).mono ?_
    rintro e w1 ⟨rfl, rfl⟩
    go_wp2_with fail
    refine (HT.out _).mono ?_
    rintro e w2 ⟨rfl, hb2⟩
    have HO2 := Lib.hid (HO1.out.under hb2 HO1.out.lt)
    have HB2 := Lib.hid (keepb HB1.out hb2)
    clear hb2 HO1 HB1
    obtain ⟨z0, z1, z2, z3, z4, z5, z6, y0, y1, y2, y3, y4, y5, y6⟩ := HO2.out.seven2
    go_wp2
    rw [set7t_fold]
    have HF := HO2.out.put7 (u0 := .int .i64 2) (u1 := .string ⟨#[]⟩) (u2 := .int .u64 0) (u3 := .int .u64 0) (u4 := .int .u64 0) (u5 := .int .u64 0) (u6 := .int .i64 0)
    have HB := below_put7 HB2.out (Nat.le_refl _) (.int .i64 2) (.string ⟨#[]⟩) (.int .u64 0) (.int .u64 0) (.int .u64 0) (.int .u64 0) (.int .i64 0)
    clear z0 z1 z2 z3 z4 z5 z6 y0 y1 y2 y3 y4 y5 y6
    obtain ⟨z0, z1, z2, z3, z4, z5, z6⟩ := HF.seven
    refine bodyPost_ret (by simp [results, Try.results49, go_sem, z0, z1, z2, z3, z4, z5, z6]; rfl) rfl ?_
    exact ⟨⟨2, ⟨#[]⟩, 0, 0, 0, 0, 0, false, rfl, .inl ⟨HE.out, rfl⟩⟩, HB⟩
   | some q =>
    obtain ⟨u, m⟩ := q
    have HE := Lib.hid (show o = some (⟨2, u, set0, p⟩, m) by rw [HF.out, hq]; rfl)
    rw [hq] at HT
    simp only [txtT] at HT
    clear HF hq
    have HO1 := Lib.hid (Own.fresh w 48 [.int .i64 0, .string ⟨#[]⟩, .int .u64 0, .int .u64 0, .int .u64 0, .int .u64 0, .int .i64 0])
    have HB1 := Lib.hid ((Below.refl w.heap.size w).alloc (Nat.le_refl _) (.cells #[.int .i64 0, .string ⟨#[]⟩, .int .u64 0, .int .u64 0, .int .u64 0, .int .u64 0, .int .i64 0] 48))
    go_enter Try.func49, Try.ntmps49
    go_wp2_with fail
    refine (HL.out _).mono ?_
    rintro e w1 ⟨rfl, rfl⟩
    go_wp2_with fail
    refine (HT.out _).mono ?_
    rintro e w2 ⟨rfl, hb2⟩
    have HO2 := Lib.hid (HO1.out.under hb2 HO1.out.lt)
    have HB2 := Lib.hid (keepb HB1.out hb2)
    clear hb2 HO1 HB1
    obtain ⟨z0, z1, z2, z3, z4, z5, z6, y0, y1, y2, y3, y4, y5, y6⟩ := HO2.out.seven2
    go_wp2
    rw [set7t_fold]
    have HF := HO2.out.put7 (u0 := .int .i64 2) (u1 := .string u) (u2 := .int .u64 0) (u3 := .int .u64 0) (u4 := .int .u64 0) (u5 := .int .u64 0) (u6 := .int .i64 0)
    have HB := below_put7 HB2.out (Nat.le_refl _) (.int .i64 2) (.string u) (.int .u64 0) (.int .u64 0) (.int .u64 0) (.int .u64 0) (.int .i64 0)
    clear z0 z1 z2 z3 z4 z5 z6 y0 y1 y2 y3 y4 y5 y6
    obtain ⟨z0, z1, z2, z3, z4, z5, z6⟩ := HF.seven
    refine bodyPost_ret (by simp [results, Try.results49, go_sem, z0, z1, z2, z3, z4, z5, z6]; rfl) rfl ?_
    exact ⟨⟨2, u, 0, 0, 0, 0, m, true, rfl, .inr ⟨rfl, HE.out⟩⟩, HB⟩
  ·
   have e34 : (c == 34) = false := beq_eq_false_iff_ne.2 h34
   by_cases h91 : c = 91
   ·
    subst h91
    have HC := Lib.hid (fun W => readclass_any s hs (p : Int) W)
    cases hq : clsO s (p : Int) with
    | none =>
     have HE := Lib.hid (show o = none by rw [HF.out, hq]; rfl)
     rw [hq] at HC
     simp only [clsT] at HC
     clear HF hq
     have HO1 := Lib.hid (Own.fresh w 48 [.int .i64 0, .string ⟨#[]⟩, .int .u64 0, .int .u64 0, .int .u64 0, .int .u64 0, .int .i64 0])
     have HB1 := Lib.hid ((Below.refl w.heap.size w).alloc (Nat.le_refl _) (.cells #[.int .i64 0, .string ⟨#[]⟩, .int .u64 0, .int .u64 0, .int .u64 0, .int .u64 0, .int .i64 0] 48))
     go_enter Try.func49, Try.ntmps49
     go_wp2_with fail
     refine (HL.out _).mono ?_
     rintro e w1 ⟨rfl, rfl⟩
     go_wp2_with fail
     refine (HC.out _).mono ?_
     rintro e w2 ⟨rfl, hb2⟩
     have HO2 := Lib.hid (HO1.out.under hb2 HO1.out.lt)
     have HB2 := Lib.hid (keepb HB1.out hb2)
     clear hb2 HO1 HB1
     have HOW := Lib.hid (HO2.out.on_alloc (.cells #[.int .u64 0, .int .u64 0, .int .u64 0, .int .u64 0] 25))
     have HXW := Lib.hid (Own.fresh w2 25 [.int .u64 0, .int .u64 0, .int .u64 0, .int .u64 0])
     have HBW := Lib.hid (HB2.out.alloc HB2.out.size (.cells #[.int .u64 0, .int .u64 0, .int .u64 0, .int .u64 0] 25))
     clear HO2 HB2
     go_upto_region 10 with fail
     generalize w2.alloc _ = W at *
     generalize w2.heap.size = g2 at *
     have HO2 := HOW
     have HB2 := HBW
     clear HOW HBW
     obtain ⟨x0', x1', x2', x3', -⟩ := HXW.out.four
     obtain ⟨z0, z1, z2, z3, z4, z5, z6, y0, y1, y2, y3, y4, y5, y6⟩ := HO2.out.seven2
     go_wp2
     rw [set7t_fold]
     have HF := HO2.out.put7 (u0 := .int .i64 3) (u1 := .string ⟨#[]⟩) (u2 := .int .u64 0) (u3 := .int .u64 0) (u4 := .int .u64 0) (u5 := .int .u64 0) (u6 := .int .i64 0)
     have HB := below_put7 HB2.out (Nat.le_refl _) (.int .i64 3) (.string ⟨#[]⟩) (.int .u64 0) (.int .u64 0) (.int .u64 0) (.int .u64 0) (.int .i64 0)
     clear z0 z1 z2 z3 z4 z5 z6 y0 y1 y2 y3 y4 y5 y6
     obtain ⟨z0, z1, z2, z3, z4, z5, z6⟩ := HF.seven
     refine bodyPost_ret (by simp [results, Try.results49, go_sem, z0, z1, z2, z3, z4, z5, z6]; rfl) rfl ?_
     exact ⟨⟨3, ⟨#[]⟩, 0, 0, 0, 0, 0, false, rfl, .inl ⟨HE.out, rfl⟩⟩, HB⟩
    | some q =>
     obtain ⟨⟨x0, x1, x2, x3⟩, m⟩ := q
     have HE := Lib.hid (show o = some (⟨3, ⟨#[]⟩, (x0, x1, x2, x3), p⟩, m) by rw [HF.out, hq]; rfl)
     rw [hq] at HC
     simp only [clsT] at HC
     clear HF hq
     have HO1 := Lib.hid (Own.fresh w 48 [.int .i64 0, .string ⟨#[]⟩, .int .u64 0, .int .u64 0, .int .u64 0, .int .u64 0, .int .i64 0])
     have HB1 := Lib.hid ((Below.refl w.heap.size w).alloc (Nat.le_refl _) (.cells #[.int .i64 0, .string ⟨#[]⟩, .int .u64 0, .int .u64 0, .int .u64 0, .int .u64 0, .int .i64 0] 48))
     go_enter Try.func49, Try.ntmps49
     go_wp2_with fail
     refine (HL.out _).mono ?_
     rintro e w1 ⟨rfl, rfl⟩
     go_wp2_with fail
     refine (HC.out _).mono ?_
     rintro e w2 ⟨rfl, hb2⟩
     have HO2 := Lib.hid (HO1.out.under hb2 HO1.out.lt)
     have HB2 := Lib.hid (keepb HB1.out hb2)
     clear hb2 HO1 HB1
     have HOW := Lib.hid (HO2.out.on_alloc (.cells #[.int .u64 (x0 : Int), .int .u64 (x1 : Int), .int .u64 (x2 : Int), .int .u64 (x3 : Int)] 25))
     have HXW := Lib.hid (Own.fresh w2 25 [.int .u64 (x0 : Int), .int .u64 (x1 : Int), .int .u64 (x2 : Int), .int .u64 (x3 : Int)])
     have HBW := Lib.hid (HB2.out.alloc HB2.out.size (.cells #[.int .u64 (x0 : Int), .int .u64 (x1 : Int), .int .u64 (x2 : Int), .int .u64 (x3 : Int)] 25))
     clear HO2 HB2
     go_upto_region 10 with fail
     generalize w2.alloc _ = W at *
     generalize w2.heap.size = g2 at *
     have HO2 := HOW
     have HB2 := HBW
     clear HOW HBW
     obtain ⟨x0', x1', x2', x3', -⟩ := HXW.out.four
     obtain ⟨z0, z1, z2, z3, z4, z5, z6, y0, y1, y2, y3, y4, y5, y6⟩ := HO2.out.seven2
     go_wp2
     rw [set7t_fold]
     have HF := HO2.out.put7 (u0 := .int .i64 3) (u1 := .string ⟨#[]⟩) (u2 := .int .u64 (x0 : Int)) (u3 := .int .u64 (x1 : Int)) (u4 := .int .u64 (x2 : Int)) (u5 := .int .u64 (x3 : Int)) (u6 := .int .i64 0)
     have HB := below_put7 HB2.out (Nat.le_refl _) (.int .i64 3) (.string ⟨#[]⟩) (.int .u64 (x0 : Int)) (.int .u64 (x1 : Int)) (.int .u64 (x2 : Int)) (.int .u64 (x3 : Int)) (.int .i64 0)
     clear z0 z1 z2 z3 z4 z5 z6 y0 y1 y2 y3 y4 y5 y6
     obtain ⟨z0, z1, z2, z3, z4, z5, z6⟩ := HF.seven
     refine bodyPost_ret (by simp [results, Try.results49, go_sem, z0, z1, z2, z3, z4, z5, z6]; rfl) rfl ?_
     exact ⟨⟨3, ⟨#[]⟩, x0, x1, x2, x3, m, true, rfl, .inr ⟨rfl, HE.out⟩⟩, HB⟩
   ·
    have e91 : (c == 91) = false := beq_eq_false_iff_ne.2 h91
    have HG := Lib.hid (fun W => sgl_any s hs p hp W)
    have hg1 := sgO_le hp
    have HE0 := Lib.hid (show o = if sgO s p = 0 then none else some (⟨4, s.extract p (p + sgO s p), set0, p⟩, p + sgO s p) by rw [HF.out, if_neg (by decide), if_neg h34, if_neg h91])
    generalize sgO s p = n at *
    have hg2 : (p : Int) + n ≤ s.size := by omega
    have hx0 := ext_none s p
    clear HF
    by_cases h0 : n = 0
    ·
     subst h0
     have HE := Lib.hid (show o = none by rw [HE0.out]; rfl)
     clear HE0
     go_enter Try.func49, Try.ntmps49
     go_wp2_with fail
     refine (HL.out _).mono ?_
     rintro e w1 ⟨rfl, rfl⟩
     go_wp2_with fail
     refine (HG.out _).mono ?_
     rintro e w2 ⟨rfl, rfl⟩
     go_wp2
     have HF := Own.fresh w 48 [.int .i64 4, .string ⟨#[]⟩, .int .u64 0, .int .u64 0, .int .u64 0, .int .u64 0, .int .i64 0]
     have HB := (Below.refl w.heap.size w).alloc (Nat.le_refl _) (.cells #[.int .i64 4, .string ⟨#[]⟩, .int .u64 0, .int .u64 0, .int .u64 0, .int .u64 0, .int .i64 0] 48)
     obtain ⟨z0, z1, z2, z3, z4, z5, z6⟩ := HF.seven
     refine bodyPost_ret (by simp [results, Try.results49, go_sem]; rfl) rfl ?_
     exact ⟨⟨4, ⟨#[]⟩, 0, 0, 0, 0, p, false, rfl, .inl ⟨HE.out, rfl⟩⟩, HB⟩
    ·
     have HE := Lib.hid (show o = some (⟨4, s.extract p (p + n), set0, p⟩, p + n) by rw [HE0.out, if_neg h0])
     have hg3 : (p : Int) < (p : Int) + n := by omega
     clear HE0
     go_enter Try.func49, Try.ntmps49
     go_wp2_with fail
     refine (HL.out _).mono ?_
     rintro e w1 ⟨rfl, rfl⟩
     go_wp2_with fail
     refine (HG.out _).mono ?_
     rintro e w2 ⟨rfl, rfl⟩
     go_wp2
     have HF := Own.fresh w 48 [.int .i64 4, .string (s.extract p (p + n)), .int .u64 0, .int .u64 0, .int .u64 0, .int .u64 0, .int .i64 0]
     have HB := (Below.refl w.heap.size w).alloc (Nat.le_refl _) (.cells #[.int .i64 4, .string (s.extract p (p + n)), .int .u64 0, .int .u64 0, .int .u64 0, .int .u64 0, .int .i64 0] 48)
     obtain ⟨z0, z1, z2, z3, z4, z5, z6⟩ := HF.seven
     refine bodyPost_ret (by simp [results, Try.results49, go_sem, z0, z1, z2, z3, z4, z5, z6]; rfl) rfl ?_
     exact ⟨⟨4, s.extract p (p + n), 0, 0, 0, 0, p + n, true, rfl, .inr ⟨rfl, HE.out⟩⟩, HB⟩
 ·
  have HN := Lib.hid (fun W => nml_any (restS s p) (by have := HR.out; omega) W)
  have hnm := fun n h1 h2 h3 => nm_is (s := s) (p := p) (n := n) (by omega) h1 h2 h3
  have HNM := Lib.hid hnm
  clear hnm
  go_enter Try.func49, Try.ntmps49
  go_wp2_with fail
  refine (HL.out _).mono ?_
  rintro e w1 ⟨rfl, rfl⟩
  go_wp2_with fail
  refine (HN.out _).mono ?_
  rintro e w2 ⟨⟨n, rfl, hn1, hn2, hn3⟩, rfl⟩
  have hnn := HNM.out n hn1 hn2 hn3
  rw [HR.out] at hn1
  have HE0 := Lib.hid (show o = if n ≤ 12 then some (⟨1, s.extract p (p + n), set0, p⟩, p + n) else none by rw [HF.out, hnn]; rfl)
  have hg2 : (p : Int) + n ≤ s.size := by omega
  have e0 : (p : Int) + (n : Int) - (p : Int) = n := by omega
  clear HF hn2 hn3 hnn HNM
  by_cases h12 : (n : Int) ≤ 12
  ·
   have HE := Lib.hid (show o = some (⟨1, s.extract p (p + n), set0, p⟩, p + n) by rw [HE0.out, if_pos (by omega)])
   clear HE0
   go_wp2
   have HF := Own.fresh w 48 [.int .i64 1, .string (s.extract p (p + n)), .int .u64 0, .int .u64 0, .int .u64 0, .int .u64 0, .int .i64 0]
   have HB := (Below.refl w.heap.size w).alloc (Nat.le_refl _) (.cells #[.int .i64 1, .string (s.extract p (p + n)), .int .u64 0, .int .u64 0, .int .u64 0, .int .u64 0, .int .i64 0] 48)
   obtain ⟨z0, z1, z2, z3, z4, z5, z6⟩ := HF.seven
   refine bodyPost_ret (by simp [results, Try.results49, go_sem, z0, z1, z2, z3, z4, z5, z6]; rfl) rfl ?_
   exact ⟨⟨1, s.extract p (p + n), 0, 0, 0, 0, p + n, true, rfl, .inr ⟨rfl, HE.out⟩⟩, HB⟩
  ·
   have HE := Lib.hid (show o = none by rw [HE0.out, if_neg (by omega)])
   have h13 : decide ((n : Int) ≤ 12) = false := decide_eq_false h12
   clear HE0
   go_wp2
   have HF := Own.fresh w 48 [.int .i64 1, .string (s.extract p (p + n)), .int .u64 0, .int .u64 0, .int .u64 0, .int .u64 0, .int .i64 0]
   have HB := (Below.refl w.heap.size w).alloc (Nat.le_refl _) (.cells #[.int .i64 1, .string (s.extract p (p + n)), .int .u64 0, .int .u64 0, .int .u64 0, .int .u64 0, .int .i64 0] 48)
   obtain ⟨z0, z1, z2, z3, z4, z5, z6⟩ := HF.seven
   refine bodyPost_ret (by simp [results, Try.results49, go_sem, z0, z1, z2, z3, z4, z5, z6]; rfl) rfl ?_
   exact ⟨⟨1, s.extract p (p + n), 0, 0, 0, 0, p + n, false, rfl, .inl ⟨HE.out, rfl⟩⟩, HB⟩
end Go.Proofs.Ytonknapfndaalaa

namespace Go.Proofs.Ytonknapfndaalaa
set_option linter.unusedVariables false
set_option maxRecDepth 1000000
open Go.RowKit
/-- The token that comes from a place on, and the place behind it. -/
def nextO (s : ByteArray) (k : Nat) : Option (Tok × Nat) := if s.size ≤ skO s k then some (⟨0, ⟨#[]⟩, set0, s.size⟩, s.size) else tkO s (skO s k)
def nextV (p : Nat) : Option (Tok × Nat) → Value
 | none => .tuple #[tokV ⟨0, ⟨#[]⟩, set0, p⟩, .int .i64 (p : Int), .bool false]
 | some (t, m) => .tuple #[tokV t, .int .i64 (m : Int), .bool true]
def nextT (s : ByteArray) (k : Nat) : Value := nextV (skO s k) (nextO s k)
theorem nextT_end {s : ByteArray} {k p : Nat} (h : skO s k = p) (hp : s.size ≤ p) : nextT s k = .tuple #[tokV ⟨0, ⟨#[]⟩, set0, s.size⟩, .int .i64 (s.size : Int), .bool true] := by unfold nextT nextO; rw [h, if_pos hp]; rfl
theorem nextT_in {s : ByteArray} {k p : Nat} (h : skO s k = p) (hp : ¬ s.size ≤ p) : nextT s k = nextV p (tkO s p) := by unfold nextT nextO; rw [h, if_neg hp]
set_option maxHeartbeats 3200000 in
set_option maxRecDepth 100000 in
theorem next_any (s : ByteArray) (hs : s.size ≤ 1000000) (i : Int) (hi : i ≤ 9223372036854775807) (w : World) :
  Calls Try.prog 28 #[.string s, .int .i64 i] w fun e w' => e = .returned (nextT s i.toNat) ∧ Below w.heap.size w w' := by
 have HE1 := Lib.hid (fun p (h : skO s i.toNat = p) => nextT_end h)
 have HI1 := Lib.hid (fun p (h : skO s i.toNat = p) => nextT_in h)
 obtain ⟨v, hv⟩ : ∃ v, nextT s i.toNat = v := ⟨_, rfl⟩
 rw [hv] at HE1 HI1 ⊢
 clear hv
 have HS : Hid (∀ W : World, Calls Try.prog 48 #[.string s, .int .i64 (max i 0)] W fun e w' => e = .returned (.int .i64 (skO s i.toNat : Int)) ∧ w' = W) := Lib.hid fun W => by
  have h := skip_any s hs i.toNat (by omega) W
  rw [show ((i.toNat : Nat) : Int) = max i 0 by omega] at h; exact h
 obtain ⟨p, hp⟩ : ∃ p, skO s i.toNat = p := ⟨_, rfl⟩
 rw [hp] at HS
 have HE2 := Lib.hid (HE1.out p hp)
 have HI2 := Lib.hid (HI1.out p hp)
 clear HE1 HI1 hp
 by_cases h1 : (s.size : Int) ≤ p
 ·
  have HE := Lib.hid (HE2.out (by omega))
  clear HE2 HI2
  go_enter Try.func28, Try.ntmps28
  go_wp2_with fail
  refine (HS.out _).mono ?_
  rintro e w1 ⟨rfl, rfl⟩
  go_wp2
  have HF := Own.fresh w 48 [.int .i64 0, .string ⟨#[]⟩, .int .u64 0, .int .u64 0, .int .u64 0, .int .u64 0, .int .i64 (s.size : Int)]
  have HB := (Below.refl w.heap.size w).alloc (Nat.le_refl _) (.cells #[.int .i64 0, .string ⟨#[]⟩, .int .u64 0, .int .u64 0, .int .u64 0, .int .u64 0, .int .i64 (s.size : Int)] 48)
  obtain ⟨z0, z1, z2, z3, z4, z5, z6⟩ := HF.seven
  refine bodyPost_ret (by simp [results, Try.results28, go_sem, z0, z1, z2, z3, z4, z5, z6]; rfl) rfl ?_
  exact ⟨by rw [HE.out]; rfl, HB⟩
 ·
  have HE0 := Lib.hid (HI2.out (by omega))
  have HR := Lib.hid (fun W => tread_any s hs p (by omega) W)
  have HO1 := Lib.hid (Own.fresh w 48 [.int .i64 0, .string ⟨#[]⟩, .int .u64 0, .int .u64 0, .int .u64 0, .int .u64 0, .int .i64 0])
  have HB1 := Lib.hid ((Below.refl w.heap.size w).alloc (Nat.le_refl _) (.cells #[.int .i64 0, .string ⟨#[]⟩, .int .u64 0, .int .u64 0, .int .u64 0, .int .u64 0, .int .i64 0] 48))
  clear HE2 HI2
  go_enter Try.func28, Try.ntmps28
  go_wp2_with fail
  refine (HS.out _).mono ?_
  rintro e w1 ⟨rfl, rfl⟩
  go_wp2_with fail
  refine (HR.out _).mono ?_
  rintro e w2 ⟨⟨kd, tx, x0, x1, x2, x3, n, b, rfl, hr⟩, hb2⟩
  have HO2 := Lib.hid (HO1.out.under hb2 HO1.out.lt)
  have HB2 := Lib.hid (keepb HB1.out hb2)
  have hlt2 := HO2.out.lt
  have HOW := Lib.hid (HO2.out.on_alloc (.cells #[.int .i64 (kd : Int), .string tx, .int .u64 (x0 : Int), .int .u64 (x1 : Int), .int .u64 (x2 : Int), .int .u64 (x3 : Int), .int .i64 0] 48))
  have HXW := Lib.hid (Own.fresh w2 48 [.int .i64 (kd : Int), .string tx, .int .u64 (x0 : Int), .int .u64 (x1 : Int), .int .u64 (x2 : Int), .int .u64 (x3 : Int), .int .i64 0])
  have HBW := Lib.hid (HB2.out.alloc HB2.out.size (.cells #[.int .i64 (kd : Int), .string tx, .int .u64 (x0 : Int), .int .u64 (x1 : Int), .int .u64 (x2 : Int), .int .u64 (x3 : Int), .int .i64 0] 48))
  clear hb2 HO1 HB1 HR HO2 HB2
  rcases hr with ⟨hr, rfl⟩ | ⟨rfl, hr⟩
  ·
   have HE := Lib.hid (show v = .tuple #[tokV ⟨0, ⟨#[]⟩, set0, p⟩, .int .i64 (p : Int), .bool false] by rw [HE0.out, hr]; rfl)
   clear HE0 hr
   go_upto_region 6 with fail
   generalize w2.alloc _ = W at *
   generalize w2.heap.size = g2 at *
   obtain ⟨z0, z1, z2, z3, z4, z5, z6, y0, y1, y2, y3, y4, y5, y6⟩ := HOW.out.seven2
   go_wp2
   rw [set7t_fold]
   have HF := HOW.out.put7 (u0 := .int .i64 0) (u1 := .string ⟨#[]⟩) (u2 := .int .u64 0) (u3 := .int .u64 0) (u4 := .int .u64 0) (u5 := .int .u64 0) (u6 := .int .i64 (p : Int))
   have HB := below_put7 HBW.out (Nat.le_refl _) (.int .i64 0) (.string ⟨#[]⟩) (.int .u64 0) (.int .u64 0) (.int .u64 0) (.int .u64 0) (.int .i64 (p : Int))
   clear z0 z1 z2 z3 z4 z5 z6 y0 y1 y2 y3 y4 y5 y6
   obtain ⟨z0, z1, z2, z3, z4, z5, z6⟩ := HF.seven
   refine bodyPost_ret (by simp [results, Try.results28, go_sem, z0, z1, z2, z3, z4, z5, z6]; rfl) rfl ?_
   exact ⟨by rw [HE.out]; rfl, HB⟩
  ·
   have HE := Lib.hid (show v = .tuple #[tokV ⟨kd, tx, (x0, x1, x2, x3), p⟩, .int .i64 (n : Int), .bool true] by rw [HE0.out, hr]; rfl)
   clear HE0 hr
   go_upto_region 7 with fail
   generalize w2.alloc _ = W at *
   generalize w2.heap.size = g2 at *
   obtain ⟨a0, a1, a2, a3, a4, a5, a6, -, -, -, -, -, -, b6⟩ := HXW.out.seven2
   go_upto_region 8 with fail
   have HOV := Lib.hid (HOW.out.off (p := ⟨g2, 6, none⟩) (by show w.heap.size ≠ g2; omega) (.int .i64 (p : Int)))
   have HXV := Lib.hid (HXW.out.put 6 (.int .i64 (p : Int)))
   have HBV := Lib.hid (HBW.out.setCell (p := ⟨g2, 6, none⟩) (by show w.heap.size ≤ g2; omega) (.int .i64 (p : Int)))
   clear HOW HXW HBW a0 a1 a2 a3 a4 a5 a6 b6
   generalize W.setCell _ _ = W2 at *
   obtain ⟨a0, a1, a2, a3, a4, a5, a6⟩ := (show Own W2 g2 48 [.int .i64 (kd : Int), .string tx, .int .u64 (x0 : Int), .int .u64 (x1 : Int), .int .u64 (x2 : Int), .int .u64 (x3 : Int), .int .i64 (p : Int)] from HXV.out).seven
   obtain ⟨z0, z1, z2, z3, z4, z5, z6, y0, y1, y2, y3, y4, y5, y6⟩ := HOV.out.seven2
   go_wp2
   rw [set7t_fold]
   have HF := HOV.out.put7 (u0 := .int .i64 (kd : Int)) (u1 := .string tx) (u2 := .int .u64 (x0 : Int)) (u3 := .int .u64 (x1 : Int)) (u4 := .int .u64 (x2 : Int)) (u5 := .int .u64 (x3 : Int)) (u6 := .int .i64 (p : Int))
   have HB := below_put7 HBV.out (Nat.le_refl _) (.int .i64 (kd : Int)) (.string tx) (.int .u64 (x0 : Int)) (.int .u64 (x1 : Int)) (.int .u64 (x2 : Int)) (.int .u64 (x3 : Int)) (.int .i64 (p : Int))
   clear z0 z1 z2 z3 z4 z5 z6 y0 y1 y2 y3 y4 y5 y6
   obtain ⟨z0, z1, z2, z3, z4, z5, z6⟩ := HF.seven
   refine bodyPost_ret (by simp [results, Try.results28, go_sem, z0, z1, z2, z3, z4, z5, z6]; rfl) rfl ?_
   exact ⟨by rw [HE.out]; rfl, HB⟩
end Go.Proofs.Ytonknapfndaalaa
