/- Letters, blanks, signs: what they are; the walks of the small functions. How long a name is, where a line ends, where blanks end, of the program and of the reference, walked. Where blanks and notes end: the walks of Skip, of the program's and the reference's. -/
import Derived.Test.YtihcmneidbjmlaaGi
namespace Go.Proofs.Ytihcmneidbjmlaa
set_option linter.unusedVariables false
open Go.RowKit

def letB (c : Int) : Bool := (decide (97 ≤ c) && decide (c ≤ 122)) || (decide (65 ≤ c) && decide (c ≤ 90))
def innB (c : Int) : Bool := letB c || (decide (48 ≤ c) && decide (c ≤ 57)) || c == 95
/-- How many bytes from k on have P, f at most. -/
def runB (P : Int → Bool) (s : ByteArray) : Nat → Nat → Nat
  | 0, _ => 0
  | f + 1, k => if k < s.size ∧ P (byt s k) = true then 1 + runB P s f (k + 1) else 0
theorem runB_is {P : Int → Bool} {s : ByteArray} : ∀ (n f k : Nat), n ≤ f → (∀ j, j < n → k + j < s.size ∧ P (byt s (k + j)) = true) → (n < f → ¬ (k + n < s.size ∧ P (byt s (k + n)) = true)) → runB P s f k = n
  | 0, f, k, h1, h2, h3 => by
    cases f with
    | zero => rfl
    | succ f => unfold runB; rw [if_neg (show ¬ (k < s.size ∧ P (byt s k) = true) from h3 (by omega))]
  | n + 1, f, k, h1, h2, h3 => by
    obtain ⟨g, rfl⟩ : ∃ g, f = g + 1 := ⟨f - 1, by omega⟩
    unfold runB
    rw [if_pos (show k < s.size ∧ P (byt s k) = true from h2 0 (by omega)), runB_is n g (k + 1) (by omega) (fun j hj => by have := h2 (j + 1) (by omega); rw [show k + 1 + j = k + (j + 1) by omega]; exact this)
      (fun hn => by have := h3 (by omega); rw [show k + 1 + n = k + (n + 1) by omega]; exact this)]
    omega
theorem runB_all {P : Int → Bool} {s : ByteArray} : ∀ (f k j : Nat), j < runB P s f k → k + j < s.size ∧ P (byt s (k + j)) = true
  | 0, k, j, h => by unfold runB at h; omega
  | f + 1, k, j, h => by
    unfold runB at h
    split at h
    · rename_i g
      cases j with
      | zero => exact g
      | succ j => have := runB_all (P := P) (s := s) f (k + 1) j (by omega); rw [show k + (j + 1) = k + 1 + j by omega]; exact this
    · omega
theorem runB_stop {P : Int → Bool} {s : ByteArray} : ∀ (f k : Nat), s.size ≤ f + k → ¬ (k + runB P s f k < s.size ∧ P (byt s (k + runB P s f k)) = true)
  | 0, k, h => by unfold runB; omega
  | f + 1, k, h => by
    unfold runB
    split
    · have := runB_stop f (k + 1) (by omega) (P := P) (s := s)
      rw [show k + (1 + runB P s f (k + 1)) = k + 1 + runB P s f (k + 1) by omega]; exact this
    · rename_i g; exact g
/-- How long the name is. -/
def nmO (s : ByteArray) (k : Nat) : Nat := runB innB s s.size k
/-- How many bytes stand ahead of the line's end. -/
def ntO (s : ByteArray) (k : Nat) : Nat := runB (fun c => c != 10) s s.size k
def blkB (c : Int) : Bool := c == 32 || c == 9 || c == 10
/-- The place behind blanks and notes. -/
def skF (s : ByteArray) : Nat → Nat → Nat
  | 0, k => k
  | f + 1, k => if k < s.size then (if blkB (byt s k) = true then skF s f (k + 1) else if byt s k = 35 then skF s f (k + ntO s k) else k) else k
def skO (s : ByteArray) (k : Nat) : Nat := skF s (s.size + 1) k
theorem skF_out {s : ByteArray} {f k : Nat} (h : ¬ k < s.size) : skF s f k = k := by
  cases f
  · rfl
  · unfold skF; rw [if_neg h]
theorem skF_blank {s : ByteArray} {f k : Nat} (hf : s.size < f + k) (hk : k < s.size) (h : blkB (byt s k) = true) : skF s f k = skF s (f - 1) (k + 1) := by
  obtain ⟨g, rfl⟩ : ∃ g, f = g + 1 := ⟨f - 1, by omega⟩
  rw [skF.eq_2, if_pos hk, if_pos h]; rfl
theorem skF_note {s : ByteArray} {f k : Nat} (hf : s.size < f + k) (hk : k < s.size) (h : byt s k = 35) : skF s f k = skF s (f - 1) (k + ntO s k) := by
  obtain ⟨g, rfl⟩ : ∃ g, f = g + 1 := ⟨f - 1, by omega⟩
  rw [skF.eq_2, if_pos hk, if_neg (by rw [h]; decide), if_pos h]; rfl
theorem skF_stop {s : ByteArray} {f k : Nat} (h : blkB (byt s k) = false) (h2 : byt s k ≠ 35) : skF s f k = k := by
  cases f
  · rfl
  · unfold skF
    split
    · rw [if_neg (by rw [h]; decide)]; try rw [if_neg h2]
    · rfl
theorem ntO_pos {s : ByteArray} {k : Nat} (hk : k < s.size) (h : byt s k = 35) : 1 ≤ ntO s k := by
  unfold ntO
  obtain ⟨g, hg⟩ : ∃ g, s.size = g + 1 := ⟨s.size - 1, by omega⟩
  rw [show runB (fun c => c != 10) s s.size k = runB (fun c => c != 10) s (g + 1) k by rw [hg]]
  unfold runB
  rw [if_pos ⟨hk, by rw [h]; rfl⟩]; omega
theorem ntO_le {s : ByteArray} {k : Nat} (hk : k ≤ s.size) : k + ntO s k ≤ s.size := by
  unfold ntO
  by_cases h : runB (fun c => c != 10) s s.size k = 0
  · omega
  · have := (runB_all (P := fun c => c != 10) (s := s) s.size k (runB (fun c => c != 10) s s.size k - 1) (by omega)).1; omega
theorem nmO_le {s : ByteArray} {k : Nat} (hk : k ≤ s.size) : k + nmO s k ≤ s.size := by
  unfold nmO
  by_cases h : runB innB s s.size k = 0
  · omega
  · have := (runB_all (P := innB) (s := s) s.size k (runB innB s s.size k - 1) (by omega)).1; omega
/-- Is it a sign of one byte? -/
def sgB (c : Int) : Bool := c == 59 || c == 61 || c == 47 || c == 38 || c == 33 || c == 126 || c == 42 || c == 43 || c == 63 || c == 46 || c == 40 || c == 41
/-- How many bytes the sign has. -/
def sgO (s : ByteArray) (k : Nat) : Nat :=
  if byt s k = 58 then (if standB s ((k + 1 : Nat) : Int) 58 = true then 2 else 1) else if sgB (byt s k) = true then 1 else 0

set_option maxHeartbeats 800000 in
theorem rlet_any (c : Int) (w : World) : Calls Try.prog 40 #[.int .u8 c] w fun e w' => e = .returned (.bool (letB c)) ∧ w' = w := by
  have HS := Lib.hid (show letB c = ((decide (97 ≤ c) && decide (c ≤ 122)) || (decide (65 ≤ c) && decide (c ≤ 90))) from rfl)
  by_cases g0 : 97 ≤ c <;> by_cases g1 : c ≤ 122 <;> by_cases g2 : 65 ≤ c <;> by_cases g3 : c ≤ 90
  all_goals first
    | (exfalso; omega)
    | (go_enter Try.func40, Try.ntmps40
       go_wp2
       go_ret
       exact ⟨ret_bool (by rw [HS.out]; simp <;> omega), rfl⟩)
set_option maxHeartbeats 800000 in
theorem inn_any (c : Int) (w : World) : Calls Try.prog 41 #[.int .u8 c] w fun e w' => e = .returned (.bool (innB c)) ∧ w' = w := by
  have HS := Lib.hid (show innB c = (letB c || (decide (48 ≤ c) && decide (c ≤ 57)) || c == 95) from rfl)
  have HL := Lib.hid (fun W => rlet_any c W)
  obtain ⟨b, hb⟩ : ∃ b, letB c = b := ⟨_, rfl⟩
  rw [hb] at HS HL
  clear hb
  obtain ⟨q, hq⟩ : ∃ q, (c == 95) = q := ⟨_, rfl⟩
  have HQ := Lib.hid hq
  by_cases g0 : 48 ≤ c <;> by_cases g1 : c ≤ 57 <;> cases b <;> cases q
  all_goals first
    | (exfalso; omega)
    | (go_enter Try.func41, Try.ntmps41
       go_wp2_with fail
       refine (HL.out _).mono ?_
       rintro e w1 ⟨rfl, rfl⟩
       go_wp2
       go_ret
       exact ⟨ret_bool (by rw [HS.out, HQ.out]; simp <;> omega), rfl⟩)
end Go.Proofs.Ytihcmneidbjmlaa

namespace Go.Proofs.Ytihcmneidbjmlaa
set_option linter.unusedVariables false
open Go.RowKit

/-- The rest of a text, from p on. -/
def restS (s : ByteArray) (p : Nat) : ByteArray := s.extract p s.size
theorem rest_size (s : ByteArray) {p : Nat} (hp : p ≤ s.size) : (restS s p).size = s.size - p := by
  unfold restS; rw [ByteArray.size_extract]; omega
theorem rest_byt (s : ByteArray) (p j : Nat) : byt (restS s p) j = byt s (p + j) := by
  unfold restS
  rw [← ofL_drop]
  unfold byt
  rw [show (ofL (s.data.toList.drop p)).data.toList = s.data.toList.drop p by show (s.data.toList.drop p).toArray.toList = _; simp]
  rw [List.getD_eq_getElem?_getD, List.getD_eq_getElem?_getD, List.getElem?_drop]
theorem nm_is {s : ByteArray} {p n : Nat} (hp : p ≤ s.size) (hn : n ≤ (restS s p).size) (h : ∀ j, j < n → innB (byt (restS s p) j) = true) (h2 : n < (restS s p).size → innB (byt (restS s p) n) = false) : nmO s p = n := by
  rw [rest_size s hp] at hn h2
  refine runB_is n s.size p (by omega) (fun j hj => ⟨by omega, by rw [← rest_byt]; exact h j hj⟩) (fun hlt => ?_)
  rintro ⟨g1, g2⟩
  have := h2 (by omega)
  rw [rest_byt, g2] at this; cases this
theorem nt_is {s : ByteArray} {p n : Nat} (hp : p ≤ s.size) (hn : p + n ≤ s.size) (h : ∀ j, j < n → byt s (p + j) ≠ 10) (h2 : p + n < s.size → byt s (p + n) = 10) : ntO s p = n := by
  refine runB_is n s.size p (by omega) (fun j hj => ⟨by omega, by simp [h j hj]⟩) (fun hlt => ?_)
  rintro ⟨g1, g2⟩
  rw [h2 g1] at g2; revert g2; decide

theorem idx_bytes {v : ByteArray} {n : Nat} (h : Lib.indexByte v.data.toList 10 = (n : Int)) : n < v.size ∧ byt v n = 10 ∧ ∀ j, j < n → byt v j ≠ 10 := by
  obtain ⟨h1, h2⟩ := Lib.indexByte_some h
  have hlt := (List.getElem?_eq_some_iff.1 h1).1
  refine ⟨by simpa using hlt, ?_, fun j hj hb => ?_⟩
  · unfold byt; rw [List.getD_eq_getElem?_getD, h1]; rfl
  · have hj' : j < v.data.toList.length := by omega
    refine h2 j hj ?_
    rw [List.getElem?_eq_getElem hj']
    congr 1
    apply UInt8.toNat.inj
    have h3 : (v.data.toList[j].toNat : Int) = 10 := by rw [← hb]; unfold byt; rw [List.getD_eq_getElem?_getD, List.getElem?_eq_getElem hj']; rfl
    show _ = 10
    omega
theorem idx_none {v : ByteArray} (h : Lib.indexByte v.data.toList 10 = -1) : ∀ j, j < v.size → byt v j ≠ 10 := fun j hj hb => by
  have hj' : j < v.data.toList.length := by simpa using hj
  refine Lib.indexByte_none h j ?_
  rw [List.getElem?_eq_getElem hj']
  congr 1
  apply UInt8.toNat.inj
  have h3 : (v.data.toList[j].toNat : Int) = 10 := by rw [← hb]; unfold byt; rw [List.getD_eq_getElem?_getD, List.getElem?_eq_getElem hj']; rfl
  show _ = 10
  omega
end Go.Proofs.Ytihcmneidbjmlaa

namespace Go.Proofs.Ytihcmneidbjmlaa
set_option linter.unusedVariables false
open Go.RowKit
set_option maxHeartbeats 1600000 in
set_option maxRecDepth 100000 in
theorem rskip_any (s : ByteArray) (hs : s.size ≤ 1000000) (a : Nat) (ha : (a : Int) ≤ 9223372036854775807) (w : World) :
    Calls Try.prog 39 #[.string s, .int .i64 (a : Int)] w fun e w' => e = .returned (.int .i64 (skO s a : Int)) ∧ w' = w := by
  have HT0 := Lib.hid (show skF s (s.size + 1) a = skO s a ∧ s.size < s.size + 1 + a from ⟨rfl, by omega⟩)
  obtain ⟨o, ho⟩ : ∃ o, skO s a = o := ⟨_, rfl⟩
  rw [ho] at HT0 ⊢
  clear ho
  go_enter Try.func39, Try.ntmps39
  go_wp2
  go_loop [1] (fun i => ∃ k f : Nat, i = .int .i64 (k : Int) ∧ (k : Int) ≤ 9223372036854775807 ∧ Hid (skF s f k = o ∧ s.size < f + k)) (fun i => s.size - (intOf i).toNat)
  case atStart => exact ⟨a, s.size + 1, rfl, ha, HT0⟩
  case round =>
    obtain ⟨k, f, rfl, hk, HT⟩ := hrel
    by_cases hlt : (k : Int) < s.size
    · have hk1 : k < s.size := by omega
      obtain ⟨c, hc⟩ : ∃ c : Int, (s[k].toNat : Int) = c := ⟨_, rfl⟩
      have hbc : byt s k = c := by rw [byt_get hk1, hc]
      by_cases h32 : c = 32
      · subst h32
        have HT2 := Lib.hid (show skF s (f - 1) (k + 1) = o ∧ s.size < (f - 1) + (k + 1) from ⟨by rw [← HT.out.1]; exact (skF_blank HT.out.2 hk1 (by rw [hbc]; rfl)).symm, by have := HT.out.2; omega⟩)
        clear HT hbc
        go_wp2
        go_round
        case rel => exact ⟨k + 1, f - 1, by go_num, by omega, HT2⟩
        case measure => simp [intOf]; omega
      have e32 : (c == 32) = false := beq_eq_false_iff_ne.2 h32
      by_cases h9 : c = 9
      · subst h9
        have HT2 := Lib.hid (show skF s (f - 1) (k + 1) = o ∧ s.size < (f - 1) + (k + 1) from ⟨by rw [← HT.out.1]; exact (skF_blank HT.out.2 hk1 (by rw [hbc]; rfl)).symm, by have := HT.out.2; omega⟩)
        clear HT hbc
        go_wp2
        go_round
        case rel => exact ⟨k + 1, f - 1, by go_num, by omega, HT2⟩
        case measure => simp [intOf]; omega
      have e9 : (c == 9) = false := beq_eq_false_iff_ne.2 h9
      by_cases h10 : c = 10
      · subst h10
        have HT2 := Lib.hid (show skF s (f - 1) (k + 1) = o ∧ s.size < (f - 1) + (k + 1) from ⟨by rw [← HT.out.1]; exact (skF_blank HT.out.2 hk1 (by rw [hbc]; rfl)).symm, by have := HT.out.2; omega⟩)
        clear HT hbc
        go_wp2
        go_round
        case rel => exact ⟨k + 1, f - 1, by go_num, by omega, HT2⟩
        case measure => simp [intOf]; omega
      have e10 : (c == 10) = false := beq_eq_false_iff_ne.2 h10
      by_cases h35 : c = 35
      · subst h35
        have hn1 := ntO_pos hk1 hbc
        have HT2 := Lib.hid (show skF s (f - 1) (k + ntO s k) = o ∧ s.size < (f - 1) + (k + ntO s k) from ⟨by rw [← HT.out.1]; exact (skF_note HT.out.2 hk1 hbc).symm, by have := HT.out.2; omega⟩)
        clear HT
        go_wp2
        go_loop [1] (fun i => ∃ j : Nat, i = .int .i64 ((k + j : Nat) : Int) ∧ k + j ≤ s.size ∧ Hid (∀ t, t < j → byt s (k + t) ≠ 10)) (fun i => s.size - (intOf i).toNat)
        case atStart => exact ⟨0, rfl, by omega, Lib.hid (fun t h => by omega)⟩
        case round =>
          obtain ⟨j, rfl, hj, HA⟩ := hrel
          by_cases hlt2 : ((k + j : Nat) : Int) < s.size
          · have hj1 : k + j < s.size := by omega
            obtain ⟨d, hd⟩ : ∃ d : Int, (s[k + j].toNat : Int) = d := ⟨_, rfl⟩
            have hbd : byt s (k + j) = d := by rw [byt_get hj1, hd]
            by_cases h10 : d = 10
            · subst h10
              have HN := Lib.hid (show ntO s k = j from nt_is (by omega) hj HA.out (fun _ => hbd))
              clear hbd HA
              go_wp2
              go_round
              case rel => exact ⟨k + j, f - 1, rfl, by omega, by rw [← HN.out]; exact HT2⟩
              case measure => have := HN.out; simp [intOf]; omega
            · have e10' : (d != 10) = true := by simp [h10]
              have e10'' : (d == 10) = false := beq_eq_false_iff_ne.2 h10
              have HA1 : Hid (∀ t, t < j + 1 → byt s (k + t) ≠ 10) := Lib.hid (fun t ht => by
                by_cases e : t = j
                · rw [e, hbd]; exact h10
                · exact HA.out t (by omega))
              clear hbd HA
              go_wp2
              go_round
              case rel => exact ⟨j + 1, by go_num, by omega, HA1⟩
              case measure => simp [intOf]; omega
          · have HN := Lib.hid (show ntO s k = j from nt_is (by omega) hj HA.out (fun h => by omega))
            have hlt3 : decide (((k + j : Nat) : Int) < (s.size : Int)) = false := decide_eq_false hlt2
            clear HA
            go_wp2
            go_round
            case rel => exact ⟨k + j, f - 1, rfl, by omega, by rw [← HN.out]; exact HT2⟩
            case measure => have := HN.out; simp [intOf]; omega
      have e35 : (c == 35) = false := beq_eq_false_iff_ne.2 h35
      have HE := Lib.hid (show o = k by rw [← HT.out.1]; exact skF_stop (by rw [hbc]; unfold blkB; rw [e32, e9, e10]; rfl) (by rw [hbc]; exact h35))
      clear HT hbc
      go_wp2
      go_ret
      exact ⟨ret_int (by rw [HE.out]), rfl⟩
    · have HE := Lib.hid (show o = k by rw [← HT.out.1]; exact skF_out (by omega))
      clear HT
      go_wp2
      go_ret
      exact ⟨ret_int (by rw [HE.out]), rfl⟩
end Go.Proofs.Ytihcmneidbjmlaa
