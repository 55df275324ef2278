/- Letters, blanks, signs: what they are; the walks of the small functions. -/
import Derived.Test.YtinkgidncdjapabQuoteV
namespace Go.Proofs.Ytinkgidncdjapab
set_option linter.unusedVariables false
open Go.RowKit

def letB (c : Int) : Bool := (decide (97 ≤ c) && decide (c ≤ 122)) || (decide (65 ≤ c) && decide (c ≤ 90))
def innB (c : Int) : Bool := letB c || (decide (48 ≤ c) && decide (c ≤ 57)) || c == 95
/-- How many bytes from k on have P, f at most. -/
def runB (P : Int → Bool) (s : ByteArray) : Nat → Nat → Nat
  | 0, _ => 0
  | f + 1, k => if k < s.size ∧ P (byt s k) = true then 1 + runB P s f (k + 1) else 0
theorem runB_is {P : Int → Bool} {s : ByteArray} : ∀ (n f k : Nat), n ≤ f → (∀ j, j < n → k + j < s.size ∧ P (byt s (k + j)) = true) → (n < f → ¬ (k + n < s.size ∧ P (byt s (k + n)) = true)) → runB P s f k = n
  | 0, f, k, h1, h2, h3 => by
    cases f with
    | zero => rfl
    | succ f => unfold runB; rw [if_neg (show ¬ (k < s.size ∧ P (byt s k) = true) from h3 (by omega))]
  | n + 1, f, k, h1, h2, h3 => by
    obtain ⟨g, rfl⟩ : ∃ g, f = g + 1 := ⟨f - 1, by omega⟩
    unfold runB
    rw [if_pos (show k < s.size ∧ P (byt s k) = true from h2 0 (by omega)), runB_is n g (k + 1) (by omega) (fun j hj => by have := h2 (j + 1) (by omega); rw [show k + 1 + j = k + (j + 1) by omega]; exact this)
      (fun hn => by have := h3 (by omega); rw [show k + 1 + n = k + (n + 1) by omega]; exact this)]
    omega
theorem runB_all {P : Int → Bool} {s : ByteArray} : ∀ (f k j : Nat), j < runB P s f k → k + j < s.size ∧ P (byt s (k + j)) = true
  | 0, k, j, h => by unfold runB at h; omega
  | f + 1, k, j, h => by
    unfold runB at h
    split at h
    · rename_i g
      cases j with
      | zero => exact g
      | succ j => have := runB_all (P := P) (s := s) f (k + 1) j (by omega); rw [show k + (j + 1) = k + 1 + j by omega]; exact this
    · omega
theorem runB_stop {P : Int → Bool} {s : ByteArray} : ∀ (f k : Nat), s.size ≤ f + k → ¬ (k + runB P s f k < s.size ∧ P (byt s (k + runB P s f k)) = true)
  | 0, k, h => by unfold runB; omega
  | f + 1, k, h => by
    unfold runB
    split
    · have := runB_stop f (k + 1) (by omega) (P := P) (s := s)
      rw [show k + (1 + runB P s f (k + 1)) = k + 1 + runB P s f (k + 1) by omega]; exact this
    · rename_i g; exact g
/-- How long the name is. -/
def nmO (s : ByteArray) (k : Nat) : Nat := runB innB s s.size k
/-- How many bytes stand ahead of the line's end. -/
def ntO (s : ByteArray) (k : Nat) : Nat := runB (fun c => c != 10) s s.size k
def blkB (c : Int) : Bool := c == 32 || c == 9 || c == 10
/-- The place behind blanks and notes. -/
def skF (s : ByteArray) : Nat → Nat → Nat
  | 0, k => k
  | f + 1, k => if k < s.size then (if blkB (byt s k) = true then skF s f (k + 1) else if byt s k = 35 then skF s f (k + ntO s k) else k) else k
def skO (s : ByteArray) (k : Nat) : Nat := skF s (s.size + 1) k
theorem skF_out {s : ByteArray} {f k : Nat} (h : ¬ k < s.size) : skF s f k = k := by
  cases f
  · rfl
  · unfold skF; rw [if_neg h]
theorem skF_blank {s : ByteArray} {f k : Nat} (hf : s.size < f + k) (hk : k < s.size) (h : blkB (byt s k) = true) : skF s f k = skF s (f - 1) (k + 1) := by
  obtain ⟨g, rfl⟩ : ∃ g, f = g + 1 := ⟨f - 1, by omega⟩
  rw [skF.eq_2, if_pos hk, if_pos h]; rfl
theorem skF_note {s : ByteArray} {f k : Nat} (hf : s.size < f + k) (hk : k < s.size) (h : byt s k = 35) : skF s f k = skF s (f - 1) (k + ntO s k) := by
  obtain ⟨g, rfl⟩ : ∃ g, f = g + 1 := ⟨f - 1, by omega⟩
  rw [skF.eq_2, if_pos hk, if_neg (by rw [h]; decide), if_pos h]; rfl
theorem skF_stop {s : ByteArray} {f k : Nat} (h : blkB (byt s k) = false) (h2 : byt s k ≠ 35) : skF s f k = k := by
  cases f
  · rfl
  · unfold skF
    split
    · rw [if_neg (by rw [h]; decide)]; try rw [if_neg h2]
    · rfl
theorem ntO_pos {s : ByteArray} {k : Nat} (hk : k < s.size) (h : byt s k = 35) : 1 ≤ ntO s k := by
  unfold ntO
  obtain ⟨g, hg⟩ : ∃ g, s.size = g + 1 := ⟨s.size - 1, by omega⟩
  rw [show runB (fun c => c != 10) s s.size k = runB (fun c => c != 10) s (g + 1) k by rw [hg]]
  unfold runB
  rw [if_pos ⟨hk, by rw [h]; rfl⟩]; omega
theorem ntO_le {s : ByteArray} {k : Nat} (hk : k ≤ s.size) : k + ntO s k ≤ s.size := by
  unfold ntO
  by_cases h : runB (fun c => c != 10) s s.size k = 0
  · omega
  · have := (runB_all (P := fun c => c != 10) (s := s) s.size k (runB (fun c => c != 10) s s.size k - 1) (by omega)).1; omega
theorem nmO_le {s : ByteArray} {k : Nat} (hk : k ≤ s.size) : k + nmO s k ≤ s.size := by
  unfold nmO
  by_cases h : runB innB s s.size k = 0
  · omega
  · have := (runB_all (P := innB) (s := s) s.size k (runB innB s s.size k - 1) (by omega)).1; omega
/-- Is it a sign of one byte? -/
def sgB (c : Int) : Bool := c == 59 || c == 61 || c == 47 || c == 38 || c == 33 || c == 126 || c == 42 || c == 43 || c == 63 || c == 46 || c == 40 || c == 41
/-- How many bytes the sign has. -/
def sgO (s : ByteArray) (k : Nat) : Nat :=
  if byt s k = 58 then (if standB s ((k + 1 : Nat) : Int) 58 = true then 2 else 1) else if sgB (byt s k) = true then 1 else 0

set_option maxHeartbeats 800000 in
theorem let_any (c : Int) (w : World) : Calls Try.prog 21 #[.int .u8 c] w fun e w' => e = .returned (.bool (letB c)) ∧ w' = w := by
  have HS := Lib.hid (show letB c = ((decide (97 ≤ c) && decide (c ≤ 122)) || (decide (65 ≤ c) && decide (c ≤ 90))) from rfl)
  by_cases g0 : 97 ≤ c <;> by_cases g1 : c ≤ 122 <;> by_cases g2 : 65 ≤ c <;> by_cases g3 : c ≤ 90
  all_goals first
    | (exfalso; omega)
    | (go_enter Try.func21, Try.ntmps21
       go_wp2
       go_ret
       exact ⟨ret_bool (by rw [HS.out]; simp <;> omega), rfl⟩)
set_option maxHeartbeats 800000 in
theorem rlet_any (c : Int) (w : World) : Calls Try.prog 15 #[.int .u8 c] w fun e w' => e = .returned (.bool (letB c)) ∧ w' = w := by
  have HS := Lib.hid (show letB c = ((decide (97 ≤ c) && decide (c ≤ 122)) || (decide (65 ≤ c) && decide (c ≤ 90))) from rfl)
  by_cases g0 : 97 ≤ c <;> by_cases g1 : c ≤ 122 <;> by_cases g2 : 65 ≤ c <;> by_cases g3 : c ≤ 90
  all_goals first
    | (exfalso; omega)
    | (go_enter Try.func15, Try.ntmps15
       go_wp2
       go_ret
       exact ⟨ret_bool (by rw [HS.out]; simp <;> omega), rfl⟩)
set_option maxHeartbeats 800000 in
theorem inn_any (c : Int) (w : World) : Calls Try.prog 16 #[.int .u8 c] w fun e w' => e = .returned (.bool (innB c)) ∧ w' = w := by
  have HS := Lib.hid (show innB c = (letB c || (decide (48 ≤ c) && decide (c ≤ 57)) || c == 95) from rfl)
  have HL := Lib.hid (fun W => rlet_any c W)
  obtain ⟨b, hb⟩ : ∃ b, letB c = b := ⟨_, rfl⟩
  rw [hb] at HS HL
  clear hb
  obtain ⟨q, hq⟩ : ∃ q, (c == 95) = q := ⟨_, rfl⟩
  have HQ := Lib.hid hq
  by_cases g0 : 48 ≤ c <;> by_cases g1 : c ≤ 57 <;> cases b <;> cases q
  all_goals first
    | (exfalso; omega)
    | (go_enter Try.func16, Try.ntmps16
       go_wp2_with fail
       refine (HL.out _).mono ?_
       rintro e w1 ⟨rfl, rfl⟩
       go_wp2
       go_ret
       exact ⟨ret_bool (by rw [HS.out, HQ.out]; simp <;> omega), rfl⟩)
end Go.Proofs.Ytinkgidncdjapab
