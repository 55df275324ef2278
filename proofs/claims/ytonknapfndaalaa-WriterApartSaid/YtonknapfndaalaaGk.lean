/- Letters, blanks, signs: what they are; the walks of the small functions. How long a name is, where a line ends, where blanks end, of the program and of the reference, walked. Where blanks and notes end: the walks of Skip, of the program's and the reference's. Signs: the walks of the program's signLength and the reference's sign. The set that stands at a place: the walk of the program's ReadClass. A token: what it is; the walk of the program's read. The token that comes: what it is; the walk of the program's Next. The walk of the document's answer Range. The rows of a class: the walk of the reference's rows. '==' between two sets: word by word. The set that stands at a place: the walk of the reference's ReadClass. The token that comes: the walk of the reference's Next. All tokens of a text: what they are; the walks of All, of the program's and of the reference's. Tokens in memory; the walk of the reference's Same. -/
import Derived.Test.YtonknapfndaalaaGj
import Derived.Laws.Tables
import Derived.Test.YtonknapfndaalaaGf
import Derived.Deep.AppendLies
import Derived.Test.YtonknapfndaalaaGa
import Derived.Test.YtonknapfndaalaaChecked
import Derived.KernelRfl
import Derived.Handy
import Derived.BigRegion
import Derived.Deep.QuietTactic
import Derived.OwnWalk
import Derived.Laws.OwnMore
import Derived.Laws.StructEq
import Derived.Lib.SliceRun
import Derived.BigQuiet
namespace Go.Proofs.Ytonknapfndaalaa
set_option linter.unusedVariables false
set_option maxRecDepth 1000000
open Go.RowKit
def letB (c : Int) : Bool := (decide (97 ≤ c) && decide (c ≤ 122)) || (decide (65 ≤ c) && decide (c ≤ 90))
def innB (c : Int) : Bool := letB c || (decide (48 ≤ c) && decide (c ≤ 57)) || c == 95
/-- How many bytes from k on have P, f at most. -/
def runB (P : Int → Bool) (s : ByteArray) : Nat → Nat → Nat
 | 0, _ => 0
 | f + 1, k => if k < s.size ∧ P (byt s k) = true then 1 + runB P s f (k + 1) else 0
theorem runB_is {P : Int → Bool} {s : ByteArray} : ∀ (n f k : Nat), n ≤ f → (∀ j, j < n → k + j < s.size ∧ P (byt s (k + j)) = true) → (n < f → ¬ (k + n < s.size ∧ P (byt s (k + n)) = true)) → runB P s f k = n
 | 0, f, k, h1, h2, h3 => by
  cases f with
  | zero => rfl
  | succ f => unfold runB; rw [if_neg (show ¬ (k < s.size ∧ P (byt s k) = true) from h3 (by omega))]
 | n + 1, f, k, h1, h2, h3 => by
  obtain ⟨g, rfl⟩ : ∃ g, f = g + 1 := ⟨f - 1, by omega⟩
  unfold runB
  rw [if_pos (show k < s.size ∧ P (byt s k) = true from h2 0 (by omega)), runB_is n g (k + 1) (by omega) (fun j hj => by have := h2 (j + 1) (by omega); rw [show k + 1 + j = k + (j + 1) by omega]; exact this)
   (fun hn => by have := h3 (by omega); rw [show k + 1 + n = k + (n + 1) by omega]; exact this)]
  omega
theorem runB_all {P : Int → Bool} {s : ByteArray} : ∀ (f k j : Nat), j < runB P s f k → k + j < s.size ∧ P (byt s (k + j)) = true
 | 0, k, j, h => by unfold runB at h; omega
 | f + 1, k, j, h => by
  unfold runB at h
  split at h
  ·
   rename_i g
   cases j with
   | zero => exact g
   | succ j => have := runB_all (P := P) (s := s) f (k + 1) j (by omega); rw [show k + (j + 1) = k + 1 + j by omega]; exact this
  ·
   omega
/-- How long the name is. -/
def nmO (s : ByteArray) (k : Nat) : Nat := runB innB s s.size k
/-- How many bytes stand ahead of the line's end. -/
def ntO (s : ByteArray) (k : Nat) : Nat := runB (fun c => c != 10) s s.size k
def blkB (c : Int) : Bool := c == 32 || c == 9 || c == 10
/-- The place behind blanks and notes. -/
def skF (s : ByteArray) : Nat → Nat → Nat
 | 0, k => k
 | f + 1, k => if k < s.size then (if blkB (byt s k) = true then skF s f (k + 1) else if byt s k = 35 then skF s f (k + ntO s k) else k) else k
def skO (s : ByteArray) (k : Nat) : Nat := skF s (s.size + 1) k
theorem skF_out {s : ByteArray} {f k : Nat} (h : ¬ k < s.size) : skF s f k = k := by
 cases f
 ·
  rfl
 ·
  unfold skF; rw [if_neg h]
theorem skF_blank {s : ByteArray} {f k : Nat} (hf : s.size < f + k) (hk : k < s.size) (h : blkB (byt s k) = true) : skF s f k = skF s (f - 1) (k + 1) := by
 obtain ⟨g, rfl⟩ : ∃ g, f = g + 1 := ⟨f - 1, by omega⟩
 rw [skF.eq_2, if_pos hk, if_pos h]; rfl
theorem skF_stop {s : ByteArray} {f k : Nat} (h : blkB (byt s k) = false) (h2 : byt s k ≠ 35) : skF s f k = k := by
 cases f
 ·
  rfl
 ·
  unfold skF
  split
  ·
   rw [if_neg (by rw [h]; decide)]; try rw [if_neg h2]
  ·
   rfl
theorem ntO_pos {s : ByteArray} {k : Nat} (hk : k < s.size) (h : byt s k = 35) : 1 ≤ ntO s k := by
 unfold ntO
 obtain ⟨g, hg⟩ : ∃ g, s.size = g + 1 := ⟨s.size - 1, by omega⟩
 rw [show runB (fun c => c != 10) s s.size k = runB (fun c => c != 10) s (g + 1) k by rw [hg]]
 unfold runB
 rw [if_pos ⟨hk, by rw [h]; rfl⟩]; omega
theorem nmO_le {s : ByteArray} {k : Nat} (hk : k ≤ s.size) : k + nmO s k ≤ s.size := by
 unfold nmO
 by_cases h : runB innB s s.size k = 0
 ·
  omega
 ·
  have := (runB_all (P := innB) (s := s) s.size k (runB innB s s.size k - 1) (by omega)).1; omega
/-- Is it a sign of one byte? -/
def sgB (c : Int) : Bool := c == 59 || c == 61 || c == 47 || c == 38 || c == 33 || c == 126 || c == 42 || c == 43 || c == 63 || c == 46 || c == 40 || c == 41
/-- How many bytes the sign has. -/
def sgO (s : ByteArray) (k : Nat) : Nat :=
 if byt s k = 58 then (if standB s ((k + 1 : Nat) : Int) 58 = true then 2 else 1) else if sgB (byt s k) = true then 1 else 0
end Go.Proofs.Ytonknapfndaalaa

namespace Go.Proofs.Ytonknapfndaalaa
set_option linter.unusedVariables false
set_option maxRecDepth 1000000
open Go.RowKit
end Go.Proofs.Ytonknapfndaalaa

namespace Go.Proofs.Ytonknapfndaalaa
set_option linter.unusedVariables false
set_option maxRecDepth 1000000
open Go.RowKit
end Go.Proofs.Ytonknapfndaalaa

namespace Go.Proofs.Ytonknapfndaalaa
set_option linter.unusedVariables false
set_option maxRecDepth 1000000
open Go.RowKit
theorem sgO_le {s : ByteArray} {p : Nat} (h : p < s.size) : p + sgO s p ≤ s.size := by
 unfold sgO
 split
 ·
  split
  ·
   rename_i g; have := (stand_iff.1 g).1; omega
  ·
   omega
 ·
  split <;> omega
end Go.Proofs.Ytonknapfndaalaa

namespace Go.Proofs.Ytonknapfndaalaa
set_option linter.unusedVariables false
set_option maxRecDepth 1000000
open Go.RowKit
end Go.Proofs.Ytonknapfndaalaa

namespace Go.Proofs.Ytonknapfndaalaa
set_option linter.unusedVariables false
set_option maxRecDepth 1000000
open Go.RowKit
theorem Own.seven {w : World} {g : Nat} {t : TypeId} {v0 v1 v2 v3 v4 v5 v6 : Value} (h : Own w g t [v0, v1, v2, v3, v4, v5, v6]) :
  w.cell? ⟨g, 0, none⟩ = some v0 ∧ w.cell? ⟨g, 1, none⟩ = some v1 ∧ w.cell? ⟨g, 2, none⟩ = some v2 ∧ w.cell? ⟨g, 3, none⟩ = some v3 ∧ w.cell? ⟨g, 4, none⟩ = some v4 ∧ w.cell? ⟨g, 5, none⟩ = some v5 ∧ w.cell? ⟨g, 6, none⟩ = some v6 :=
 ⟨h.cell 0, h.cell 1, h.cell 2, h.cell 3, h.cell 4, h.cell 5, h.cell 6⟩
@[go_sem 2000] theorem tbuild2 (k : Int) (t : ByteArray) (w : World) : (Instr.build 48 #[(0, .int .i64 k), (1, .string t)]).run Try.prog w = .ok (.agg #[.int .i64 k, .string t, .int .u64 0, .int .u64 0, .int .u64 0, .int .u64 0, .int .i64 0]) w := run_build w _ _ _ (by kernel_rfl)
@[go_sem 2000] theorem tbuild3 (k a b c d : Int) (w : World) : (Instr.build 48 #[(0, .int .i64 k), (2, .agg #[.int .u64 a, .int .u64 b, .int .u64 c, .int .u64 d])]).run Try.prog w = .ok (.agg #[.int .i64 k, .string ⟨#[]⟩, .int .u64 a, .int .u64 b, .int .u64 c, .int .u64 d, .int .i64 0]) w := run_build w _ _ _ (by kernel_rfl)
@[go_sem 2000] theorem tbuild4 (n : Int) (w : World) : (Instr.build 48 #[(3, .int .i64 n)]).run Try.prog w = .ok (.agg #[.int .i64 0, .string ⟨#[]⟩, .int .u64 0, .int .u64 0, .int .u64 0, .int .u64 0, .int .i64 n]) w := run_build w _ _ _ (by kernel_rfl)
@[go_sem 2000] theorem tbuild5 (k n : Int) (w : World) : (Instr.build 48 #[(0, .int .i64 k), (3, .int .i64 n)]).run Try.prog w = .ok (.agg #[.int .i64 k, .string ⟨#[]⟩, .int .u64 0, .int .u64 0, .int .u64 0, .int .u64 0, .int .i64 n]) w := run_build w _ _ _ (by kernel_rfl)
/-- A token. -/
structure Tok where
 kd : Nat
 tx : ByteArray
 st : Set4
 pos : Nat
def Tok.row (t : Tok) : List Value := [.int .i64 (t.kd : Int), .string t.tx, .int .u64 (t.st.1 : Int), .int .u64 (t.st.2.1 : Int), .int .u64 (t.st.2.2.1 : Int), .int .u64 (t.st.2.2.2 : Int), .int .i64 (t.pos : Int)]
def txtK (p : Nat) : Option (ByteArray × Nat) → Option (Tok × Nat)
 | none => none
 | some (u, m) => some (⟨2, u, set0, p⟩, m)
def clsK (p : Nat) : Option (Set4 × Nat) → Option (Tok × Nat)
 | none => none
 | some (x, m) => some (⟨3, ⟨#[]⟩, x, p⟩, m)
/-- The token that begins at a byte. -/
def tkO (s : ByteArray) (p : Nat) : Option (Tok × Nat) :=
 if letB (byt s p) = true then (if nmO s p ≤ 12 then some (⟨1, s.extract p (p + nmO s p), set0, p⟩, p + nmO s p) else none)
 else if byt s p = 34 then txtK p (txtO s (p : Int))
 else if byt s p = 91 then clsK p (clsO s (p : Int))
 else if sgO s p = 0 then none else some (⟨4, s.extract p (p + sgO s p), set0, p⟩, p + sgO s p)
end Go.Proofs.Ytonknapfndaalaa

namespace Go.Proofs.Ytonknapfndaalaa
set_option linter.unusedVariables false
set_option maxRecDepth 1000000
open Go.RowKit
/-- The token that comes from a place on, and the place behind it. -/
def nextO (s : ByteArray) (k : Nat) : Option (Tok × Nat) := if s.size ≤ skO s k then some (⟨0, ⟨#[]⟩, set0, s.size⟩, s.size) else tkO s (skO s k)
end Go.Proofs.Ytonknapfndaalaa

namespace Go.Proofs.Ytonknapfndaalaa
set_option linter.unusedVariables false
set_option maxRecDepth 1000000
open Go.RowKit
end Go.Proofs.Ytonknapfndaalaa

namespace Go.Proofs.Ytonknapfndaalaa
set_option linter.unusedVariables false
set_option maxRecDepth 1000000
open Go.RowKit
end Go.Proofs.Ytonknapfndaalaa

namespace Go.Proofs.Ytonknapfndaalaa
set_option linter.unusedVariables false
set_option maxRecDepth 1000000
open Go.RowKit
@[go_sem] theorem eq4 (a b c d a' b' c' d' : Int) (w : World) :
  (Op.equalIn 10000 25 (.agg #[.int .u64 a, .int .u64 b, .int .u64 c, .int .u64 d]) (.agg #[.int .u64 a', .int .u64 b', .int .u64 c', .int .u64 d'])).run Try.prog w = .ok (a == a' && b == b' && c == c' && d == d') w := by
 have u3 := Try.underlying23
 have a3 := Try.isAgg23
 have z3 := Try.sizeOf23
 rw [show (10000 : Nat) = 9999 + 1 from rfl, Op.equalIn]
 simp only [Sem.run_bind, run_underlying Try.underlying25, Result.andThen_ok]
 simp only [Std.Legacy.Range.forIn_eq_forIn_range', Std.Legacy.Range.size, Nat.sub_zero, Nat.add_sub_cancel, Nat.div_one, List.range'_succ, List.range'_zero, List.forIn_cons, List.forIn_nil]
 go_simp
 by_cases h1 : a = a' <;> by_cases h2 : b = b' <;> by_cases h3 : c = c' <;> by_cases h4 : d = d' <;> simp [h1, h2, h3, h4]
end Go.Proofs.Ytonknapfndaalaa

namespace Go.Proofs.Ytonknapfndaalaa
set_option linter.unusedVariables false
set_option maxRecDepth 1000000
open Go.RowKit
/-- Is it the empty set? -/
def isZ (a b c d : Nat) : Bool := (a : Int) == 0 && (b : Int) == 0 && (c : Int) == 0 && (d : Int) == 0
@[go_sem 2000] theorem eqz (a b c d : Nat) (w : World) :
  (Op.equalIn 10000 25 (.agg #[.int .u64 (a : Int), .int .u64 (b : Int), .int .u64 (c : Int), .int .u64 (d : Int)]) (.agg #[.int .u64 0, .int .u64 0, .int .u64 0, .int .u64 0])).run Try.prog w = .ok (isZ a b c d) w := eq4 a b c d 0 0 0 0 w
end Go.Proofs.Ytonknapfndaalaa

namespace Go.Proofs.Ytonknapfndaalaa
set_option linter.unusedVariables false
set_option maxRecDepth 1000000
open Go.RowKit
end Go.Proofs.Ytonknapfndaalaa

namespace Go.Proofs.Ytonknapfndaalaa
set_option linter.unusedVariables false
set_option maxRecDepth 1000000
open Go.RowKit
theorem skF_ge {s : ByteArray} : ∀ f k, k ≤ skF s f k
 | 0, k => Nat.le_refl _
 | f + 1, k => by
  unfold skF
  split
  ·
   split
   ·
    have := skF_ge (s := s) f (k + 1); omega
   ·
    split
    ·
     have := skF_ge (s := s) f (k + ntO s k); omega
    ·
     exact Nat.le_refl _
  ·
   exact Nat.le_refl _
theorem nmO_pos {s : ByteArray} {k : Nat} (hk : k < s.size) (h : letB (byt s k) = true) : 1 ≤ nmO s k := by
 unfold nmO
 obtain ⟨g, hg⟩ : ∃ g, s.size = g + 1 := ⟨s.size - 1, by omega⟩
 rw [show runB innB s s.size k = runB innB s (g + 1) k by rw [hg]]
 unfold runB
 rw [if_pos ⟨hk, by unfold innB; rw [h]; rfl⟩]; omega
theorem tkO_bd {s : ByteArray} {p m : Nat} {t : Tok} (hp : p < s.size) (h : tkO s p = some (t, m)) : p < m ∧ m ≤ s.size ∧ t.pos = p ∧ 1 ≤ t.kd := by
 unfold tkO at h
 split at h
 ·
  rename_i hl
  have h1 := nmO_pos hp hl
  have h2 := nmO_le (s := s) (k := p) (by omega)
  split at h
  ·
   injection h with h; injection h with h3 h4; subst h3 h4; exact ⟨by omega, by omega, rfl, by show 1 ≤ 1; omega⟩
  ·
   cases h
 ·
  split at h
  ·
   cases hq : txtO s (p : Int) with
   | none => rw [hq] at h; cases h
   | some q =>
    obtain ⟨u, n⟩ := q
    have := txtO_res hq
    rw [hq] at h; injection h with h; injection h with h3 h4; subst h3 h4; exact ⟨this.1, this.2.1, rfl, by show 1 ≤ 2; omega⟩
  ·
   split at h
   ·
    cases hq : clsO s (p : Int) with
    | none => rw [hq] at h; cases h
    | some q =>
     obtain ⟨u, n⟩ := q
     have := clsO_res hq
     rw [hq] at h; injection h with h; injection h with h3 h4; subst h3 h4; exact ⟨this.1, this.2.1, rfl, by show 1 ≤ 3; omega⟩
   ·
    have h2 := sgO_le hp
    split at h
    ·
     cases h
    ·
     injection h with h; injection h with h3 h4; subst h3 h4; exact ⟨by omega, by omega, rfl, by show 1 ≤ 4; omega⟩
theorem nextO_bd {s : ByteArray} {k m : Nat} {t : Tok} (h : nextO s k = some (t, m)) : m ≤ s.size ∧ (t.kd ≠ 0 → k < m ∧ t.pos = skO s k ∧ skO s k < m) ∧ (t.kd = 0 → t.pos = s.size ∧ t = ⟨0, ⟨#[]⟩, set0, s.size⟩) := by
 unfold nextO at h
 split at h
 ·
  injection h with h; injection h with h3 h4; subst h3 h4; exact ⟨Nat.le_refl _, fun g => absurd rfl g, fun _ => ⟨rfl, rfl⟩⟩
 ·
  have h1 := tkO_bd (by omega) h
  have h2 := skF_ge (s := s) (s.size + 1) k
  change k ≤ skO s k at h2
  exact ⟨h1.2.1, fun _ => ⟨by omega, h1.2.2.1, h1.1⟩, fun g => by omega⟩
/-- The tokens from a place on; else where there is none. -/
def allF (s : ByteArray) : Nat → Nat → Except Nat (List Tok)
 | 0, k => .error k
 | f + 1, k => match nextO s k with
  | none => .error (skO s k)
  | some (t, m) => if t.kd = 0 then .ok [t] else match allF s f m with
   | .ok L => .ok (t :: L)
   | .error e => .error e
def allO (s : ByteArray) : Except Nat (List Tok) := allF s (s.size + 2) 0
@[go_sem 2000] theorem fbuild2 (k n : Int) (w : World) : (Instr.build 31 #[(0, .int .i64 k), (1, .int .i64 n)]).run Try.prog w = .ok (.agg #[.int .i64 k, .int .i64 n, .int .i64 0, .int .i64 0]) w := run_build w _ _ _ (by kernel_rfl)
end Go.Proofs.Ytonknapfndaalaa

namespace Go.Proofs.Ytonknapfndaalaa
set_option linter.unusedVariables false
set_option maxRecDepth 1000000
open Go.RowKit Go.Sort
theorem eq4b (a b c d a' b' c' d' : Int) (w : World) :
  (Op.equalIn 9999 25 (.agg #[.int .u64 a, .int .u64 b, .int .u64 c, .int .u64 d]) (.agg #[.int .u64 a', .int .u64 b', .int .u64 c', .int .u64 d'])).run Try.prog w = .ok (a == a' && b == b' && c == c' && d == d') w := by
 have u3 := Try.underlying23
 have a3 := Try.isAgg23
 have z3 := Try.sizeOf23
 rw [show (9999 : Nat) = 9998 + 1 from rfl, Op.equalIn]
 simp only [Sem.run_bind, run_underlying Try.underlying25, Result.andThen_ok]
 simp only [Std.Legacy.Range.forIn_eq_forIn_range', Std.Legacy.Range.size, Nat.sub_zero, Nat.add_sub_cancel, Nat.div_one, List.range'_succ, List.range'_zero, List.forIn_cons, List.forIn_nil]
 go_simp
 by_cases h1 : a = a' <;> by_cases h2 : b = b' <;> by_cases h3 : c = c' <;> by_cases h4 : d = d' <;> simp [h1, h2, h3, h4]
@[go_sem 2000] theorem eqTok7 (a e f g h p a' e' f' g' h' p' : Int) (b b' : ByteArray) (w : World) :
  (Op.equalIn 10000 48 (.agg #[.int .i64 a, .string b, .int .u64 e, .int .u64 f, .int .u64 g, .int .u64 h, .int .i64 p]) (.agg #[.int .i64 a', .string b', .int .u64 e', .int .u64 f', .int .u64 g', .int .u64 h', .int .i64 p'])).run Try.prog w =
   .ok (a == a' && decide (b = b') && (e == e' && f == f' && g == g' && h == h') && p == p') w := by
 have u3 := Try.underlying3
 have a3 := Try.isAgg3
 have z3 := Try.sizeOf3
 have u9 := Try.underlying9
 have a9 := Try.isAgg9
 have z9 := Try.sizeOf9
 have u8 := Try.underlying23
 have a8 := Try.isAgg23
 have z8 := Try.sizeOf23
 have hS : Try.prog.underlying 48 = some (.struct (Try.prog.fieldsOf 48)) := by kernel_rfl
 have hp : Try.prog.stoodInHeld 48 = false := by kernel_rfl
 rw [show (10000 : Nat) = 9999 + 1 from rfl, run_equalIn_agg w 9999 48 _ _ hS hp]
 simp only [Program.fieldsOf, Try.underlying48]
 have hb : (b.toList == b'.toList) = decide (b = b') := by
  rw [← beq_toListBytes]
  by_cases h : b = b'
  ·
   subst h; rw [beq_toListBytes]; simp
  ·
   rw [beq_toListBytes, decide_eq_false h]
   refine beq_false_of_ne fun e => h ?_
   rw [ByteArray.toList_eq, ByteArray.toList_eq] at e
   obtain ⟨⟨x⟩⟩ := b
   obtain ⟨⟨y⟩⟩ := b'
   simp at e; rw [e]
 go_simp
 have hq := eq4b e f g h e' f' g' h' w
 generalize hQ : (e == e' && f == f' && g == g' && h == h') = q at hq
 rw [hq]
 by_cases h1 : a = a' <;> by_cases h2 : b = b' <;> by_cases h3 : p = p' <;> cases q <;> simp [h1, h2, h3, Result.andThen]
@[go_sem 2000] theorem eqFault (a b c d a' b' c' d' : Int) (w : World) :
  (Op.equalIn 10000 31 (.agg #[.int .i64 a, .int .i64 b, .int .i64 c, .int .i64 d]) (.agg #[.int .i64 a', .int .i64 b', .int .i64 c', .int .i64 d'])).run Try.prog w = .ok (a == a' && b == b' && c == c' && d == d') w := by
 have u3 := Try.underlying3
 have a3 := Try.isAgg3
 have z3 := Try.sizeOf3
 have u8 := Try.underlying29
 have a8 := Try.isAgg29
 have z8 := Try.sizeOf29
 have hS : Try.prog.underlying 31 = some (.struct (Try.prog.fieldsOf 31)) := by kernel_rfl
 have hp : Try.prog.stoodInHeld 31 = false := by kernel_rfl
 rw [show (10000 : Nat) = 9999 + 1 from rfl, run_equalIn_agg w 9999 31 _ _ hS hp]
 simp only [Program.fieldsOf, Try.underlying31]
 go_simp
 by_cases h1 : a = a' <;> by_cases h2 : b = b' <;> by_cases h3 : c = c' <;> by_cases h4 : d = d' <;> simp [h1, h2, h3, h4]
/-- Are two tokens the same? -/
def tokQ (t u : Tok) : Bool := (t.kd : Int) == (u.kd : Int) && decide (t.tx = u.tx) && ((t.st.1 : Int) == (u.st.1 : Int) && (t.st.2.1 : Int) == (u.st.2.1 : Int) && (t.st.2.2.1 : Int) == (u.st.2.2.1 : Int) && (t.st.2.2.2 : Int) == (u.st.2.2.2 : Int)) && (t.pos : Int) == (u.pos : Int)
@[go_sem 3000] theorem eqTok (t u : Tok) (w : World) : (Op.equalIn 10000 48 (.agg #[.int .i64 (t.kd : Int), .string t.tx, .int .u64 (t.st.1 : Int), .int .u64 (t.st.2.1 : Int), .int .u64 (t.st.2.2.1 : Int), .int .u64 (t.st.2.2.2 : Int), .int .i64 (t.pos : Int)]) (.agg #[.int .i64 (u.kd : Int), .string u.tx, .int .u64 (u.st.1 : Int), .int .u64 (u.st.2.1 : Int), .int .u64 (u.st.2.2.1 : Int), .int .u64 (u.st.2.2.2 : Int), .int .i64 (u.pos : Int)])).run Try.prog w = .ok (tokQ t u) w := eqTok7 ..
theorem tokQ_yes {t u : Tok} (h : tokQ t u = true) : t = u := by
 obtain ⟨k, x, ⟨a, b, c, d⟩, p⟩ := t
 obtain ⟨k', x', ⟨a', b', c', d'⟩, p'⟩ := u
 simp [tokQ] at h
 obtain ⟨⟨⟨h1, h2⟩, ⟨⟨h3, h4⟩, h5⟩, h6⟩, h7⟩ := h
 obtain rfl : k = k' := by omega
 obtain rfl : a = a' := by omega
 obtain rfl : b = b' := by omega
 obtain rfl : c = c' := by omega
 obtain rfl : d = d' := by omega
 obtain rfl : p = p' := by omega
 rw [h2]
theorem tokQ_self (t : Tok) : tokQ t t = true := by simp [tokQ]
instance : DecidableEq Tok := fun t u => if h : tokQ t u = true then isTrue (tokQ_yes h) else isFalse (fun e => h (e ▸ tokQ_self t))
/-- The tokens L lie from the address ao on. -/
def HasT (w : World) (ao : Option Addr) (L : List Tok) : Prop := ∀ k t, L[k]? = some t → ∃ g off, ao = some ⟨g, off, none⟩ ∧ g < w.heap.size ∧
 w.cell? ⟨g, off + k * 7, none⟩ = some (.int .i64 (t.kd : Int)) ∧ w.cell? ⟨g, off + k * 7 + 1, none⟩ = some (.string t.tx) ∧ w.cell? ⟨g, off + k * 7 + 2, none⟩ = some (.int .u64 (t.st.1 : Int)) ∧ w.cell? ⟨g, off + k * 7 + 3, none⟩ = some (.int .u64 (t.st.2.1 : Int)) ∧ w.cell? ⟨g, off + k * 7 + 4, none⟩ = some (.int .u64 (t.st.2.2.1 : Int)) ∧ w.cell? ⟨g, off + k * 7 + 5, none⟩ = some (.int .u64 (t.st.2.2.2 : Int)) ∧ w.cell? ⟨g, off + k * 7 + 6, none⟩ = some (.int .i64 (t.pos : Int))
theorem HasT.below {w w' : World} {ao : Option Addr} {L : List Tok} (h : HasT w ao L) (hb : Below w.heap.size w w') : HasT w' ao L := fun k t hk => by
 obtain ⟨g, off, e, hg, h0, h1, h2, h3, h4, h5, h6⟩ := h k t hk
 exact ⟨g, off, e, Nat.lt_of_lt_of_le hg hb.size, keepc h0 hb, keepc h1 hb, keepc h2 hb, keepc h3 hb, keepc h4 hb, keepc h5 hb, keepc h6 hb⟩
end Go.Proofs.Ytonknapfndaalaa
