/- The walks of the document's answers of layer 2. What stands behind a backslash: what it means, and the walk of the reference's sign. What stands behind a backslash: the walk of the program's escaped. One byte or what is escaped: the walk of the program's read. The two digits behind \x: the walk of the reference's escape there. What stands behind a backslash: the walk of the reference's escape. One byte or what is escaped: the walk of the reference's one. A literal that stands at a place: what it is, and the walk of the reference's ReadText. A literal that stands at a place: the walk of the program's ReadText. -/
import Derived.Test.YtonknapfndaalaaChecked
import Derived.Test.YtonknapfndaalaaGd
import Derived.Test.YtonknapfndaalaaGa
import Derived.WalkLawsBesides
import Derived.Handy
import Derived.KernelRfl
import Derived.Test.YtonknapfndaalaaGf
import Derived.OwnWalk
import Derived.Deep.RegionLaw
namespace Go.Proofs.Ytonknapfndaalaa
set_option linter.unusedVariables false
set_option maxRecDepth 1000000
open Go.RowKit Go.Sort Go.PlainAid
end Go.Proofs.Ytonknapfndaalaa

namespace Go.Proofs.Ytonknapfndaalaa
set_option linter.unusedVariables false
set_option maxRecDepth 1000000
open Go.RowKit
theorem one_byte {s : ByteArray} {k : Nat} (h : k < s.size) : s.extract k (k + 1) = strOfNums [byt s k] := by
 apply bytes_eq
 have h' : k < s.data.toList.length := by simpa using h
 rw [ByteArray.data_extract]
 simp only [Array.toList_extract, List.extract_eq_take_drop, strOfNums]
 rw [show k + 1 - k = 1 by omega, List.drop_eq_getElem_cons h', List.take_succ_cons, List.take_zero]
 simp [byt, List.getD_eq_getElem?_getD, List.getElem?_eq_getElem h']
/-- The sign of a number behind the first brace. -/
def signO (s : ByteArray) (a : Nat) : Option (ByteArray × Nat) :=
 if 0 < hexN s a 6 ∧ standB s ((a + hexN s a 6 : Nat) : Int) 125 = true ∧ rightB (valN s a (hexN s a 6)) = true then some (encS (valN s a (hexN s a 6)), a + hexN s a 6 + 1) else none
theorem stand_out {s : ByteArray} {k : Nat} {c : Int} (h : ¬ k < s.size) : standB s (k : Int) c = false := by
 unfold standB; rw [decide_eq_false (by omega : ¬ (k : Int) < (s.size : Int))]; simp
theorem stand_in {s : ByteArray} {k : Nat} {c : Int} (h : k < s.size) : standB s (k : Int) c = (byt s k == c) := by
 unfold standB; rw [decide_eq_true (by omega : (k : Int) < (s.size : Int)), decide_eq_true (by omega : (0 : Int) ≤ (k : Int))]; simp
end Go.Proofs.Ytonknapfndaalaa

namespace Go.Proofs.Ytonknapfndaalaa
set_option linter.unusedVariables false
set_option maxRecDepth 1000000
open Go.RowKit
/-- What is escaped: what it means, and the place behind it. -/
def escO (s : ByteArray) (k : Nat) (sp : ByteArray) : Option (ByteArray × Nat) :=
 if k < s.size then
  if byt s k = 110 then some (⟨#[10]⟩, k + 1) else if byt s k = 116 then some (⟨#[9]⟩, k + 1)
  else if (byt s k == 92 || isSp sp (byt s k)) = true then some (strOfNums [byt s k], k + 1)
  else if byt s k = 120 then (if hexN s (k + 1) 2 = 2 then some (strOfNums [valN s (k + 1) 2], k + 3) else none)
  else if byt s k = 117 ∧ standB s ((k + 1 : Nat) : Int) 123 = true then signO s (k + 2) else none
 else none
theorem escO_at {s : ByteArray} {k : Nat} {sp : ByteArray} {c : Int} (hk : k < s.size) (hc : byt s k = c) : escO s k sp =
  if c = 110 then some (⟨#[10]⟩, k + 1) else if c = 116 then some (⟨#[9]⟩, k + 1)
  else if (c == 92 || isSp sp c) = true then some (strOfNums [c], k + 1)
  else if c = 120 then (if hexN s (k + 1) 2 = 2 then some (strOfNums [valN s (k + 1) 2], k + 3) else none)
  else if c = 117 ∧ standB s ((k + 1 : Nat) : Int) 123 = true then signO s (k + 2) else none := by
 unfold escO; rw [if_pos hk, hc]
end Go.Proofs.Ytonknapfndaalaa

namespace Go.Proofs.Ytonknapfndaalaa
set_option linter.unusedVariables false
set_option maxRecDepth 1000000
open Go.RowKit
def readO (s : ByteArray) (k : Nat) (sp : ByteArray) : Option (ByteArray × Nat) :=
 if k < s.size then (if plainB sp (byt s k) = true then some (strOfNums [byt s k], k + 1) else if byt s k = 92 then escO s (k + 1) sp else none) else none
theorem readO_at {s : ByteArray} {k : Nat} {sp : ByteArray} {c : Int} (hk : k < s.size) (hc : byt s k = c) : readO s k sp =
  if plainB sp c = true then some (strOfNums [c], k + 1) else if c = 92 then escO s (k + 1) sp else none := by
 unfold readO; rw [if_pos hk, hc]
theorem escO_out {s : ByteArray} {k : Nat} {sp : ByteArray} (h : ¬ k < s.size) : escO s k sp = none := by unfold escO; rw [if_neg h]
theorem readO_out {s : ByteArray} {k : Nat} {sp : ByteArray} (h : ¬ k < s.size) : readO s k sp = none := by unfold readO; rw [if_neg h]
end Go.Proofs.Ytonknapfndaalaa

namespace Go.Proofs.Ytonknapfndaalaa
set_option linter.unusedVariables false
set_option maxRecDepth 1000000
open Go.RowKit
end Go.Proofs.Ytonknapfndaalaa

namespace Go.Proofs.Ytonknapfndaalaa
set_option linter.unusedVariables false
set_option maxRecDepth 1000000
open Go.RowKit
end Go.Proofs.Ytonknapfndaalaa

namespace Go.Proofs.Ytonknapfndaalaa
set_option linter.unusedVariables false
set_option maxRecDepth 1000000
open Go.RowKit
theorem plain_92 (sp : ByteArray) : plainB sp 92 = false := by unfold plainB; simp
end Go.Proofs.Ytonknapfndaalaa

namespace Go.Proofs.Ytonknapfndaalaa
set_option linter.unusedVariables false
set_option maxRecDepth 1000000
open Go.RowKit
theorem encS_le (n : Int) : (encS n).size ≤ 4 := by
 unfold encS
 split
 ·
  rw [strOfNums_size, encL_len]; split <;> (try split) <;> (try split) <;> omega
 ·
  decide
theorem one_size (c : Int) : (strOfNums [c]).size ≤ 4 := by rw [strOfNums_size]; simp
theorem signO_bd {s : ByteArray} {a m : Nat} {u : ByteArray} (h : signO s a = some (u, m)) : a < m ∧ m ≤ a + 7 ∧ u.size ≤ 4 := by
 unfold signO at h
 split at h
 ·
  have := hexN_le s a 6
  injection h with h
  injection h with h1 h2
  subst h1 h2
  exact ⟨by omega, by omega, encS_le _⟩
 ·
  cases h
theorem escO_bd {s : ByteArray} {k m : Nat} {sp u : ByteArray} (h : escO s k sp = some (u, m)) : k < m ∧ m ≤ k + 9 ∧ u.size ≤ 4 := by
 by_cases hk : k < s.size
 ·
  rw [escO_at hk rfl] at h
  split at h
  ·
   (injection h with h; injection h with h1 h2; subst h1 h2; exact ⟨by omega, by omega, by decide⟩)
  ·
   split at h
   ·
    (injection h with h; injection h with h1 h2; subst h1 h2; exact ⟨by omega, by omega, by decide⟩)
   ·
    split at h
    ·
     (injection h with h; injection h with h1 h2; subst h1 h2; exact ⟨by omega, by omega, one_size _⟩)
    ·
     split at h
     ·
      split at h
      ·
       (injection h with h; injection h with h1 h2; subst h1 h2; exact ⟨by omega, by omega, one_size _⟩)
      ·
       cases h
     ·
      split at h
      ·
       obtain ⟨r1, r2, r3⟩ := signO_bd h
       exact ⟨by omega, by omega, r3⟩
      ·
       cases h
 ·
  rw [escO_out hk] at h; cases h
theorem readO_bd {s : ByteArray} {k m : Nat} {sp u : ByteArray} (h : readO s k sp = some (u, m)) : k < s.size ∧ k < m ∧ m ≤ k + 10 ∧ u.size ≤ 4 := by
 by_cases hk : k < s.size
 ·
  rw [readO_at hk rfl] at h
  refine ⟨hk, ?_⟩
  split at h
  ·
   injection h with h; injection h with h1 h2; subst h1 h2; exact ⟨by omega, by omega, one_size _⟩
  ·
   split at h
   ·
    have := escO_bd h; exact ⟨by omega, by omega, this.2.2⟩
   ·
    cases h
 ·
  rw [readO_out hk] at h; cases h
/-- What a literal means from a byte within it on. -/
def txtF (s : ByteArray) : Nat → Nat → ByteArray → Option (ByteArray × Nat)
 | 0, _, _ => none
 | f + 1, k, out =>
  if k < s.size then
   if byt s k = 34 then (if out.size = 0 ∨ 40 < out.size then none else some (out, k + 1))
   else match readO s k spT with
    | none => none
    | some (u, m) => txtF s f m (out ++ u)
  else none
theorem txtF_end {s : ByteArray} {f k : Nat} {out : ByteArray} (hf : s.size < f + k) (hk : k < s.size) (hc : byt s k = 34) : txtF s f k out = if out.size = 0 ∨ 40 < out.size then none else some (out, k + 1) := by
 obtain ⟨g, rfl⟩ : ∃ g, f = g + 1 := ⟨f - 1, by omega⟩
 unfold txtF; rw [if_pos hk, if_pos hc]
theorem txtF_go {s : ByteArray} {f k m : Nat} {out u : ByteArray} (hf : s.size < f + k) (hc : byt s k ≠ 34) (h : readO s k spT = some (u, m)) : txtF s f k out = txtF s (f - 1) m (out ++ u) := by
 have hk := (readO_bd h).1
 obtain ⟨g, rfl⟩ : ∃ g, f = g + 1 := ⟨f - 1, by omega⟩
 rw [txtF.eq_2, if_pos hk, if_neg hc, h]; rfl
/-- The literal that stands at a place. -/
def txtO (s : ByteArray) (i : Int) : Option (ByteArray × Nat) := if standB s i 34 = true then txtF s (s.size + 1) (i.toNat + 1) ⟨#[]⟩ else none
end Go.Proofs.Ytonknapfndaalaa

namespace Go.Proofs.Ytonknapfndaalaa
set_option linter.unusedVariables false
set_option maxRecDepth 1000000
open Go.RowKit
theorem stand_iff {s : ByteArray} {k : Nat} {c : Int} : standB s (k : Int) c = true ↔ k < s.size ∧ byt s k = c := by
 by_cases h : k < s.size
 ·
  rw [stand_in h, beq_iff_eq]; exact ⟨fun g => ⟨h, g⟩, fun g => g.2⟩
 ·
  rw [stand_out h]; exact ⟨fun g => (by cases g), fun g => absurd g.1 h⟩
end Go.Proofs.Ytonknapfndaalaa
