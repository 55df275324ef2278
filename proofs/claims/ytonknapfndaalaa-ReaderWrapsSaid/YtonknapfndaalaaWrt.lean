/- Expressions as they are written: what it says. -/
import Derived.Test.YtonknapfndaalaaGl
import Derived.Test.YtonknapfndaalaaGf
import Derived.Test.YtonknapfndaalaaGk
import Derived.Lib.Join
namespace Go.Proofs.Ytonknapfndaalaa
set_option linter.unusedVariables false
set_option maxRecDepth 1000000
open Go.RowKit
/-- How closely an expression of this op binds. -/
def cloX (op : Int) : Int := if op = 5 then 0 else if op = 4 then 1 else if op = 9 ∨ op = 10 ∨ op = 13 ∨ op = 12 then 2 else if op = 6 ∨ op = 7 ∨ op = 8 then 3 else 4
def parX (b : Bool) (l : List UInt8) : List UInt8 := if b = true then 40 :: (l ++ [41]) else l
def sepX (op : Int) : List UInt8 := if op = 4 then [32] else if op = 5 then [32, 47, 32] else []
def inX (x : Ex) : Nat → Bool := inSet x.s0.toNat x.s1.toNat x.s2.toNat x.s3.toNat
def kdX (f : Ex → List UInt8) (op : Int) (y : Ex) : List UInt8 := parX (decide (cloX y.op ≤ cloX op)) (f y)
def rowX (f : Ex → List UInt8) (x : Ex) : List UInt8 := Lib.join (x.kids.map (kdX f x.op)) (sepX x.op)
/-- An expression as it is written. -/
def prX : Nat → Ex → List UInt8
 | 0, _ => []
 | n + 1, x =>
  if x.op = 1 then (textS x.text).data.toList else if x.op = 2 then (classS (inX x)).data.toList else if x.op = 3 then [46] else if x.op = 11 then x.text.data.toList
  else if x.op = 4 then rowX (prX n) x else if x.op = 5 then rowX (prX n) x
  else if x.op = 6 then rowX (prX n) x ++ [42] else if x.op = 7 then rowX (prX n) x ++ [43] else if x.op = 8 then rowX (prX n) x ++ [63]
  else if x.op = 9 then 38 :: rowX (prX n) x else if x.op = 10 then 33 :: rowX (prX n) x
  else if x.op = 12 then x.text.data.toList ++ (58 :: rowX (prX n) x) else if x.op = 13 then 126 :: (rowX (prX n) x ++ [126]) else []
def SetsOk : Nat → Ex → Prop
 | 0, _ => True
 | n + 1, x => ((0 ≤ x.s0 ∧ x.s0 < P64) ∧ (0 ≤ x.s1 ∧ x.s1 < P64) ∧ (0 ≤ x.s2 ∧ x.s2 < P64) ∧ (0 ≤ x.s3 ∧ x.s3 < P64)) ∧ ∀ (k : Nat) (y : Ex), x.kids[k]? = some y → SetsOk n y
/-- Not too many kids, no long text, n deep at most. -/
def tame : Nat → Ex → Prop
 | 0, _ => False
 | n + 1, x => x.kids.length ≤ 1000 ∧ x.text.size ≤ 60 ∧ ∀ (k : Nat) (y : Ex), x.kids[k]? = some y → tame n y
theorem tame_kid {n : Nat} {x y : Ex} (h : tame (n + 1) x) {k : Nat} (hy : x.kids[k]? = some y) : tame n y := h.2.2 k y hy
/-- There is room for what is written, and for that of each part. -/
def Rmx : Nat → Ex → Prop
 | 0, _ => True
 | n + 1, x => (rowX (prX n) x).length ≤ 70368744177664 ∧ ∀ (k : Nat) (y : Ex), x.kids[k]? = some y → (prX n y).length ≤ 70368744177664 ∧ Rmx n y
/-- What the walk of writing wants of an expression. -/
structure PrOk (n : Nat) (x : Ex) : Prop where
 small : tame n x
 sets : SetsOk n x
 room : Rmx n x
theorem PrOk.kid {n : Nat} {x y : Ex} (h : PrOk (n + 1) x) {k : Nat} (hy : x.kids[k]? = some y) : PrOk n y := by
 exact ⟨tame_kid h.small hy, h.sets.2 k y hy, (h.room.2 k y hy).2⟩
theorem textS_len (s : ByteArray) : (textS s).data.toList.length ≤ 4 * s.size + 2 := by
 have := wrT_len s s.size
 show ((wrT s s.size ++ [34]).toArray).toList.length ≤ _
 simp; omega
theorem below_box (w : World) (A : Obj) : Below w.heap.size w (w.alloc A) := (Below.refl _ _).alloc (Nat.le_refl _) _
end Go.Proofs.Ytonknapfndaalaa
