/- Expressions as they are written: what it says. -/
import Derived.Test.YtonknapfndaalaaGl
import Derived.Test.YtonknapfndaalaaGf
import Derived.Test.YtonknapfndaalaaGk
import Derived.Lib.Join
namespace Go.Proofs.Ytonknapfndaalaa
set_option linter.unusedVariables false
set_option maxRecDepth 1000000
open Go.RowKit
/-- How closely an expression of this op binds. -/
def cloX (op : Int) : Int := if op = 5 then 0 else if op = 4 then 1 else if op = 9 ∨ op = 10 ∨ op = 13 ∨ op = 12 then 2 else if op = 6 ∨ op = 7 ∨ op = 8 then 3 else 4
def parX (b : Bool) (l : List UInt8) : List UInt8 := if b = true then 40 :: (l ++ [41]) else l
def sepX (op : Int) : List UInt8 := if op = 4 then [32] else if op = 5 then [32, 47, 32] else []
def inX (x : Ex) : Nat → Bool := inSet x.s0.toNat x.s1.toNat x.s2.toNat x.s3.toNat
def kdX (f : Ex → List UInt8) (op : Int) (y : Ex) : List UInt8 := parX (decide (cloX y.op ≤ cloX op)) (f y)
def rowX (f : Ex → List UInt8) (x : Ex) : List UInt8 := Lib.join (x.kids.map (kdX f x.op)) (sepX x.op)
/-- An expression as it is written. -/
def prX : Nat → Ex → List UInt8
 | 0, _ => []
 | n + 1, x =>
  if x.op = 1 then (textS x.text).data.toList else if x.op = 2 then (classS (inX x)).data.toList else if x.op = 3 then [46] else if x.op = 11 then x.text.data.toList
  else if x.op = 4 then rowX (prX n) x else if x.op = 5 then rowX (prX n) x
  else if x.op = 6 then rowX (prX n) x ++ [42] else if x.op = 7 then rowX (prX n) x ++ [43] else if x.op = 8 then rowX (prX n) x ++ [63]
  else if x.op = 9 then 38 :: rowX (prX n) x else if x.op = 10 then 33 :: rowX (prX n) x
  else if x.op = 12 then x.text.data.toList ++ (58 :: rowX (prX n) x) else if x.op = 13 then 126 :: (rowX (prX n) x ++ [126]) else []
/-- A bound of its length. -/
def wtX : Nat → Ex → Nat
 | 0, _ => 0
 | n + 1, x => (x.kids.map (wtX n)).sum + 4 * x.text.size + 2420
def SetsOk : Nat → Ex → Prop
 | 0, _ => True
 | n + 1, x => ((0 ≤ x.s0 ∧ x.s0 < P64) ∧ (0 ≤ x.s1 ∧ x.s1 < P64) ∧ (0 ≤ x.s2 ∧ x.s2 < P64) ∧ (0 ≤ x.s3 ∧ x.s3 < P64)) ∧ ∀ (k : Nat) (y : Ex), x.kids[k]? = some y → SetsOk n y
theorem sum_ge {α : Type} (f : α → Nat) : ∀ (l : List α) (k : Nat) (y : α), l[k]? = some y → f y ≤ (l.map f).sum
 | [], k, y, h => by simp at h
 | x :: l, 0, y, h => by simp at h; subst h; simp
 | x :: l, k + 1, y, h => by
  have := sum_ge f l k y (by simpa using h)
  simp only [List.map_cons, List.sum_cons]; omega
/-- Not too many kids, no long text, n deep at most. -/
def tame : Nat → Ex → Prop
 | 0, _ => False
 | n + 1, x => x.kids.length ≤ 1000 ∧ x.text.size ≤ 60 ∧ ∀ (k : Nat) (y : Ex), x.kids[k]? = some y → tame n y
theorem tame_grt : ∀ {n : Nat} {x : Ex}, grt n x = false → tame n x
 | 0, x, h => by cases h
 | n + 1, x, h => ⟨by have := (grt_len h).1; omega, (grt_len h).2, fun k y hy => tame_grt (grt_kid h hy)⟩
theorem tame_len {n : Nat} {x : Ex} (h : tame n x) : x.kids.length ≤ 1000 ∧ x.text.size ≤ 60 := by
 cases n with
 | zero => exact h.elim
 | succ n => exact ⟨h.1, h.2.1⟩
theorem tame_kid {n : Nat} {x y : Ex} (h : tame (n + 1) x) {k : Nat} (hy : x.kids[k]? = some y) : tame n y := h.2.2 k y hy
/-- There is room for what is written, and for that of each part. -/
def Rmx : Nat → Ex → Prop
 | 0, _ => True
 | n + 1, x => (rowX (prX n) x).length ≤ 70368744177664 ∧ ∀ (k : Nat) (y : Ex), x.kids[k]? = some y → (prX n y).length ≤ 70368744177664 ∧ Rmx n y
/-- What the walk of writing wants of an expression. -/
structure PrOk (n : Nat) (x : Ex) : Prop where
 small : tame n x
 sets : SetsOk n x
 room : Rmx n x
theorem PrOk.kid {n : Nat} {x y : Ex} (h : PrOk (n + 1) x) {k : Nat} (hy : x.kids[k]? = some y) : PrOk n y := by
 exact ⟨tame_kid h.small hy, h.sets.2 k y hy, (h.room.2 k y hy).2⟩
theorem parX_len (b : Bool) (l : List UInt8) : (parX b l).length ≤ l.length + 2 := by
 unfold parX; split <;> simp
theorem sepX_len (op : Int) : (sepX op).length ≤ 3 := by
 unfold sepX; split
 ·
  decide
 ·
  split <;> decide
theorem lens_le {f : Ex → List UInt8} {g : Ex → Nat} (op : Int) : ∀ (l : List Ex), (∀ y ∈ l, (f y).length + 10 ≤ g y) → Lib.lens (l.map (kdX f op)) + 8 * l.length ≤ (l.map g).sum
 | [], _ => by simp [Lib.lens]
 | y :: l, h => by
  have h1 := lens_le op l (fun z hz => h z (List.mem_cons_of_mem _ hz))
  have h2 := h y (List.mem_cons_self ..)
  have h3 := parX_len (decide (cloX y.op ≤ cloX op)) (f y)
  simp only [Lib.lens, List.map_cons, List.sum_cons, List.length_cons, kdX] at h1 ⊢
  omega
theorem rowX_len {f : Ex → List UInt8} {g : Ex → Nat} (x : Ex) (h : ∀ y ∈ x.kids, (f y).length + 10 ≤ g y) : (rowX f x).length ≤ (x.kids.map g).sum := by
 have h1 := lens_le (f := f) (g := g) x.op x.kids h
 have h2 := sepX_len x.op
 unfold rowX
 cases hk : x.kids with
 | nil => simp [Lib.join_nil]
 | cons y l =>
  rw [hk] at h1
  rw [List.map_cons, Lib.join_length]
  rw [List.map_cons] at h1
  have h3 : (sepX x.op).length * (l.map (kdX f x.op)).length ≤ 3 * l.length := by rw [List.length_map]; exact Nat.mul_le_mul_right _ h2
  rw [List.length_cons] at h1
  omega
theorem textS_len (s : ByteArray) : (textS s).data.toList.length ≤ 4 * s.size + 2 := by
 have := wrT_len s s.size
 show ((wrT s s.size ++ [34]).toArray).toList.length ≤ _
 simp; omega
theorem classS_len (h : Nat → Bool) : (classS h).data.toList.length ≤ 2401 := by
 have := clsL_len h
 show ((clsL h ++ [93]).toArray).toList.length ≤ _
 simp; omega
theorem prX_len : ∀ (n : Nat) (x : Ex), tame n x → (prX n x).length + 10 ≤ wtX n x
 | 0, x, h => h.elim
 | n + 1, x, h => by
  have hr : (rowX (prX n) x).length ≤ (x.kids.map (wtX n)).sum := rowX_len x (fun y hy => by
   obtain ⟨k, hk, e⟩ := List.getElem_of_mem hy
   exact prX_len n y (tame_kid h (k := k) (by rw [List.getElem?_eq_getElem hk, e])))
  have ht := textS_len x.text
  have hc := classS_len (inX x)
  have hs : x.text.data.toList.length = x.text.size := by simp
  have hl : ∀ l : List UInt8, l.length + 10 ≤ (x.kids.map (wtX n)).sum + 4 * x.text.size + 2420 → l.length + 10 ≤ wtX (n + 1) x := fun l h => h
  apply hl
  clear hl
  unfold prX
  by_cases h1 : x.op = 1
  ·
   rw [if_pos h1]; omega
  by_cases h2 : x.op = 2
  ·
   rw [if_neg h1, if_pos h2]; omega
  by_cases h3 : x.op = 3
  ·
   rw [if_neg h1, if_neg h2, if_pos h3]; show 1 + 10 ≤ _; omega
  by_cases h11 : x.op = 11
  ·
   rw [if_neg h1, if_neg h2, if_neg h3, if_pos h11]; omega
  rw [if_neg h1, if_neg h2, if_neg h3, if_neg h11]
  clear h1 h2 h3 h11
  split
  ·
   omega
  split
  ·
   omega
  split
  ·
   rw [List.length_append]; show _ + 1 + 10 ≤ _; omega
  split
  ·
   rw [List.length_append]; show _ + 1 + 10 ≤ _; omega
  split
  ·
   rw [List.length_append]; show _ + 1 + 10 ≤ _; omega
  split
  ·
   rw [List.length_cons]; omega
  split
  ·
   rw [List.length_cons]; omega
  split
  ·
   rw [List.length_append, List.length_cons]; omega
  split
  ·
   rw [List.length_cons, List.length_append]; show _ + 1 + 1 + 10 ≤ _; omega
  ·
   show 0 + 10 ≤ _; omega
theorem rm_wt : ∀ (n : Nat) (x : Ex), tame n x → wtX n x ≤ 70368744177664 → Rmx n x
 | 0, x, h, _ => h.elim
 | n + 1, x, h, hw => by
  have hk : ∀ y ∈ x.kids, (prX n y).length + 10 ≤ wtX n y := fun y hy => by
   obtain ⟨k, hk, e⟩ := List.getElem_of_mem hy
   exact prX_len n y (tame_kid h (k := k) (by rw [List.getElem?_eq_getElem hk, e]))
  have h1 := rowX_len (f := prX n) (g := wtX n) x hk
  have h2 : wtX (n + 1) x = (x.kids.map (wtX n)).sum + 4 * x.text.size + 2420 := rfl
  refine ⟨by omega, fun k y hy => ?_⟩
  have h3 := sum_ge (wtX n) x.kids k y hy
  have h4 := hk y (List.mem_of_getElem? hy)
  exact ⟨by omega, rm_wt n y (tame_kid h hy) (by omega)⟩
theorem below_box (w : World) (A : Obj) : Below w.heap.size w (w.alloc A) := (Below.refl _ _).alloc (Nat.le_refl _) _
end Go.Proofs.Ytonknapfndaalaa
