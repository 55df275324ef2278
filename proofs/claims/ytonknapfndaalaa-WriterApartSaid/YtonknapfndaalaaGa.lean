/- Blocks that are known whole, kept over what a walk does; small facts on endings. No program in sight. Expressions as trees, and how they lie in memory. No program in sight. A string's bytes by their places. No program in sight. A region in the text's own order, whose operations read, and whose callees make memory alone: walked as one that draws its order is. -/
import Derived.WalkKit
import Derived.WalkSpells
import Derived.Lib.Hide
import Derived.Laws.Rows
import Derived.Deep.Draws
import Derived.Lib.QuietBelow
namespace Go.Proofs.Ytonknapfndaalaa
set_option linter.unusedVariables false
set_option maxRecDepth 1000000
open Go.RowKit
/-- Block g is just the cells cs, of element type t, none of them frozen. -/
def Own (w : World) (g : Nat) (t : TypeId) (cs : List Value) : Prop := w.heap[g]? = some (.cells cs.toArray t (0, 0))
section
variable {w w' : World} {g : Nat} {t : TypeId} {cs : List Value}
theorem Own.lt (h : Own w g t cs) : g < w.heap.size := by
 by_cases hg : g < w.heap.size
 ·
  exact hg
 ·
  unfold Own at h; rw [Array.getElem?_eq_none (by omega)] at h; cases h
theorem Own.cell (h : Own w g t cs) (i : Nat) : w.cell? ⟨g, i, none⟩ = cs[i]? := by
 rw [cell_of_row w g i cs.toArray t (0, 0) h]; simp
theorem Own.thaw (h : Own w g t cs) (i : Nat) : w.frozen? ⟨g, i, none⟩ = false := by
 unfold Own at h; simp [World.frozen?, h]
theorem Own.fresh (w : World) (t : TypeId) (cs : List Value) : Own (w.alloc (.cells cs.toArray t)) w.heap.size t cs := (MapKept.heap_alloc w _).1
theorem Own.fresh' {w : World} {g : Nat} (h : g = w.heap.size) (t : TypeId) (cs : List Value) : Own (w.alloc (.cells cs.toArray t)) g t cs := h ▸ Own.fresh w t cs
theorem Own.on_drew (h : Own w g t cs) : Own w.drew g t cs := h
theorem Own.on_drewN (h : Own w g t cs) (n : Nat) : Own (w.drewN n) g t cs := h
theorem Own.on_alloc (h : Own w g t cs) (o : Obj) : Own (w.alloc o) g t cs := (Below.heap_alloc w o g h.lt).trans h
theorem Own.put (h : Own w g t cs) (i : Nat) (u : Value) : Own (w.setCell ⟨g, i, none⟩ u) g t (cs.set i u) := by
 unfold Own at h ⊢
 rw [heap_setCell_same w g i cs.toArray t u h]; simp
theorem Own.off (h : Own w g t cs) {p : Addr} (hp : g ≠ p.block) (u : Value) : Own (w.setCell p u) g t cs := (Below.heap_setCell w p u g hp).trans h
theorem Own.under {B : Nat} (h : Own w g t cs) (hb : Below B w w') (hg : g < B) : Own w' g t cs := (hb.block g hg).trans h
/-- Four cells, and all that a walk asks of them. -/
theorem Own.four {v0 v1 v2 v3 : Value} (h : Own w g t [v0, v1, v2, v3]) :
  w.cell? ⟨g, 0, none⟩ = some v0 ∧ w.cell? ⟨g, 1, none⟩ = some v1 ∧ w.cell? ⟨g, 2, none⟩ = some v2 ∧ w.cell? ⟨g, 3, none⟩ = some v3 ∧
  w.frozen? ⟨g, 0, none⟩ = false ∧ w.frozen? ⟨g, 1, none⟩ = false ∧ w.frozen? ⟨g, 2, none⟩ = false ∧ w.frozen? ⟨g, 3, none⟩ = false :=
 ⟨h.cell 0, h.cell 1, h.cell 2, h.cell 3, h.thaw 0, h.thaw 1, h.thaw 2, h.thaw 3⟩
end
theorem below_drewN {B : Nat} {a w : World} (h : Below B a w) (n : Nat) : Below B a (w.drewN n) := ⟨h.os, h.tape, h.output, h.size, h.block⟩
/-- What a callee that makes memory alone leaves of a cell. -/
theorem keepc {w w' : World} {a : Addr} {v : Value} (h : w.cell? a = some v) (hb : Below w.heap.size w w') : w'.cell? a = some v :=
 (hb.cell (World.block_lt_of_cell? w _ h)).trans h
theorem keepb {w0 w w' : World} (h : Below w0.heap.size w0 w) (hb : Below w.heap.size w w') : Below w0.heap.size w0 w' := h.trans (hb.mono h.size)
theorem ret_bool {a b : Bool} (h : a = b) : Ending.returned (.bool a) = .returned (.bool b) := by rw [h]
theorem ret_int {k : IntKind} {a b : Int} (h : a = b) : Ending.returned (.int k a) = .returned (.int k b) := by rw [h]
end Go.Proofs.Ytonknapfndaalaa

namespace Go.Proofs.Ytonknapfndaalaa
set_option linter.unusedVariables false
set_option maxRecDepth 1000000
open Go.RowKit
/-- An expression: its op, its text, its set's words, its kids. -/
inductive Ex where
 | mk (op : Int) (text : ByteArray) (s0 s1 s2 s3 : Int) (kids : List Ex)
namespace Ex
def op : Ex → Int | .mk o _ _ _ _ _ _ => o
def text : Ex → ByteArray | .mk _ t _ _ _ _ _ => t
def s0 : Ex → Int | .mk _ _ a _ _ _ _ => a
def s1 : Ex → Int | .mk _ _ _ a _ _ _ => a
def s2 : Ex → Int | .mk _ _ _ _ a _ _ => a
def s3 : Ex → Int | .mk _ _ _ _ _ a _ => a
def kids : Ex → List Ex | .mk _ _ _ _ _ _ k => k
end Ex
/-- As a value: its kids from ko on. -/
def exv (x : Ex) (ko : Option Addr) (kc : Nat) : Value := .agg #[.int .i64 x.op, .string x.text, .int .u64 x.s0, .int .u64 x.s1, .int .u64 x.s2, .int .u64 x.s3, .slice ko x.kids.length kc]
/-- The kids K lie from ao on, and theirs, n within one another at most. -/
def HasK (w : World) : Nat → Option Addr → List Ex → Prop
 | 0, _, K => K = []
 | n + 1, ao, K => ∀ (k : Nat) (x : Ex), K[k]? = some x → ∃ g off ko kc, ao = some ⟨g, off, none⟩ ∧ g < w.heap.size ∧
   w.cell? ⟨g, off + k * 7, none⟩ = some (.int .i64 x.op) ∧ w.cell? ⟨g, off + k * 7 + 1, none⟩ = some (.string x.text) ∧
   w.cell? ⟨g, off + k * 7 + 2, none⟩ = some (.int .u64 x.s0) ∧ w.cell? ⟨g, off + k * 7 + 3, none⟩ = some (.int .u64 x.s1) ∧
   w.cell? ⟨g, off + k * 7 + 4, none⟩ = some (.int .u64 x.s2) ∧ w.cell? ⟨g, off + k * 7 + 5, none⟩ = some (.int .u64 x.s3) ∧
   w.cell? ⟨g, off + k * 7 + 6, none⟩ = some (.slice ko x.kids.length kc) ∧ HasK w n ko x.kids
theorem HasK.below {w w' : World} (hb : Below w.heap.size w w') : ∀ {n : Nat} {ao : Option Addr} {K : List Ex}, HasK w n ao K → HasK w' n ao K
 | 0, _, _, h => h
 | n + 1, ao, K, h => fun k x hk => by
  obtain ⟨g, off, ko, kc, e, hg, c0, c1, c2, c3, c4, c5, c6, hr⟩ := h k x hk
  exact ⟨g, off, ko, kc, e, Nat.lt_of_lt_of_le hg hb.size, keepc c0 hb, keepc c1 hb, keepc c2 hb, keepc c3 hb, keepc c4 hb, keepc c5 hb, keepc c6 hb, HasK.below hb hr⟩
theorem HasK.nil (w : World) (n : Nat) (ao : Option Addr) : HasK w n ao [] := by
 cases n with
 | zero => rfl
 | succ n => intro k x h; simp at h
theorem HasK.more {w : World} : ∀ {n : Nat} {ao : Option Addr} {K : List Ex}, HasK w n ao K → HasK w (n + 1) ao K
 | 0, ao, K, h => by
  have h0 : K = [] := h
  subst h0
  exact HasK.nil w 1 ao
 | n + 1, ao, K, h => fun k x hk => by
  obtain ⟨g, off, ko, kc, e, hg, c0, c1, c2, c3, c4, c5, c6, hr⟩ := h k x hk
  exact ⟨g, off, ko, kc, e, hg, c0, c1, c2, c3, c4, c5, c6, hr.more⟩
/-- More than is looked at, n levels on. -/
def grt : Nat → Ex → Bool
 | 0, _ => true
 | n + 1, x => decide (8 < x.kids.length) || decide (60 < x.text.size) || x.kids.any (grt n)
theorem grt_kid {n : Nat} {x y : Ex} (h : grt (n + 1) x = false) {k : Nat} (hy : x.kids[k]? = some y) : grt n y = false := by
 unfold grt at h
 simp only [Bool.or_eq_false_iff] at h
 exact (List.any_eq_false.1 h.2 y (List.mem_of_getElem? hy) |> Bool.eq_false_iff.2)
theorem grt_len {n : Nat} {x : Ex} (h : grt n x = false) : x.kids.length ≤ 8 ∧ x.text.size ≤ 60 := by
 cases n with
 | zero => cases h
 | succ n =>
  unfold grt at h
  simp only [Bool.or_eq_false_iff, decide_eq_false_iff_not] at h
  omega
theorem HasK.cut {w : World} : ∀ {n m : Nat} {x : Ex} {ao : Option Addr}, grt n x = false → HasK w m ao x.kids → HasK w n ao x.kids
 | 0, m, x, ao, h, _ => by cases h
 | n + 1, 0, x, ao, h, hk => by
  have h0 : x.kids = [] := hk
  rw [h0]; exact HasK.nil _ _ _
 | n + 1, m + 1, x, ao, h, hk => fun k y hy => by
  obtain ⟨g, off, ko, kc, e, hg, c0, c1, c2, c3, c4, c5, c6, hr⟩ := hk k y hy
  exact ⟨g, off, ko, kc, e, hg, c0, c1, c2, c3, c4, c5, c6, HasK.cut (grt_kid h hy) hr⟩
def deepX : Nat → Ex → Int
 | 0, _ => 0
 | n + 1, x => x.kids.foldl (fun m y => max m (deepX n y)) 0 + 1
theorem fold_snoc {α β : Type} (f : α → β → α) (a : α) (l : List β) {k : Nat} {y : β} (h : l[k]? = some y) : (l.take (k + 1)).foldl f a = f ((l.take k).foldl f a) y := by
 have hk := (List.getElem?_eq_some_iff.1 h).1
 rw [List.take_succ_eq_append_getElem hk, List.foldl_append]
 have : l[k] = y := (List.getElem?_eq_some_iff.1 h).2
 rw [this]; rfl
theorem fold_all {α β : Type} (f : α → β → α) (a : α) (l : List β) : (l.take l.length).foldl f a = l.foldl f a := by rw [List.take_length]
theorem fold_inv {α β : Type} {f : α → β → α} {P : α → Prop} (a : α) : ∀ (l : List β), P a → (∀ a y, y ∈ l → P a → P (f a y)) → P (l.foldl f a)
 | [], ha, _ => ha
 | y :: l, ha, h => by
  rw [List.foldl_cons]
  exact fold_inv (f a y) l (h a y (List.mem_cons_self ..) ha) (fun a z hz => h a z (List.mem_cons_of_mem _ hz))
theorem deepX_bd : ∀ (n : Nat) (x : Ex), 0 ≤ deepX n x ∧ deepX n x ≤ n
 | 0, _ => by unfold deepX; omega
 | n + 1, x => by
  unfold deepX
  have h := fold_inv (f := fun m y => max m (deepX n y)) (P := fun m : Int => 0 ≤ m ∧ m ≤ n) 0 x.kids (by omega) (fun a y _ h => by have := deepX_bd n y; omega)
  omega
theorem deepX_take (n : Nat) (x : Ex) (k : Nat) : 0 ≤ (x.kids.take k).foldl (fun m y => max m (deepX n y)) 0 ∧ (x.kids.take k).foldl (fun m y => max m (deepX n y)) 0 ≤ n :=
 fold_inv (f := fun m y => max m (deepX n y)) (P := fun m : Int => 0 ≤ m ∧ m ≤ n) 0 _ (by omega) (fun a y _ h => by have := deepX_bd n y; omega)
end Go.Proofs.Ytonknapfndaalaa

namespace Go.Proofs.Ytonknapfndaalaa
set_option linter.unusedVariables false
set_option maxRecDepth 1000000
open Go.RowKit
/-- The byte at place k. -/
def byt (s : ByteArray) (k : Nat) : Int := ((s.data.toList.getD k 0).toNat : Int)
theorem byt_get {s : ByteArray} {k : Nat} (h : k < s.size) : byt s k = (s[k].toNat : Int) := by
 have h' : k < s.data.toList.length := by simpa using h
 unfold byt
 rw [List.getD_eq_getElem?_getD, List.getElem?_eq_getElem h']; rfl
theorem byt_lt (s : ByteArray) (k : Nat) : 0 ≤ byt s k ∧ byt s k ≤ 255 := by
 unfold byt; have := (s.data.toList.getD k 0).toNat_lt; omega
def ofL (l : List UInt8) : ByteArray := ⟨l.toArray⟩
theorem ofL_self (a : ByteArray) : ofL a.data.toList = a := by
 apply ByteArray.ext
 show a.data.toList.toArray = a.data
 simp
theorem ofL_take (s : ByteArray) (k : Nat) : ofL (s.data.toList.take k) = s.extract 0 k := by
 apply ByteArray.ext
 show (s.data.toList.take k).toArray = (s.extract 0 k).data
 rw [ByteArray.data_extract]
 apply Array.ext'
 simp
theorem ofL_drop (s : ByteArray) (k : Nat) : ofL (s.data.toList.drop k) = s.extract k s.size := by
 apply ByteArray.ext
 show (s.data.toList.drop k).toArray = (s.extract k s.size).data
 rw [ByteArray.data_extract]
 apply Array.ext'
 simp
 rw [List.take_of_length_le (by simp)]
end Go.Proofs.Ytonknapfndaalaa

namespace Go.Proofs.Ytonknapfndaalaa
set_option linter.unusedVariables false
set_option maxRecDepth 1000000
open Go.RowKit Go.Sort
end Go.Proofs.Ytonknapfndaalaa
