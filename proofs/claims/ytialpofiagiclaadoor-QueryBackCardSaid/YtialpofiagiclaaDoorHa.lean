/- Blocks that are known whole, kept over what a walk does; small facts on endings. No program in sight. A string's bytes by their places. No program in sight. A region in the text's own order, whose operations read, and whose callees make memory alone: walked as one that draws its order is. -/
import Derived.WalkKit
import Derived.WalkSpells
import Derived.Lib.Hide
import Derived.Laws.Rows
import Derived.Deep.Draws
import Derived.Lib.QuietBelow
namespace Go.Proofs.YtialpofiagiclaaDoor
set_option linter.unusedVariables false
set_option maxRecDepth 1000000
open Go.RowKit

/-- Block g is just the cells cs, of element type t, none of them frozen. -/
def Own (w : World) (g : Nat) (t : TypeId) (cs : List Value) : Prop := w.heap[g]? = some (.cells cs.toArray t (0, 0))

section
variable {w w' : World} {g : Nat} {t : TypeId} {cs : List Value}
theorem Own.lt (h : Own w g t cs) : g < w.heap.size := by
  by_cases hg : g < w.heap.size
  · exact hg
  · unfold Own at h; rw [Array.getElem?_eq_none (by omega)] at h; cases h
theorem Own.cell (h : Own w g t cs) (i : Nat) : w.cell? ⟨g, i, none⟩ = cs[i]? := by
  rw [cell_of_row w g i cs.toArray t (0, 0) h]; simp
theorem Own.thaw (h : Own w g t cs) (i : Nat) : w.frozen? ⟨g, i, none⟩ = false := by
  unfold Own at h; simp [World.frozen?, h]
theorem Own.fresh (w : World) (t : TypeId) (cs : List Value) : Own (w.alloc (.cells cs.toArray t)) w.heap.size t cs := (MapKept.heap_alloc w _).1
theorem Own.fresh' {w : World} {g : Nat} (h : g = w.heap.size) (t : TypeId) (cs : List Value) : Own (w.alloc (.cells cs.toArray t)) g t cs := h ▸ Own.fresh w t cs
theorem Own.on_drew (h : Own w g t cs) : Own w.drew g t cs := h
theorem Own.on_drewN (h : Own w g t cs) (n : Nat) : Own (w.drewN n) g t cs := h
theorem Own.on_alloc (h : Own w g t cs) (o : Obj) : Own (w.alloc o) g t cs := (Below.heap_alloc w o g h.lt).trans h
theorem Own.put (h : Own w g t cs) (i : Nat) (u : Value) : Own (w.setCell ⟨g, i, none⟩ u) g t (cs.set i u) := by
  unfold Own at h ⊢
  rw [heap_setCell_same w g i cs.toArray t u h]; simp
theorem Own.off (h : Own w g t cs) {p : Addr} (hp : g ≠ p.block) (u : Value) : Own (w.setCell p u) g t cs := (Below.heap_setCell w p u g hp).trans h
theorem Own.under {B : Nat} (h : Own w g t cs) (hb : Below B w w') (hg : g < B) : Own w' g t cs := (hb.block g hg).trans h
theorem Own.by_grown {row : Option Nat} (h : Own w g t cs) (hb : w.grownBy w' row) (hg : some g ≠ row) : Own w' g t cs := (hb.block g h.lt hg).trans h
/-- Four cells, and all that a walk asks of them. -/
theorem Own.four {v0 v1 v2 v3 : Value} (h : Own w g t [v0, v1, v2, v3]) :
    w.cell? ⟨g, 0, none⟩ = some v0 ∧ w.cell? ⟨g, 1, none⟩ = some v1 ∧ w.cell? ⟨g, 2, none⟩ = some v2 ∧ w.cell? ⟨g, 3, none⟩ = some v3 ∧
    w.frozen? ⟨g, 0, none⟩ = false ∧ w.frozen? ⟨g, 1, none⟩ = false ∧ w.frozen? ⟨g, 2, none⟩ = false ∧ w.frozen? ⟨g, 3, none⟩ = false :=
  ⟨h.cell 0, h.cell 1, h.cell 2, h.cell 3, h.thaw 0, h.thaw 1, h.thaw 2, h.thaw 3⟩
/-- Four cells, written one behind the other. -/
def set4 (w : World) (g : Nat) (u0 u1 u2 u3 : Value) : World := (((w.setCell ⟨g, 0, none⟩ u0).setCell ⟨g, 1, none⟩ u1).setCell ⟨g, 2, none⟩ u2).setCell ⟨g, 3, none⟩ u3
theorem set4_fold (w : World) (g : Nat) (u0 u1 u2 u3 : Value) : (((w.setCell ⟨g, 0, none⟩ u0).setCell ⟨g, 1, none⟩ u1).setCell ⟨g, 2, none⟩ u2).setCell ⟨g, 3, none⟩ u3 = set4 w g u0 u1 u2 u3 := rfl
theorem Own.put4 {v0 v1 v2 v3 u0 u1 u2 u3 : Value} (h : Own w g t [v0, v1, v2, v3]) : Own (set4 w g u0 u1 u2 u3) g t [u0, u1, u2, u3] :=
  (((h.put 0 u0).put 1 u1).put 2 u2).put 3 u3
theorem Own.off4 (h : Own w g t cs) {k : Nat} (hk : g ≠ k) (u0 u1 u2 u3 : Value) : Own (set4 w k u0 u1 u2 u3) g t cs :=
  (((h.off (p := ⟨k, 0, none⟩) hk u0).off (p := ⟨k, 1, none⟩) hk u1).off (p := ⟨k, 2, none⟩) hk u2).off (p := ⟨k, 3, none⟩) hk u3
end

theorem below_drewN {B : Nat} {a w : World} (h : Below B a w) (n : Nat) : Below B a (w.drewN n) := ⟨h.os, h.tape, h.output, h.size, h.block⟩
theorem below_put4 {B g : Nat} {a w : World} (h : Below B a w) (hg : B ≤ g) (u0 u1 u2 u3 : Value) : Below B a (set4 w g u0 u1 u2 u3) :=
  (((h.setCell (p := ⟨g, 0, none⟩) hg u0).setCell (p := ⟨g, 1, none⟩) hg u1).setCell (p := ⟨g, 2, none⟩) hg u2).setCell (p := ⟨g, 3, none⟩) hg u3

/-- What a callee that makes memory alone leaves of a cell. -/
theorem keepc {w w' : World} {a : Addr} {v : Value} (h : w.cell? a = some v) (hb : Below w.heap.size w w') : w'.cell? a = some v :=
  (hb.cell (World.block_lt_of_cell? w _ h)).trans h
theorem keepb {w0 w w' : World} (h : Below w0.heap.size w0 w) (hb : Below w.heap.size w w') : Below w0.heap.size w0 w' := h.trans (hb.mono h.size)
theorem keep4 {w0 w w' : World} {a0 a1 a2 a3 : Addr} {v0 v1 v2 v3 : Value}
    (h : w.cell? a0 = some v0 ∧ w.cell? a1 = some v1 ∧ w.cell? a2 = some v2 ∧ w.cell? a3 = some v3 ∧ Below w0.heap.size w0 w) (hb : Below w.heap.size w w') :
    w'.cell? a0 = some v0 ∧ w'.cell? a1 = some v1 ∧ w'.cell? a2 = some v2 ∧ w'.cell? a3 = some v3 ∧ Below w0.heap.size w0 w' :=
  ⟨keepc h.1 hb, keepc h.2.1 hb, keepc h.2.2.1 hb, keepc h.2.2.2.1 hb, keepb h.2.2.2.2 hb⟩
theorem keep8 {w0 w w' : World} {a0 a1 a2 a3 b0 b1 b2 b3 : Addr} {v0 v1 v2 v3 u0 u1 u2 u3 : Value}
    (h : w.cell? a0 = some v0 ∧ w.cell? a1 = some v1 ∧ w.cell? a2 = some v2 ∧ w.cell? a3 = some v3 ∧ w.cell? b0 = some u0 ∧ w.cell? b1 = some u1 ∧ w.cell? b2 = some u2 ∧ w.cell? b3 = some u3 ∧ Below w0.heap.size w0 w) (hb : Below w.heap.size w w') :
    w'.cell? a0 = some v0 ∧ w'.cell? a1 = some v1 ∧ w'.cell? a2 = some v2 ∧ w'.cell? a3 = some v3 ∧ w'.cell? b0 = some u0 ∧ w'.cell? b1 = some u1 ∧ w'.cell? b2 = some u2 ∧ w'.cell? b3 = some u3 ∧ Below w0.heap.size w0 w' :=
  ⟨keepc h.1 hb, keepc h.2.1 hb, keepc h.2.2.1 hb, keepc h.2.2.2.1 hb, keepc h.2.2.2.2.1 hb, keepc h.2.2.2.2.2.1 hb, keepc h.2.2.2.2.2.2.1 hb, keepc h.2.2.2.2.2.2.2.1 hb, keepb h.2.2.2.2.2.2.2.2 hb⟩

theorem ret_bool {a b : Bool} (h : a = b) : Ending.returned (.bool a) = .returned (.bool b) := by rw [h]
theorem ret_int {k : IntKind} {a b : Int} (h : a = b) : Ending.returned (.int k a) = .returned (.int k b) := by rw [h]
theorem ret_set {a b c d a' b' c' d' : Int} (h1 : a = a') (h2 : b = b') (h3 : c = c') (h4 : d = d') :
    Ending.returned (.agg #[.int .u64 a, .int .u64 b, .int .u64 c, .int .u64 d]) = .returned (.agg #[.int .u64 a', .int .u64 b', .int .u64 c', .int .u64 d']) := by rw [h1, h2, h3, h4]
end Go.Proofs.YtialpofiagiclaaDoor

namespace Go.Proofs.YtialpofiagiclaaDoor
set_option linter.unusedVariables false
set_option maxRecDepth 1000000
open Go.RowKit

/-- The byte at place k. -/
def byt (s : ByteArray) (k : Nat) : Int := ((s.data.toList.getD k 0).toNat : Int)
theorem byt_get {s : ByteArray} {k : Nat} (h : k < s.size) : byt s k = (s[k].toNat : Int) := by
  have h' : k < s.data.toList.length := by simpa using h
  unfold byt
  rw [List.getD_eq_getElem?_getD, List.getElem?_eq_getElem h']; rfl
theorem byt_lt (s : ByteArray) (k : Nat) : 0 ≤ byt s k ∧ byt s k ≤ 255 := by
  unfold byt; have := (s.data.toList.getD k 0).toNat_lt; omega
def ofL (l : List UInt8) : ByteArray := ⟨l.toArray⟩
theorem ofL_self (a : ByteArray) : ofL a.data.toList = a := by
  apply ByteArray.ext
  show a.data.toList.toArray = a.data
  simp
theorem ofL_take (s : ByteArray) (k : Nat) : ofL (s.data.toList.take k) = s.extract 0 k := by
  apply ByteArray.ext
  show (s.data.toList.take k).toArray = (s.extract 0 k).data
  rw [ByteArray.data_extract]
  apply Array.ext'
  simp
theorem ofL_drop (s : ByteArray) (k : Nat) : ofL (s.data.toList.drop k) = s.extract k s.size := by
  apply ByteArray.ext
  show (s.data.toList.drop k).toArray = (s.extract k s.size).data
  rw [ByteArray.data_extract]
  apply Array.ext'
  simp
  rw [List.take_of_length_le (by simp)]
end Go.Proofs.YtialpofiagiclaaDoor

namespace Go.Proofs.YtialpofiagiclaaDoor
set_option linter.unusedVariables false
set_option maxRecDepth 1000000
open Go.RowKit Go.Sort

theorem wpList_of_quiet {P : Program} {ops : Array Oper} {C : World → Prop} {QA : Act → Prop} {Q : Exit → Act → World → Prop} (hQ : ∀ a w, C w → QA a → Q .normal a w) :
    ∀ (l : List Oper) (a : Act) (w : World), C w → wpQuiet P ops C QA l a → wpList P ops Q l a w
  | [], a, w, hC, h => hQ a w hC h
  | o :: rest, a, w, hC, h => by
    unfold wpQuiet at h
    unfold wpList
    split
    · rename_i hw
      rw [if_pos hw] at h
      first
        | exact Oper.wp_of_quiet hC (fun a' w' hC' h' => wpList_of_quiet hQ rest a' w' hC' h') h
        | exact .inl (Oper.wp_of_quiet hC (fun a' w' hC' h' => wpList_of_quiet hQ rest a' w' hC' h') h)
    · rename_i hw
      rw [if_neg hw] at h
      exact wpList_of_quiet hQ rest _ w hC h

theorem wp_region_plain_below {P : Program} {id : Nat} {Q : Exit → Act → World → Prop} {a : Act} {w : World} {l : List Oper}
    (h : wpQuiet P l.toArray (fun w' => ∃ p : Regrown, w' = grow (redrawn w p.d) p.os) (fun a' => ∀ w', (∃ p : Regrown, w' = grow (redrawn w p.d) p.os) → Q .normal a' w') l a) : (Code.region id l.toArray false).wp P Q a w :=
  wp_region_lit (wpList_of_quiet (fun _ w' hC hq => hq w' hC) l a w ⟨⟨w.drawn, #[]⟩, by rw [grow_empty]; rfl⟩ h)
end Go.Proofs.YtialpofiagiclaaDoor
