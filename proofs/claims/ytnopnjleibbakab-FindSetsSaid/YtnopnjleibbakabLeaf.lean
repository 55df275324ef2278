/- Nodes that come in, places that are gathered. No function in sight. -/
import Derived.Test.YtnopnjleibbakabChecked
import Derived.Test.YtnopnjleibbakabOwn
import Derived.WalkKit
import Derived.Handy
import Derived.KernelRfl
import Derived.OwnWalk
import Derived.Laws.OwnMore
namespace Go.Proofs.Ytnopnjleibbakab
set_option linter.unusedVariables false
open Go.RowKit

theorem info_int : (Try.prog.info? 3).map (fun i => (i.zero, i.size, i.bytes)) = some (some (.int .i64 0), 1, 8) := by kernel_rfl

/-- The five cells of the node k behind the address ao. -/
def Cells5 (w : World) (ao : Option Addr) (B k : Nat) (kd : Int) (nm : ByteArray) (fr tt up : Int) : Prop :=
  ∃ b off, ao = some ⟨b, off, none⟩ ∧ b < B ∧ w.cell? ⟨b, off + k * 5, none⟩ = some (.int .i64 kd) ∧ w.cell? ⟨b, off + k * 5 + 1, none⟩ = some (.string nm) ∧
    w.cell? ⟨b, off + k * 5 + 2, none⟩ = some (.int .i64 fr) ∧ w.cell? ⟨b, off + k * 5 + 3, none⟩ = some (.int .i64 tt) ∧ w.cell? ⟨b, off + k * 5 + 4, none⟩ = some (.int .i64 up)
/-- n nodes. -/
structure Nodes where
  n : Nat
  kd : Nat → Int
  nm : Nat → ByteArray
  fr : Nat → Int
  tt : Nat → Int
  up : Nat → Int
def Has (w : World) (ao : Option Addr) (B : Nat) (l : Nodes) : Prop := ∀ k, k < l.n → Cells5 w ao B k (l.kd k) (l.nm k) (l.fr k) (l.tt k) (l.up k)
theorem Has.keep {w w' : World} {ao : Option Addr} {B C : Nat} {l : Nodes} (h : Has w ao B l) (hb : Below C w w') (hC : B ≤ C) : Has w' ao B l := fun k hk => by
  obtain ⟨b, off, rfl, hB, h0, h1, h2, h3, h4⟩ := h k hk
  have e : b < C := by omega
  exact ⟨b, off, rfl, hB, (hb.cell (p := ⟨b, off + k * 5, none⟩) e).trans h0, (hb.cell (p := ⟨b, off + k * 5 + 1, none⟩) e).trans h1, (hb.cell (p := ⟨b, off + k * 5 + 2, none⟩) e).trans h2,
    (hb.cell (p := ⟨b, off + k * 5 + 3, none⟩) e).trans h3, (hb.cell (p := ⟨b, off + k * 5 + 4, none⟩) e).trans h4⟩
theorem Has.mono {w : World} {ao : Option Addr} {B C : Nat} {l : Nodes} (h : Has w ao B l) (hB : B ≤ C) : Has w ao C l := fun k hk => by
  obtain ⟨b, off, e, hb, r⟩ := h k hk
  exact ⟨b, off, e, by omega, r⟩

/-- The numbers below k that P takes. -/
def sel (P : Nat → Bool) : Nat → List Int
  | 0 => []
  | k + 1 => if P k then sel P k ++ [(k : Int)] else sel P k
theorem sel_yes {P : Nat → Bool} {k : Nat} (h : P k = true) : sel P (k + 1) = sel P k ++ [(k : Int)] := by
  show (if P k then sel P k ++ [(k : Int)] else sel P k) = _
  rw [if_pos h]
theorem sel_no {P : Nat → Bool} {k : Nat} (h : P k = false) : sel P (k + 1) = sel P k := by
  show (if P k then sel P k ++ [(k : Int)] else sel P k) = _
  rw [h]; rfl
theorem sel_len (P : Nat → Bool) (k : Nat) : (sel P k).length ≤ k := by
  induction k with
  | zero => exact Nat.le_refl _
  | succ k ih =>
    show (if P k then sel P k ++ [(k : Int)] else sel P k).length ≤ k + 1
    split
    · rw [List.length_append]; show (sel P k).length + 1 ≤ k + 1; omega
    · omega
theorem sel_none {P : Nat → Bool} {k : Nat} (h : ∀ j, j < k → P j = false) : sel P k = [] := by
  induction k with
  | zero => rfl
  | succ k ih => rw [sel_no (h k (by omega)), ih fun j hj => h j (by omega)]
theorem sel_congr {P Q : Nat → Bool} {k : Nat} (h : ∀ j, j < k → P j = Q j) : sel P k = sel Q k := by
  induction k with
  | zero => rfl
  | succ k ih =>
    show (if P k then sel P k ++ [(k : Int)] else sel P k) = (if Q k then sel Q k ++ [(k : Int)] else sel Q k)
    rw [h k (by omega), ih fun j hj => h j (by omega)]

/-- The list L, owned. -/
def Owns (w : World) (B : Nat) (v : Value) (L : List Int) : Prop := w.ownsRow B 3 1 v L.length (L.map (Value.int .i64))
theorem Owns.none (w : World) (B : Nat) : Owns w B (.slice none 0 0) [] := World.ownsRow_nil w B _ _
theorem Owns.step {w'' : World} {B : Nat} {v' : Value} {L : List Int} {x : Int} (h : w''.ownsRow B 3 1 v' (L.length + 1) (L.map (Value.int .i64) ++ [Value.int .i64 x])) : Owns w'' B v' (L ++ [x]) := by
  unfold Owns; rw [List.length_append, List.map_append]; exact h
theorem Owns.one (w : World) (B : Nat) (x : Int) (hB : B ≤ w.heap.size) : Owns (w.alloc (.cells #[.int .i64 x] 3)) B (.slice (some ⟨w.heap.size, 0, Option.none⟩) 1 1) [x] :=
  World.ownsRow_lit w #[.int .i64 x] 1 hB (by decide) rfl
theorem below_grow {w wr w1 : World} {v : Value} {n : Nat} {xs : List Value} {o : Obj} (hb : Below w.heap.size w wr) (ho : wr.ownsRow w.heap.size 3 1 v n xs) (hg : (wr.alloc o).grownBy w1 v.ownBlock) : Below w.heap.size w w1 :=
  (hb.alloc hb.size o).grown hg (by have := hb.size; simp; omega) (fun j hj => (ho.lt j hj).1)
theorem Owns.lower {w : World} {B C : Nat} {v : Value} {L : List Int} (h : w.ownsRow C 3 1 v L.length (L.map (Value.int .i64))) (hB : B ≤ C) : Owns w B v L := by
  obtain ⟨hl, hcase⟩ := h
  refine ⟨hl, ?_⟩
  rcases hcase with h1 | ⟨g, cap, cur, e, hg, r⟩
  · exact .inl h1
  · exact .inr ⟨g, cap, cur, e, by omega, r⟩
/-- What a walk asks of a slice: its length, its cells. -/
theorem Owns.form {w : World} {B : Nat} {v : Value} {L : List Int} (h : Owns w B v L) : ∃ ao cap, v = .slice ao L.length cap ∧ ∀ j, j < L.length → ∃ g, ao = some ⟨g, 0, Option.none⟩ ∧ g < w.heap.size ∧ B ≤ g ∧ w.cell? ⟨g, j, Option.none⟩ = some (.int .i64 (L.getD j 0)) := by
  have h0 := h
  obtain ⟨_, hcase⟩ := h
  rcases hcase with ⟨rfl, h1⟩ | ⟨g, cap, cur, rfl, hg, hh, hn, hcap, hsz, htake⟩
  · exact ⟨_, _, by rw [h1], fun j hj => by omega⟩
  · refine ⟨_, _, rfl, fun j hj => ⟨g, rfl, ?_, hg, ?_⟩⟩
    · by_cases hl : g < w.heap.size
      · exact hl
      · rw [Array.getElem?_eq_none (by omega)] at hh; cases hh
    · rw [World.ownsRow.cellAt h0 j (by omega), List.getElem?_map, List.getElem?_eq_getElem hj]
      simp [List.getD, List.getElem?_eq_getElem hj]
theorem Owns.keep {w w' : World} {B : Nat} {v : Value} {L : List Int} (h : Owns w B v L) (hb : Below w.heap.size w w') : Owns w' B v L := by
  obtain ⟨hl, hcase⟩ := h
  refine ⟨hl, ?_⟩
  rcases hcase with h1 | ⟨g, cap, cur, e, hg, hh, r⟩
  · exact .inl h1
  · have : g < w.heap.size := by
      by_cases hl : g < w.heap.size
      · exact hl
      · rw [Array.getElem?_eq_none (by omega)] at hh; cases hh
    exact .inr ⟨g, cap, cur, e, hg, (hb.block g this).trans hh, r⟩
end Go.Proofs.Ytnopnjleibbakab
