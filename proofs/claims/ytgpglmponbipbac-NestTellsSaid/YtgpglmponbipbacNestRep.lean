/- A nest as a list of nodes and an open one; the walks of Leaf, Open, Close, of the program's and the reference's. -/
import Derived.Test.YtgpglmponbipbacNd
import Derived.Test.YtgpglmponbipbacSteps
namespace Go.Proofs.Ytgpglmponbipbac
set_option linter.unusedVariables false
open Go.RowKit Go.Sort

theorem Own.two {w : World} {g : Nat} {t : TypeId} {v0 v1 : Value} (h : Own w g t [v0, v1]) : w.cell? ⟨g, 0, none⟩ = some v0 ∧ w.cell? ⟨g, 1, none⟩ = some v1 ∧ w.frozen? ⟨g, 0, none⟩ = false ∧ w.frozen? ⟨g, 1, none⟩ = false := ⟨h.cell 0, h.cell 1, h.thaw 0, h.thaw 1⟩
/-- The nodes may be a nest's. -/
def Ups (L : List Nd) (top : Int) : Prop := (∀ (i : Nat) (x : Nd), L[i]? = some x → -1 ≤ x.up ∧ x.up < (i : Int)) ∧ -1 ≤ top ∧ top < (L.length : Int)
/-- The nest at block p, of type ty, in its own blocks U. -/
structure Nr (ty : TypeId) (w : World) (p : Nat) (U : Nat → Prop) (L : List Nd) (top : Int) (v : Value) (T : Nat → Prop) : Prop where
  own : Own w p ty [v, .int .i64 top]
  win : Win T 53 5 w v L.length (rowL L)
  np : ¬ T p
  terr : ∀ g, g = p ∨ T g → U g
  lt : ∀ g, U g → g < w.heap.size
  ups : Ups L top
def Nest (ty : TypeId) (w : World) (p : Nat) (U : Nat → Prop) (L : List Nd) (top : Int) : Prop := ∃ v T, Nr ty w p U L top v T
def Grow (U : Nat → Prop) (w w' : World) : Nat → Prop := fun g => U g ∨ w.heap.size ≤ g ∧ g < w'.heap.size
theorem Nr.keep {ty : TypeId} {w w' : World} {p : Nat} {U S T : Nat → Prop} {L : List Nd} {top : Int} {v : Value} (h : Nr ty w p U L top v T) (hb : But S w w') (hd : ∀ g, U g → ¬ S g) : Nr ty w' p U L top v T :=
  ⟨h.own.but hb (hd p (h.terr p (.inl rfl))), h.win.keep hb (fun g _ hg => hd g (h.terr g (.inr hg))), h.np, h.terr, fun g hg => Nat.lt_of_lt_of_le (h.lt g hg) hb.size, h.ups⟩
theorem Nest.keep {ty : TypeId} {w w' : World} {p : Nat} {U S : Nat → Prop} {L : List Nd} {top : Int} (h : Nest ty w p U L top) (hb : But S w w') (hd : ∀ g, U g → ¬ S g) : Nest ty w' p U L top := by
  obtain ⟨v, T, h⟩ := h; exact ⟨v, T, h.keep hb hd⟩
theorem Nest.below {ty : TypeId} {w w' : World} {p : Nat} {U : Nat → Prop} {L : List Nd} {top : Int} (h : Nest ty w p U L top) (hb : Below w.heap.size w w') : Nest ty w' p U L top := h.keep (S := fun _ => False) (But.of_below hb) (fun _ _ h => h)
theorem Nest.lt {ty : TypeId} {w : World} {p : Nat} {U : Nat → Prop} {L : List Nd} {top : Int} (h : Nest ty w p U L top) : ∀ g, U g → g < w.heap.size := by
  obtain ⟨v, T, h⟩ := h; exact h.lt
theorem Nest.ups {ty : TypeId} {w : World} {p : Nat} {U : Nat → Prop} {L : List Nd} {top : Int} (h : Nest ty w p U L top) : Ups L top := by
  obtain ⟨v, T, h⟩ := h; exact h.ups
theorem Ups.snoc {L : List Nd} {top t : Int} {x : Nd} (h : Ups L top) (hx : -1 ≤ x.up ∧ x.up < (L.length : Int)) (ht : -1 ≤ t ∧ t < (L.length : Int) + 1) : Ups (L ++ [x]) t := by
  refine ⟨fun i y hy => ?_, ht.1, by simp; omega⟩
  by_cases c : i < L.length
  · rw [List.getElem?_append_left c] at hy; exact h.1 i y hy
  · have hi := (List.getElem?_eq_some_iff.1 hy).1
    simp at hi
    obtain rfl : i = L.length := by omega
    rw [List.getElem?_append_right (Nat.le_refl _)] at hy
    simp at hy; subst hy
    exact hx
/-- Behind an append and the store of the new slice. -/
theorem Nr.grown {ty : TypeId} {w W1 w' w6 : World} {p : Nat} {U T : Nat → Prop} {L : List Nd} {top : Int} {v v' : Value} {x : Nd} {k : Nat} (h : Nr ty w p U L top v T) (hk : L.length = k) (h1 : But (fun _ => False) w W1)
    (hw : Win (fun g => T g ∨ W1.heap.size ≤ g) 53 5 w' v' (k + 1) (rowL L ++ x.row)) (hb : But T W1 w') (h6 : w6 = w'.setCell ⟨p, 0, none⟩ v') (hx : -1 ≤ x.up ∧ x.up < (L.length : Int)) :
    But U w w6 ∧ Nr ty w6 p (Grow U w w6) (L ++ [x]) top v' (fun g => (T g ∨ W1.heap.size ≤ g) ∧ g < w'.heap.size) := by
  subst h6
  have hp := h.own.lt
  have hs := h1.size
  have B2 : But T w w' := h1.trans' hb
  have hsz : (w'.setCell ⟨p, 0, none⟩ v').heap.size = w'.heap.size := by simp [World.setCell]
  have BU : But U w (w'.setCell ⟨p, 0, none⟩ v') := (B2.mono fun g _ hg => h.terr g (.inr hg)).setCell (fun _ => h.terr p (.inl rfl)) v'
  refine ⟨BU, (h.own.but B2 h.np).put 0 v', ?_, ?_, ?_, ?_, h.ups.snoc hx ⟨h.ups.2.1, by have := h.ups.2.2; omega⟩⟩
  · rw [show rowL L ++ x.row = rowL (L ++ [x]) by rw [rowL_append, rowL_one]] at hw
    rw [show (L ++ [x]).length = k + 1 by simp [hk]]
    refine (hw.mono (T := fun g => (T g ∨ W1.heap.size ≤ g) ∧ g < w'.heap.size) (fun g hl hg => ⟨hg, hl⟩)).keep (But.put w' p 0 v') (fun g _ hg e => ?_)
    subst e
    rcases hg.1 with hg | hg
    · exact h.np hg
    · omega
  · rintro ⟨hg | hg, _⟩
    · exact h.np hg
    · omega
  · rintro g (hg | hg)
    · exact .inl (h.terr g (.inl hg))
    · rcases hg.1 with h1 | h1
      · exact .inl (h.terr g (.inr h1))
      · exact .inr ⟨by omega, by rw [hsz]; exact hg.2⟩
  · rintro g (hg | hg)
    · exact Nat.lt_of_lt_of_le (h.lt g hg) BU.size
    · exact hg.2

end Go.Proofs.Ytgpglmponbipbac
