/- What the laws of layer 20 need: memories that come in, territories apart, a put and what is got behind it. -/
import Derived.Test.YtgpglmponbipbabMemoRPut3
namespace Go.Proofs.Ytgpglmponbipbab
set_option linter.unusedVariables false
open Go.RowKit Go.Sort

def Rref (w : World) (p : Nat) (U : Nat → Prop) (most : Int) (L : List Mm) : Prop := ∃ v T, RefRep w p U most L v T
theorem Rref.keep {w w' : World} {p : Nat} {U S : Nat → Prop} {most : Int} {L : List Mm} (h : Rref w p U most L) (hb : But S w w') (hd : ∀ g, U g → ¬ S g) : Rref w' p U most L := by
  obtain ⟨v, T, h⟩ := h; exact ⟨v, T, h.keep hb hd⟩
theorem Rref.lt {w : World} {p : Nat} {U : Nat → Prop} {most : Int} {L : List Mm} (h : Rref w p U most L) : ∀ g, U g → g < w.heap.size := by
  obtain ⟨v, T, h⟩ := h; exact h.lt
theorem rput_any (w : World) (p : Nat) (U : Nat → Prop) (most : Int) (L : List Mm) (x : Mm) (hn : (L.length : Int) ≤ 1000) (h : Rref w p U most L) :
    Calls Try.prog 10 #[.pointer (some ⟨p, 0, none⟩), x.val] w
      fun e w' => e = .returned (.tuple #[]) ∧ But U w w' ∧ Rref w' p (fun g => U g ∨ w.heap.size ≤ g ∧ g < w'.heap.size) most (putL most L x) := by
  obtain ⟨v, T, h⟩ := h
  cases hx : hasL L x.ins x.at_ with
  | true =>
    refine (rput_known w p U T most L v x hn hx h).mono ?_
    rintro e w' ⟨rfl, hb, hr⟩
    refine ⟨rfl, hb, v, T, hr.own, hr.win, hr.np, fun g hg => .inl (hr.terr g hg), fun g hg => ?_, hr.apart, hr.few⟩
    rcases hg with hg | hg
    · exact hr.lt g hg
    · exact hg.2
  | false => exact rput_new w p U T most L v x hn hx h
theorem rget_all (w : World) (p : Nat) (U : Nat → Prop) (most : Int) (L : List Mm) (a b : Int) (hn : (L.length : Int) ≤ 1000) (h : Rref w p U most L) :
    Calls Try.prog 12 #[.pointer (some ⟨p, 0, none⟩), .int .i64 a, .int .i64 b] w
      fun e w' => e = .returned (.tuple #[(getL L a b).val, .bool (hasL L a b)]) ∧ Below w.heap.size w w' := by
  obtain ⟨v, T, h⟩ := h
  exact rget_any w p U T most L v a b hn h
theorem rlen_all (w : World) (p : Nat) (U : Nat → Prop) (most : Int) (L : List Mm) (h : Rref w p U most L) :
    Calls Try.prog 15 #[.pointer (some ⟨p, 0, none⟩)] w fun e w' => e = .returned (.int .i64 (L.length : Int)) ∧ w' = w := by
  obtain ⟨v, T, h⟩ := h
  exact rlen_any w p U T most L v h

/-- Territories that are apart. -/
def Dj (U V : Nat → Prop) : Prop := ∀ g, U g → ¬ V g
def Grow (U : Nat → Prop) (w w' : World) : Nat → Prop := fun g => U g ∨ w.heap.size ≤ g ∧ g < w'.heap.size
theorem Dj.symm {U V : Nat → Prop} (h : Dj U V) : Dj V U := fun g hv hu => h g hu hv
theorem Dj.grow {U V : Nat → Prop} {w w' : World} (h : Dj U V) (hV : ∀ g, V g → g < w.heap.size) : Dj (Grow U w w') V := fun g hg hv => by
  rcases hg with hg | hg
  · exact h g hg hv
  · have := hV g hv; omega
theorem grow_ge {U : Nat → Prop} {w w' : World} {N : Nat} (h : ∀ g, U g → N ≤ g) (hN : N ≤ w.heap.size) : ∀ g, Grow U w w' g → N ≤ g := fun g hg => by
  rcases hg with hg | hg
  · exact h g hg
  · omega

theorem putL_get {most : Int} {L : List Mm} {x : Mm} (h1 : 1 ≤ most) : (putL most L x).find? (same x.ins x.at_) = some x := by
  unfold putL
  by_cases h : hasL L x.ins x.at_ = true
  · rw [if_pos h, find_rep h]; simp
  · rw [if_neg h]
    have h' : hasL L x.ins x.at_ = false := by simpa using h
    split
    · rw [find_snoc h']; simp
    · first | rw [if_pos h1, List.find?_append] | rw [List.find?_append]
      have : L.tail.find? (same x.ins x.at_) = none := by
        rw [List.find?_eq_none]
        intro z hz
        exact List.find?_eq_none.1 (hasL_none h') z (List.mem_of_mem_tail hz)
      rw [this]; simp [same]
theorem putL_len {most : Int} {L : List Mm} {x : Mm} : (putL most L x).length ≤ L.length + 1 := by
  unfold putL
  split
  · rw [repL_len]; omega
  · split
    · simp
    · split
      · simp
      · exact Nat.zero_le _
theorem putL_none {L : List Mm} {x : Mm} {most : Int} (h : most < 1) (hL : L = []) : putL most L x = [] := by
  subst hL; unfold putL hasL; rw [if_neg (by simp), if_neg (by simp; omega), if_neg (by omega)]

/-- The memories Ls lie from the address ao on; their parts, too, below N. -/
def HasM (N : Nat) (w : World) (ao : Option Addr) (L : List Mm) : Prop := ∀ k x, L[k]? = some x → (Wf x.ins ∧ Wf x.at_) ∧ HasS (fun g => g < N) w x.po x.part ∧ ∃ g off, ao = some ⟨g, off, none⟩ ∧ g < N ∧
    w.cell? ⟨g, off + k * 6, none⟩ = some (.int .i64 x.ins) ∧ w.cell? ⟨g, off + k * 6 + 1, none⟩ = some (.int .i64 x.at_) ∧ w.cell? ⟨g, off + k * 6 + 2, none⟩ = some (.bool x.ok) ∧ w.cell? ⟨g, off + k * 6 + 3, none⟩ = some (.int .i64 x.en) ∧
    w.cell? ⟨g, off + k * 6 + 4, none⟩ = some (.int .i64 x.far) ∧ w.cell? ⟨g, off + k * 6 + 5, none⟩ = some (.slice x.po x.part.length x.pc)
theorem HasM.keep {N : Nat} {w w' : World} {ao : Option Addr} {L : List Mm} (h : HasM N w ao L) (hb : Below N w w') (hN : N ≤ w.heap.size) : HasM N w' ao L := fun k x hk => by
  obtain ⟨hw, hs, g, off, rfl, hg, h0, h1, h2, h3, h4, h5⟩ := h k x hk
  refine ⟨hw, ?_, g, off, rfl, hg, (hb.cell (p := ⟨g, off + k * 6, none⟩) hg).trans h0, (hb.cell (p := ⟨g, off + k * 6 + 1, none⟩) hg).trans h1, (hb.cell (p := ⟨g, off + k * 6 + 2, none⟩) hg).trans h2, (hb.cell (p := ⟨g, off + k * 6 + 3, none⟩) hg).trans h3, (hb.cell (p := ⟨g, off + k * 6 + 4, none⟩) hg).trans h4, (hb.cell (p := ⟨g, off + k * 6 + 5, none⟩) hg).trans h5⟩
  intro j y hj
  obtain ⟨b, o, e0, hR, hB, c0, c1, c2, c3, c4⟩ := hs j y hj
  exact ⟨b, o, e0, hR, Nat.lt_of_lt_of_le hB hb.size, (hb.cell (p := ⟨b, o + j * 5, none⟩) hR).trans c0, (hb.cell (p := ⟨b, o + j * 5 + 1, none⟩) hR).trans c1, (hb.cell (p := ⟨b, o + j * 5 + 2, none⟩) hR).trans c2, (hb.cell (p := ⟨b, o + j * 5 + 3, none⟩) hR).trans c3, (hb.cell (p := ⟨b, o + j * 5 + 4, none⟩) hR).trans c4⟩

theorem Own.six {w : World} {g : Nat} {t : TypeId} {v0 v1 v2 v3 v4 v5 : Value} (h : Own w g t [v0, v1, v2, v3, v4, v5]) :
    w.cell? ⟨g, 0, none⟩ = some v0 ∧ w.cell? ⟨g, 1, none⟩ = some v1 ∧ w.cell? ⟨g, 2, none⟩ = some v2 ∧ w.cell? ⟨g, 3, none⟩ = some v3 ∧ w.cell? ⟨g, 4, none⟩ = some v4 ∧ w.cell? ⟨g, 5, none⟩ = some v5 ∧
    w.frozen? ⟨g, 0, none⟩ = false ∧ w.frozen? ⟨g, 1, none⟩ = false ∧ w.frozen? ⟨g, 2, none⟩ = false ∧ w.frozen? ⟨g, 3, none⟩ = false ∧ w.frozen? ⟨g, 4, none⟩ = false ∧ w.frozen? ⟨g, 5, none⟩ = false :=
  ⟨h.cell 0, h.cell 1, h.cell 2, h.cell 3, h.cell 4, h.cell 5, h.thaw 0, h.thaw 1, h.thaw 2, h.thaw 3, h.thaw 4, h.thaw 5⟩
/-- What 'x, ok := m.Get(..)' leaves: a block of its own that reads as z. -/
def Got (W w : World) (b : Nat) (z : Mm) : Prop := ∃ po pc, Own w b 30 [.int .i64 z.ins, .int .i64 z.at_, .bool z.ok, .int .i64 z.en, .int .i64 z.far, .slice po z.part.length pc] ∧ HasS (fun _ => True) w po z.part ∧ But (fun _ => False) W w ∧ W.heap.size ≤ b
theorem got_late {W W1 w' : World} {z : Mm} {po : Option Addr} {pc : Nat} {R : Nat → Prop} (h1 : But (fun _ => False) W W1) (hb : Below W1.heap.size W1 w') (hs : HasS R w' po z.part) :
    Got W (w'.alloc (.cells #[.int .i64 z.ins, .int .i64 z.at_, .bool z.ok, .int .i64 z.en, .int .i64 z.far, .slice po z.part.length pc] 30)) w'.heap.size z :=
  ⟨po, pc, Own.fresh w' _ [.int .i64 z.ins, .int .i64 z.at_, .bool z.ok, .int .i64 z.en, .int .i64 z.far, .slice po z.part.length pc], (hs.mono (fun _ _ _ => trivial)).keep (T := fun _ => False) ((But.refl _ _).alloc _) (fun _ _ _ h => h),
    (h1.then_below hb).alloc _, Nat.le_trans h1.size hb.size⟩
theorem got_early {W W1 w' : World} {z : Mm} {po : Option Addr} {pc : Nat} {R : Nat → Prop} {u0 u1 u2 u3 u4 u5 : Value} (h1 : But (fun _ => False) W W1) (hO : Own W1 W.heap.size 30 [u0, u1, u2, u3, u4, u5]) (hb : Below W1.heap.size W1 w') (hs : HasS R w' po z.part) (hR : ∀ g, R g → W1.heap.size ≤ g) :
    Got W (set6 w' W.heap.size (.int .i64 z.ins) (.int .i64 z.at_) (.bool z.ok) (.int .i64 z.en) (.int .i64 z.far) (.slice po z.part.length pc)) W.heap.size z :=
  ⟨po, pc, (hO.under hb hO.lt).put6, (hs.keep (But.put6 w' _ _ _ _ _ _ _) (fun g _ hg e => by have := hR g hg; have := hO.lt; omega)).mono (fun _ _ _ => trivial),
    (h1.then_below hb).trans (But.put6 w' _ _ _ _ _ _ _) (fun g hg e => by omega) |>.mono (fun g hg e => e), Nat.le_refl _⟩
end Go.Proofs.Ytgpglmponbipbab
