/- The program's nest as a law uses it: its blocks from N on, off what is kept (X). -/
import Derived.Test.YtgpglmponbipbacNestND
import Derived.Test.YtgpglmponbipbacNestNE
import Derived.Test.YtgpglmponbipbacNestNA
namespace Go.Proofs.Ytgpglmponbipbac
set_option linter.unusedVariables false
open Go.RowKit Go.Sort

def Ns (N : Nat) (X : Nat → Prop) (w : World) (p : Nat) (L : List Nd) (top : Int) : Prop :=
  ∃ U, Nest 56 w p U L top ∧ (∀ g, U g → N ≤ g) ∧ (∀ g, U g → ¬ X g) ∧ (∀ g, X g → g < w.heap.size) ∧ N ≤ w.heap.size
def Off (X : Nat → Prop) : Nat → Prop := fun g => ¬ X g
section
variable {N p : Nat} {X Y : Nat → Prop} {w w' : World} {L : List Nd} {top : Int}
theorem Ns.below (h : Ns N X w p L top) (hb : Below w.heap.size w w') : Ns N X w' p L top := by
  obtain ⟨U, hr, h1, h2, h3, h4⟩ := h
  exact ⟨U, hr.below hb, h1, h2, fun g hg => Nat.lt_of_lt_of_le (h3 g hg) hb.size, Nat.le_trans h4 hb.size⟩
theorem Ns.sz (h : Ns N X w p L top) : N ≤ w.heap.size := by obtain ⟨U, hr, h1, h2, h3, h4⟩ := h; exact h4
theorem Ns.ups (h : Ns N X w p L top) : Ups L top := by obtain ⟨U, hr, _⟩ := h; exact hr.ups
/-- More is kept: what has come since. -/
theorem Ns.more (h : Ns N X w p L top) (hb : Below w.heap.size w w') (hY : ∀ g, Y g → X g ∨ w.heap.size ≤ g ∧ g < w'.heap.size) : Ns N Y w' p L top := by
  obtain ⟨U, hr, h1, h2, h3, h4⟩ := h
  refine ⟨U, hr.below hb, h1, fun g hg hy => ?_, fun g hg => ?_, Nat.le_trans h4 hb.size⟩
  · rcases hY g hy with h5 | h5
    · exact h2 g hg h5
    · have := hr.lt g hg; omega
  · rcases hY g hg with h5 | h5
    · exact Nat.lt_of_lt_of_le (h3 g h5) hb.size
    · exact h5.2
theorem Ns.of (U : Nat → Prop) {L' : List Nd} {top' : Int} (hw : But U w w') (h1 : ∀ g, U g → N ≤ g) (h2 : ∀ g, U g → ¬ X g) (h3 : ∀ g, X g → g < w.heap.size) (h4 : N ≤ w.heap.size) (h : Nest 56 w' p (Grow U w w') L' top') :
    Below N w w' ∧ But (Off X) w w' ∧ Ns N X w' p L' top' :=
  ⟨hw.below h4 h1, hw.mono fun g _ hg => h2 g hg, _, h, fun g hg => by rcases hg with hg | hg; exact h1 g hg; omega, fun g hg hX => by
    rcases hg with hg | hg
    · exact h2 g hg hX
    · have := h3 g hX; omega, fun g hg => Nat.lt_of_lt_of_le (h3 g hg) hw.size, Nat.le_trans h4 hw.size⟩
theorem ns_new (N : Nat) (hN : N ≤ w.heap.size) : Calls Try.prog 7 #[] w fun e w' => ∃ p, e = .returned (.pointer (some ⟨p, 0, none⟩)) ∧ Below w.heap.size w w' ∧ Ns N (fun _ => False) w' p [] (-1) := by
  refine (nnew_any w).mono ?_
  rintro e w' ⟨p, rfl, hb, hr⟩
  exact ⟨p, rfl, hb, _, hr, fun g hg => by omega, fun _ _ h => h, fun _ h => h.elim, Nat.le_trans hN hb.size⟩
theorem ns_leaf (h : Ns N X w p L top) (kind fr tt : Int) (hn : (L.length : Int) ≤ 1000) :
    Calls Try.prog 9 #[.pointer (some ⟨p, 0, none⟩), .int .i64 kind, .int .i64 fr, .int .i64 tt] w fun e w' => e = .returned (.tuple #[]) ∧ Below N w w' ∧ But (Off X) w w' ∧ Ns N X w' p (L ++ [⟨kind, ⟨#[]⟩, fr, tt, top⟩]) top := by
  obtain ⟨U, hr, h1, h2, h3, h4⟩ := h
  refine (nleaf_any w p U L top kind fr tt hn hr).mono ?_
  rintro e w' ⟨rfl, hb, hr'⟩
  exact ⟨rfl, Ns.of U hb h1 h2 h3 h4 hr'⟩
theorem ns_open (h : Ns N X w p L top) (kind : Int) (nm : ByteArray) (fr : Int) (hn : (L.length : Int) ≤ 1000) :
    Calls Try.prog 11 #[.pointer (some ⟨p, 0, none⟩), .int .i64 kind, .string nm, .int .i64 fr] w fun e w' => e = .returned (.tuple #[]) ∧ Below N w w' ∧ But (Off X) w w' ∧ Ns N X w' p (L ++ [⟨kind, nm, fr, fr, top⟩]) (L.length : Int) := by
  obtain ⟨U, hr, h1, h2, h3, h4⟩ := h
  refine (nopen_any w p U L top kind nm fr hn hr).mono ?_
  rintro e w' ⟨rfl, hb, hr'⟩
  exact ⟨rfl, Ns.of U hb h1 h2 h3 h4 hr'⟩
theorem Nest.grow0 {ty : TypeId} {U : Nat → Prop} (h : Nest ty w' p U L top) (hU : ∀ g, U g → g < w'.heap.size) : Nest ty w' p (Grow U w w') L top := by
  obtain ⟨v, T, h⟩ := h
  exact ⟨v, T, h.own, h.win, h.np, fun g hg => .inl (h.terr g hg), fun g hg => by rcases hg with hg | hg; exact hU g hg; exact hg.2, h.ups⟩
theorem ns_close_no (h : Ns N X w p L top) (tq : Int) (ht : top < 0) :
    Calls Try.prog 13 #[.pointer (some ⟨p, 0, none⟩), .int .i64 tq] w fun e w' => e = .returned (.bool false) ∧ w' = w := by
  obtain ⟨U, hr, h1, h2, h3, h4⟩ := h
  exact nclose_no w p U L top tq ht hr
theorem ns_close {t : Nat} (h : Ns N X w p L (t : Int)) (tq : Int) (x : Nd) (hn : (L.length : Int) ≤ 1000) (hx : L[t]? = some x) :
    Calls Try.prog 13 #[.pointer (some ⟨p, 0, none⟩), .int .i64 tq] w fun e w' => e = .returned (.bool true) ∧ Below N w w' ∧ But (Off X) w w' ∧ Ns N X w' p (L.set t ⟨x.kd, x.nm, x.fr, tq, x.up⟩) x.up := by
  obtain ⟨U, hr, h1, h2, h3, h4⟩ := h
  refine (nclose_any w p U L t tq x hn hx hr).mono ?_
  rintro e w' ⟨rfl, hb, hr'⟩
  exact ⟨rfl, Ns.of U hb h1 h2 h3 h4 (hr'.grow0 hr'.lt)⟩
theorem ns_mark (h : Ns N X w p L top) : Calls Try.prog 15 #[.pointer (some ⟨p, 0, none⟩)] w fun e w' => e = .returned (.agg #[.int .i64 (L.length : Int), .int .i64 top]) ∧ Below w.heap.size w w' := by
  obtain ⟨U, hr, h1, h2, h3, h4⟩ := h
  exact nmark_any w p U L top hr
theorem ns_tree (h : Ns N X w p L top) (hn : (L.length : Int) ≤ 1000) : Calls Try.prog 24 #[.pointer (some ⟨p, 0, none⟩)] w
    fun e w' => ∃ ao cap, e = .returned (.slice ao L.length cap) ∧ HasS (fun b => w.heap.size ≤ b) w' ao L ∧ Below w.heap.size w w' := by
  obtain ⟨U, hr, h1, h2, h3, h4⟩ := h
  refine (ntree_any w p U L top hn hr).mono ?_
  rintro e w' ⟨v, rfl, hw, hb⟩
  obtain ⟨ao, cap, rfl, _, hs⟩ := hw.nodes
  exact ⟨ao, cap, rfl, hs, hb⟩
theorem ns_back (h : Ns N X w p L top) (l : Nat) (t : Int) (hn : (L.length : Int) ≤ 1000) (h2 : (l : Int) ≤ (L.length : Int)) (h3 : -1 ≤ t) (h4 : t < (l : Int)) :
    Calls Try.prog 16 #[.pointer (some ⟨p, 0, none⟩), .agg #[.int .i64 (l : Int), .int .i64 t]] w fun e w' => e = .returned (.tuple #[]) ∧ Below N w w' ∧ But (Off X) w w' ∧ Ns N X w' p (L.take l) t := by
  obtain ⟨U, hr, g1, g2, g3, g4⟩ := h
  refine (nback_yes w p U L top t l hn h2 h3 h4 hr).mono ?_
  rintro e w' ⟨rfl, hb, hr'⟩
  exact ⟨rfl, Ns.of U hb g1 g2 g3 g4 (hr'.grow0 hr'.lt)⟩
theorem ns_part (h : Ns N X w p L top) (l : Nat) (t : Int) (hn : (L.length : Int) ≤ 1000) (h2 : (l : Int) ≤ (L.length : Int)) (h3 : -1 ≤ t) (h4 : t < (l : Int)) :
    Calls Try.prog 18 #[.pointer (some ⟨p, 0, none⟩), .agg #[.int .i64 (l : Int), .int .i64 t]] w
      fun e w' => ∃ ao cap, e = .returned (.slice ao (partL L l).length cap) ∧ HasS (fun b => w.heap.size ≤ b) w' ao (partL L l) ∧ Below w.heap.size w w' := by
  obtain ⟨U, hr, g1, g2, g3, g4⟩ := h
  refine (npart_yes w p U L top t l hn h2 h3 h4 hr).mono ?_
  rintro e w' ⟨v, rfl, hw, hb⟩
  obtain ⟨ao, cap, rfl, _, hs⟩ := hw.nodes
  exact ⟨ao, cap, rfl, hs, hb⟩
theorem ns_add (h : Ns N X w p L top) (P : List Nd) (ao : Option Addr) (cap : Nat) (R : Nat → Prop) (hn : (L.length : Int) ≤ 1000) (hm : (P.length : Int) ≤ 1000) (hP : HasS R w ao P) (hR : ∀ g, g < w.heap.size → R g → X g) :
    Calls Try.prog 21 #[.pointer (some ⟨p, 0, none⟩), .slice ao P.length cap] w fun e w' => e = .returned (.tuple #[]) ∧ Below N w w' ∧ But (Off X) w w' ∧ Ns N X w' p (addL L top P) top := by
  obtain ⟨U, hr, g1, g2, g3, g4⟩ := h
  refine (nadd_any w p U R L P top ao cap hn hm (fun g hg hr hu => g2 g hu (hR g hg hr)) hP hr).mono ?_
  rintro e w' ⟨rfl, hb, hr'⟩
  exact ⟨rfl, Ns.of U hb g1 g2 g3 g4 hr'⟩
end
theorem Own.off_but {X : Nat → Prop} {w w' : World} {g : Nat} {t : TypeId} {cs : List Value} (h : Own w g t cs) (hb : But (Off X) w w') (hX : X g) : Own w' g t cs := h.but hb (fun hn => hn hX)
theorem HasS.off_but {R X : Nat → Prop} {w w' : World} {ao : Option Addr} {L : List Nd} (h : HasS R w ao L) (hb : But (Off X) w w') (hX : ∀ g, g < w.heap.size → R g → X g) : HasS R w' ao L := h.keep hb (fun g hg hr hn => hn (hX g hg hr))
end Go.Proofs.Ytgpglmponbipbac
