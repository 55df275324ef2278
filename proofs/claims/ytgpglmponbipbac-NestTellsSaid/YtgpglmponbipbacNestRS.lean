/- The reference's nest as a law uses it: its blocks from N on, off what is kept (X). -/
import Derived.Test.YtgpglmponbipbacNestS
import Derived.Test.YtgpglmponbipbacNestRK
import Derived.Test.YtgpglmponbipbacNestRA
namespace Go.Proofs.Ytgpglmponbipbac
set_option linter.unusedVariables false
open Go.RowKit Go.Sort

def Rs (N : Nat) (X : Nat → Prop) (w : World) (p : Nat) (L : List Nd) (top : Int) : Prop :=
  ∃ U, Nest 58 w p U L top ∧ (∀ g, U g → N ≤ g) ∧ (∀ g, U g → ¬ X g) ∧ (∀ g, X g → g < w.heap.size) ∧ N ≤ w.heap.size
section
variable {N p : Nat} {X Y : Nat → Prop} {w w' : World} {L : List Nd} {top : Int}
theorem Rs.below (h : Rs N X w p L top) (hb : Below w.heap.size w w') : Rs N X w' p L top := by
  obtain ⟨U, hr, h1, h2, h3, h4⟩ := h
  exact ⟨U, hr.below hb, h1, h2, fun g hg => Nat.lt_of_lt_of_le (h3 g hg) hb.size, Nat.le_trans h4 hb.size⟩
theorem Rs.sz (h : Rs N X w p L top) : N ≤ w.heap.size := by obtain ⟨U, hr, h1, h2, h3, h4⟩ := h; exact h4
theorem Rs.ups (h : Rs N X w p L top) : Ups L top := by obtain ⟨U, hr, _⟩ := h; exact hr.ups
/-- More is kept: what has come since. -/
theorem Rs.more (h : Rs N X w p L top) (hb : Below w.heap.size w w') (hY : ∀ g, Y g → X g ∨ w.heap.size ≤ g ∧ g < w'.heap.size) : Rs N Y w' p L top := by
  obtain ⟨U, hr, h1, h2, h3, h4⟩ := h
  refine ⟨U, hr.below hb, h1, fun g hg hy => ?_, fun g hg => ?_, Nat.le_trans h4 hb.size⟩
  · rcases hY g hy with h5 | h5
    · exact h2 g hg h5
    · have := hr.lt g hg; omega
  · rcases hY g hg with h5 | h5
    · exact Nat.lt_of_lt_of_le (h3 g h5) hb.size
    · exact h5.2
theorem Rs.of (U : Nat → Prop) {L' : List Nd} {top' : Int} (hw : But U w w') (h1 : ∀ g, U g → N ≤ g) (h2 : ∀ g, U g → ¬ X g) (h3 : ∀ g, X g → g < w.heap.size) (h4 : N ≤ w.heap.size) (h : Nest 58 w' p (Grow U w w') L' top') :
    Below N w w' ∧ But (Off X) w w' ∧ Rs N X w' p L' top' :=
  ⟨hw.below h4 h1, hw.mono fun g _ hg => h2 g hg, _, h, fun g hg => by rcases hg with hg | hg; exact h1 g hg; omega, fun g hg hX => by
    rcases hg with hg | hg
    · exact h2 g hg hX
    · have := h3 g hX; omega, fun g hg => Nat.lt_of_lt_of_le (h3 g hg) hw.size, Nat.le_trans h4 hw.size⟩
theorem rs_new (N : Nat) (hN : N ≤ w.heap.size) : Calls Try.prog 8 #[] w fun e w' => ∃ p, e = .returned (.pointer (some ⟨p, 0, none⟩)) ∧ Below w.heap.size w w' ∧ Rs N (fun _ => False) w' p [] (-1) := by
  refine (rnew_any w).mono ?_
  rintro e w' ⟨p, rfl, hb, hr⟩
  exact ⟨p, rfl, hb, _, hr, fun g hg => by omega, fun _ _ h => h, fun _ h => h.elim, Nat.le_trans hN hb.size⟩
theorem rs_leaf (h : Rs N X w p L top) (kind fr tt : Int) (hn : (L.length : Int) ≤ 1000) :
    Calls Try.prog 10 #[.pointer (some ⟨p, 0, none⟩), .int .i64 kind, .int .i64 fr, .int .i64 tt] w fun e w' => e = .returned (.tuple #[]) ∧ Below N w w' ∧ But (Off X) w w' ∧ Rs N X w' p (L ++ [⟨kind, ⟨#[]⟩, fr, tt, top⟩]) top := by
  obtain ⟨U, hr, h1, h2, h3, h4⟩ := h
  refine (rleaf_any w p U L top kind fr tt hn hr).mono ?_
  rintro e w' ⟨rfl, hb, hr'⟩
  exact ⟨rfl, Rs.of U hb h1 h2 h3 h4 hr'⟩
theorem rs_open (h : Rs N X w p L top) (kind : Int) (nm : ByteArray) (fr : Int) (hn : (L.length : Int) ≤ 1000) :
    Calls Try.prog 12 #[.pointer (some ⟨p, 0, none⟩), .int .i64 kind, .string nm, .int .i64 fr] w fun e w' => e = .returned (.tuple #[]) ∧ Below N w w' ∧ But (Off X) w w' ∧ Rs N X w' p (L ++ [⟨kind, nm, fr, fr, top⟩]) (L.length : Int) := by
  obtain ⟨U, hr, h1, h2, h3, h4⟩ := h
  refine (ropen_any w p U L top kind nm fr hn hr).mono ?_
  rintro e w' ⟨rfl, hb, hr'⟩
  exact ⟨rfl, Rs.of U hb h1 h2 h3 h4 hr'⟩
theorem rs_close_no (h : Rs N X w p L top) (tq : Int) (ht : top < 0) :
    Calls Try.prog 14 #[.pointer (some ⟨p, 0, none⟩), .int .i64 tq] w fun e w' => e = .returned (.bool false) ∧ w' = w := by
  obtain ⟨U, hr, h1, h2, h3, h4⟩ := h
  exact rclose_no w p U L top tq ht hr
theorem rs_close {t : Nat} (h : Rs N X w p L (t : Int)) (tq : Int) (x : Nd) (hn : (L.length : Int) ≤ 1000) (hx : L[t]? = some x) :
    Calls Try.prog 14 #[.pointer (some ⟨p, 0, none⟩), .int .i64 tq] w fun e w' => e = .returned (.bool true) ∧ Below N w w' ∧ But (Off X) w w' ∧ Rs N X w' p (L.set t ⟨x.kd, x.nm, x.fr, tq, x.up⟩) x.up := by
  obtain ⟨U, hr, h1, h2, h3, h4⟩ := h
  refine (rclose_any w p U L t tq x hn hx hr).mono ?_
  rintro e w' ⟨rfl, hb, hr'⟩
  exact ⟨rfl, Rs.of U hb h1 h2 h3 h4 (hr'.grow0 hr'.lt)⟩
theorem rs_mark (h : Rs N X w p L top) : Calls Try.prog 23 #[.pointer (some ⟨p, 0, none⟩)] w fun e w' => e = .returned (.agg #[.int .i64 (L.length : Int), .int .i64 top]) ∧ Below w.heap.size w w' := by
  obtain ⟨U, hr, h1, h2, h3, h4⟩ := h
  exact rmark_any w p U L top hr
theorem rs_tree (h : Rs N X w p L top) (hn : (L.length : Int) ≤ 1000) : Calls Try.prog 25 #[.pointer (some ⟨p, 0, none⟩)] w
    fun e w' => ∃ ao cap, e = .returned (.slice ao L.length cap) ∧ HasS (fun b => w.heap.size ≤ b) w' ao L ∧ Below w.heap.size w w' := by
  obtain ⟨U, hr, h1, h2, h3, h4⟩ := h
  refine (rtree_any w p U L top hn hr).mono ?_
  rintro e w' ⟨v, rfl, hw, hb⟩
  obtain ⟨ao, cap, rfl, _, hs⟩ := hw.nodes
  exact ⟨ao, cap, rfl, hs, hb⟩
theorem rs_back (h : Rs N X w p L top) (l : Nat) (t : Int) (hn : (L.length : Int) ≤ 1000) (h2 : (l : Int) ≤ (L.length : Int)) (h3 : -1 ≤ t) (h4 : t < (l : Int)) :
    Calls Try.prog 17 #[.pointer (some ⟨p, 0, none⟩), .agg #[.int .i64 (l : Int), .int .i64 t]] w fun e w' => e = .returned (.tuple #[]) ∧ Below N w w' ∧ But (Off X) w w' ∧ Rs N X w' p (L.take l) t := by
  obtain ⟨U, hr, g1, g2, g3, g4⟩ := h
  refine (rback_yes w p U L top t l hn h2 h3 h4 hr).mono ?_
  rintro e w' ⟨rfl, hb, hr'⟩
  exact ⟨rfl, Rs.of U hb g1 g2 g3 g4 hr'⟩
theorem rs_part (h : Rs N X w p L top) (l : Nat) (t : Int) (hn : (L.length : Int) ≤ 1000) (h2 : (l : Int) ≤ (L.length : Int)) (h3 : -1 ≤ t) (h4 : t < (l : Int)) :
    Calls Try.prog 20 #[.pointer (some ⟨p, 0, none⟩), .agg #[.int .i64 (l : Int), .int .i64 t]] w
      fun e w' => ∃ ao cap, e = .returned (.slice ao (partL L l).length cap) ∧ HasS (fun b => w.heap.size ≤ b) w' ao (partL L l) ∧ Below w.heap.size w w' := by
  obtain ⟨U, hr, g1, g2, g3, g4⟩ := h
  refine (rpart_yes w p U L top t l hn h2 h3 h4 hr).mono ?_
  rintro e w' ⟨v, rfl, hw, hb⟩
  obtain ⟨ao, cap, rfl, _, hs⟩ := hw.nodes
  exact ⟨ao, cap, rfl, hs, hb⟩
theorem rs_add (h : Rs N X w p L top) (P : List Nd) (ao : Option Addr) (cap : Nat) (R : Nat → Prop) (hn : (L.length : Int) ≤ 1000) (hm : (P.length : Int) ≤ 1000) (hP : HasS R w ao P) (hR : ∀ g, g < w.heap.size → R g → X g) :
    Calls Try.prog 22 #[.pointer (some ⟨p, 0, none⟩), .slice ao P.length cap] w fun e w' => e = .returned (.tuple #[]) ∧ Below N w w' ∧ But (Off X) w w' ∧ Rs N X w' p (addL L top P) top := by
  obtain ⟨U, hr, g1, g2, g3, g4⟩ := h
  refine (radd_any w p U R L P top ao cap hn hm (fun g hg hr hu => g2 g hu (hR g hg hr)) hP hr).mono ?_
  rintro e w' ⟨rfl, hb, hr'⟩
  exact ⟨rfl, Rs.of U hb g1 g2 g3 g4 hr'⟩
end
theorem ns_no_back {N p : Nat} {X : Nat → Prop} {w : World} {L : List Nd} {top : Int} (h : Ns N X w p L top) (l t : Int) (hno : ¬ (0 ≤ l ∧ l ≤ (L.length : Int) ∧ -1 ≤ t ∧ t < l)) :
    Calls Try.prog 16 #[.pointer (some ⟨p, 0, none⟩), .agg #[.int .i64 l, .int .i64 t]] w fun e w' => e = .returned (.tuple #[]) ∧ Below w.heap.size w w' := by
  obtain ⟨U, hr, h1, h2, h3, h4⟩ := h
  exact nback_no w p U L top l t hno hr
theorem ns_no_part {N p : Nat} {X : Nat → Prop} {w : World} {L : List Nd} {top : Int} (h : Ns N X w p L top) (l t : Int) (hno : ¬ (0 ≤ l ∧ l ≤ (L.length : Int) ∧ -1 ≤ t ∧ t < l)) :
    Calls Try.prog 18 #[.pointer (some ⟨p, 0, none⟩), .agg #[.int .i64 l, .int .i64 t]] w fun e w' => e = .returned (.slice none 0 0) ∧ Below w.heap.size w w' := by
  obtain ⟨U, hr, h1, h2, h3, h4⟩ := h
  exact npart_no w p U L top l t hno hr
theorem rs_no_back {N p : Nat} {X : Nat → Prop} {w : World} {L : List Nd} {top : Int} (h : Rs N X w p L top) (l t : Int) (hno : ¬ (0 ≤ l ∧ l ≤ (L.length : Int) ∧ -1 ≤ t ∧ t < l)) :
    Calls Try.prog 17 #[.pointer (some ⟨p, 0, none⟩), .agg #[.int .i64 l, .int .i64 t]] w fun e w' => e = .returned (.tuple #[]) ∧ Below w.heap.size w w' := by
  obtain ⟨U, hr, h1, h2, h3, h4⟩ := h
  exact rback_no w p U L top l t hno hr
theorem rs_no_part {N p : Nat} {X : Nat → Prop} {w : World} {L : List Nd} {top : Int} (h : Rs N X w p L top) (l t : Int) (hno : ¬ (0 ≤ l ∧ l ≤ (L.length : Int) ∧ -1 ≤ t ∧ t < l)) :
    Calls Try.prog 20 #[.pointer (some ⟨p, 0, none⟩), .agg #[.int .i64 l, .int .i64 t]] w fun e w' => e = .returned (.slice none 0 0) ∧ Below w.heap.size w w' := by
  obtain ⟨U, hr, h1, h2, h3, h4⟩ := h
  exact rpart_no w p U L top l t hno hr
end Go.Proofs.Ytgpglmponbipbac
