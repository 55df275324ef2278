/- The walk of Tree, the reference's nest. -/
import Derived.Test.YtgpglmponbipbacNestNo
namespace Go.Proofs.Ytgpglmponbipbac
set_option linter.unusedVariables false
open Go.RowKit Go.Sort

set_option maxHeartbeats 1600000 in
theorem rtree_any (w : World) (p : Nat) (U : Nat → Prop) (L : List Nd) (top : Int) (hn : (L.length : Int) ≤ 1000) (h : Nest 58 w p U L top) :
    Calls Try.prog 25 #[.pointer (some ⟨p, 0, none⟩)] w
      fun e w' => ∃ v, e = .returned v ∧ Win (fun b => w.heap.size ≤ b) 53 5 w' v L.length (rowL L) ∧ Below w.heap.size w w' := by
  have hp : p < w.heap.size := by obtain ⟨v, T, h⟩ := h; exact h.own.lt
  obtain ⟨v, T, h⟩ := h
  have HO := Lib.hid (h.own.on_alloc (.cells #[] 53))
  obtain ⟨c0, c1, f0, f1⟩ := h.own.two
  obtain ⟨ao, cap, rfl, hcap, hnone, -⟩ := h.win.form
  obtain ⟨ao', cap', e', -, hs⟩ := h.win.nodes
  simp only [Value.slice.injEq] at e'
  obtain ⟨rfl, -, rfl⟩ := e'
  have HL := Lib.hid hs
  obtain ⟨i0, hi, hz0, hz1, hz2⟩ := info_parts info_leaf
  obtain ⟨n, hnn⟩ : ∃ n, L.length = n := ⟨_, rfl⟩
  have HN := Lib.hid hnn
  have hrl := rowL_len L
  rw [hnn] at hn hrl c0 hcap hnone HO ⊢
  clear hnn hs h
  cases ao with
  | none =>
    obtain ⟨rfl, rfl⟩ := hnone rfl
    have h0 : L = [] := List.eq_nil_of_length_eq_zero HN.out
    subst h0
    clear hrl
    go_enter Try.func25, Try.ntmps25
    go_wp2
    go_ret
    exact ⟨_, rfl, Win.of_owns (World.ownsRow_made (base := w.heap.size) (size := 5) w #[] 0 (Nat.le_refl _) (by unfold maxLen; omega) rfl) (fun g hg _ => hg), (Below.refl _ _).alloc (Nat.le_refl _) _⟩
  | some a =>
    have HR := Lib.hid hrl
    clear hrl hnone
    have hcl := HL.out.cells
    have HC := Lib.hid (fun (w' : World) (hb : Below w.heap.size w w') => (HL.out.below hb).cells)
    clear hcl
    have IL := Lib.hid (And.intro hi (And.intro hz0 (And.intro hz1 hz2)))
    clear hi hz0 hz1 hz2
    have HE := Lib.hid (show Win (fun b => w.heap.size ≤ b) 53 5 (w.alloc (.cells #[] 53)) (.slice (some ⟨w.heap.size, 0, none⟩) 0 0) 0 [] from Win.of_owns (World.ownsRow_made (base := w.heap.size) (size := 5) w #[] 0 (Nat.le_refl _) (by unfold maxLen; omega) rfl) (fun g hg _ => hg))
    obtain ⟨o0, -, -, -⟩ := HO.out.two
    go_enter Try.func25, Try.ntmps25
    go_wp2_with (first
      | (at_builtin; refine wpList_append_win _ rfl _ _ 23 rfl (fun b => w.heap.size ≤ b) 53 i0 _ 5 48 Try.underlying23 IL.out.1 IL.out.2.1 IL.out.2.2.1 IL.out.2.2.2 rfl (by decide) _ 0 [] rfl HE.out a n cap (rowL L) rfl HR.out (HC.out _ ?c1) (rowL_cells L) ?c2 ?c3 ?_))
    case c1 => exact (Below.refl _ _).alloc (Nat.le_refl _) _
    case c2 => unfold maxLen; omega
    case c3 => omega
    intro v' w1 hw hb
    have HW := Lib.hid hw
    have HB := Lib.hid hb
    clear hw hb
    go_wp2
    go_ret
    refine ⟨_, rfl, ?_, ?_⟩
    · have h := HW.out
      exact h.mono fun g _ hg => by rcases hg with hg | hg <;> omega
    · exact (((But.refl _ _).alloc _).trans HB.out fun _ _ h => h).below (Nat.le_refl _) fun _ h => h
end Go.Proofs.Ytgpglmponbipbac
