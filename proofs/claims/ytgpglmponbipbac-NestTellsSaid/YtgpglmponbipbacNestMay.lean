/- The walks of may, both nests: no. -/
import Derived.Test.YtgpglmponbipbacNestNE
import Derived.Test.YtgpglmponbipbacNestRE
namespace Go.Proofs.Ytgpglmponbipbac
set_option linter.unusedVariables false
open Go.RowKit Go.Sort

set_option maxHeartbeats 3200000 in
theorem nmay_no (w : World) (p : Nat) (U : Nat → Prop) (L : List Nd) (top l t : Int) (hno : ¬ (0 ≤ l ∧ l ≤ (L.length : Int) ∧ -1 ≤ t ∧ t < l)) (h : Nest 56 w p U L top) :
    Calls Try.prog 27 #[.pointer (some ⟨p, 0, none⟩), .agg #[.int .i64 l, .int .i64 t]] w fun e w' => e = .returned (.bool false) ∧ Below w.heap.size w w' := by
  obtain ⟨v, T, h⟩ := h
  have hp := h.own.lt
  obtain ⟨ao, cap, rfl, hcap, _, _⟩ := h.win.form
  have HO := Lib.hid (h.own.on_alloc (.cells #[.int .i64 l, .int .i64 t] 33))
  have HR := Lib.hid (Own.fresh w 33 [.int .i64 l, .int .i64 t])
  clear h
  obtain ⟨k, hk⟩ : ∃ k, L.length = k := ⟨_, rfl⟩
  rw [hk] at HO hno
  clear hk hcap
  have HB : Below w.heap.size w (w.alloc (.cells #[.int .i64 l, .int .i64 t] 33)) := (Below.refl _ _).alloc (Nat.le_refl _) _
  go_enter Try.func27, Try.ntmps27
  go_wp2_with fail
  change Hid (Own (w.alloc (.cells #[.int .i64 l, .int .i64 t] 33)) w.heap.size 33 [.int .i64 l, .int .i64 t]) at HR
  generalize w.alloc (.cells #[.int .i64 l, .int .i64 t] 33) = W at *
  obtain ⟨c0, c1, f0, f1⟩ := HO.out.two
  obtain ⟨r0, r1, z0, z1⟩ := HR.out.two
  have hways : decide (0 ≤ l) = false ∨ (0 ≤ l ∧ decide (l ≤ (k : Int)) = false) ∨ (0 ≤ l ∧ l ≤ (k : Int) ∧ decide (-1 ≤ t) = false) ∨ (0 ≤ l ∧ l ≤ (k : Int) ∧ -1 ≤ t ∧ decide (t < l) = false) := by
    simp only [decide_eq_false_iff_not]; omega
  clear hno
  rcases hways with d1 | ⟨h1, d2⟩ | ⟨h1, h2, d3⟩ | ⟨h1, h2, h3, d4⟩
  all_goals
    go_quiet (fail)
    go_wp2
    go_ret
    exact ⟨rfl, below_drewN HB _⟩

set_option maxHeartbeats 3200000 in
theorem rmay_no (w : World) (p : Nat) (U : Nat → Prop) (L : List Nd) (top l t : Int) (hno : ¬ (0 ≤ l ∧ l ≤ (L.length : Int) ∧ -1 ≤ t ∧ t < l)) (h : Nest 58 w p U L top) :
    Calls Try.prog 28 #[.pointer (some ⟨p, 0, none⟩), .agg #[.int .i64 l, .int .i64 t]] w fun e w' => e = .returned (.bool false) ∧ Below w.heap.size w w' := by
  obtain ⟨v, T, h⟩ := h
  have hp := h.own.lt
  obtain ⟨ao, cap, rfl, hcap, _, _⟩ := h.win.form
  have HO := Lib.hid (h.own.on_alloc (.cells #[.int .i64 l, .int .i64 t] 34))
  have HR := Lib.hid (Own.fresh w 34 [.int .i64 l, .int .i64 t])
  clear h
  obtain ⟨k, hk⟩ : ∃ k, L.length = k := ⟨_, rfl⟩
  rw [hk] at HO hno
  clear hk hcap
  have HB : Below w.heap.size w (w.alloc (.cells #[.int .i64 l, .int .i64 t] 34)) := (Below.refl _ _).alloc (Nat.le_refl _) _
  go_enter Try.func28, Try.ntmps28
  go_wp2_with fail
  change Hid (Own (w.alloc (.cells #[.int .i64 l, .int .i64 t] 34)) w.heap.size 34 [.int .i64 l, .int .i64 t]) at HR
  generalize w.alloc (.cells #[.int .i64 l, .int .i64 t] 34) = W at *
  obtain ⟨c0, c1, f0, f1⟩ := HO.out.two
  obtain ⟨r0, r1, z0, z1⟩ := HR.out.two
  have hways : decide (0 ≤ l) = false ∨ (0 ≤ l ∧ decide (l ≤ (k : Int)) = false) ∨ (0 ≤ l ∧ l ≤ (k : Int) ∧ decide (-1 ≤ t) = false) ∨ (0 ≤ l ∧ l ≤ (k : Int) ∧ -1 ≤ t ∧ decide (t < l) = false) := by
    simp only [decide_eq_false_iff_not]; omega
  clear hno
  rcases hways with d1 | ⟨h1, d2⟩ | ⟨h1, h2, d3⟩ | ⟨h1, h2, h3, d4⟩
  all_goals
    go_quiet (fail)
    go_wp2
    go_ret
    exact ⟨rfl, below_drewN HB _⟩

end Go.Proofs.Ytgpglmponbipbac
