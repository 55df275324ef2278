/- The walks of Next and Up. -/
import Derived.Test.YtnopnjleibbakabGf
namespace Go.Proofs.Ytnopnjleibbakab
set_option linter.unusedVariables false
open Go.RowKit Go.Sort

set_option maxHeartbeats 400000 in
theorem next_any (l : Nodes) (ao : Option Addr) (cap : Nat) (i : Int) (B : Nat) (hn : (l.n : Int) ≤ 1000) (w : World) (hB : B ≤ w.heap.size) (hl : Has w ao B l) :
    Calls Try.prog 34 #[.slice ao l.n cap, .int .i64 i] w
      fun e w' => ∃ v, e = .returned v ∧ Owns w' w.heap.size v (nextL l i) ∧ Below w.heap.size w w' := by
  rcases place_of l.n i with h1 | ⟨h1, h2⟩ | ⟨j, rfl, hj⟩
  · have H := Lib.hid (next_out (l := l) (.inl h1))
    go_enter Try.func34, Try.ntmps34
    go_wp2_with fail
    go_ret
    exact ⟨_, rfl, by rw [H.out]; exact Owns.none _ _, Below.refl _ _⟩
  · have H := Lib.hid (next_out (l := l) (.inr h2))
    go_enter Try.func34, Try.ntmps34
    go_wp2_with fail
    go_ret
    exact ⟨_, rfl, by rw [H.out]; exact Owns.none _ _, Below.refl _ _⟩
  · have H := Lib.hid (next_in hj)
    have F := from_any l ao cap (j + 1) (l.up j) B hn (by omega) w hB hl
    rw [← H.out, show ((j + 1 : Nat) : Int) = (j : Int) + 1 by omega] at F
    have F' := Lib.hid F
    obtain ⟨b, off, rfl, hbB, -, -, -, -, c4⟩ := hl j hj
    have hj' : (j : Int) < l.n := by omega
    clear F H hl
    go_enter Try.func34, Try.ntmps34
    go_wp2_with fail
    refine F'.out.mono ?_
    rintro e w1 ⟨v, rfl, ho, hb⟩
    go_wp2
    go_ret
    exact ⟨_, rfl, ho, hb⟩

set_option maxHeartbeats 800000 in
theorem up_any (l : Nodes) (ao : Option Addr) (cap : Nat) (i : Int) (B : Nat) (hn : (l.n : Int) ≤ 1000) (w : World) (hB : B ≤ w.heap.size) (hl : Has w ao B l) :
    Calls Try.prog 33 #[.slice ao l.n cap, .int .i64 i] w
      fun e w' => ∃ v, e = .returned v ∧ Owns w' w.heap.size v (upL l i) ∧ Below w.heap.size w w' := by
  rcases place_of l.n i with h1 | ⟨h1, h2⟩ | ⟨j, rfl, hj⟩
  · have H := Lib.hid (up_out (l := l) (.inl h1))
    go_enter Try.func33, Try.ntmps33
    go_wp2_with fail
    go_ret
    exact ⟨_, rfl, by rw [H.out]; exact Owns.none _ _, Below.refl _ _⟩
  · have H := Lib.hid (up_out (l := l) (.inr h2))
    go_enter Try.func33, Try.ntmps33
    go_wp2_with fail
    go_ret
    exact ⟨_, rfl, by rw [H.out]; exact Owns.none _ _, Below.refl _ _⟩
  · obtain ⟨b, off, rfl, hbB, -, -, -, -, c4⟩ := hl j hj
    have hj' : (j : Int) < l.n := by omega
    by_cases h3 : l.up j < 0
    · have H := Lib.hid (up_no h3)
      clear hl
      go_enter Try.func33, Try.ntmps33
      go_wp2_with fail
      go_ret
      exact ⟨_, rfl, by rw [H.out]; exact Owns.none _ _, Below.refl _ _⟩
    · have H := Lib.hid (up_in hj (by omega))
      clear hl
      go_enter Try.func33, Try.ntmps33
      go_wp2_with fail
      go_ret
      exact ⟨_, rfl, by rw [H.out]; exact Owns.one _ _ _ (Nat.le_refl _), by go_grown⟩

set_option maxHeartbeats 800000 in
theorem rup_any (l : Nodes) (ao : Option Addr) (cap : Nat) (i : Int) (B : Nat) (hn : (l.n : Int) ≤ 1000) (w : World) (hB : B ≤ w.heap.size) (hl : Has w ao B l) :
    Calls Try.prog 39 #[.slice ao l.n cap, .int .i64 i] w
      fun e w' => ∃ v, e = .returned v ∧ Owns w' w.heap.size v (upL l i) ∧ Below w.heap.size w w' := by
  rcases place_of l.n i with h1 | ⟨h1, h2⟩ | ⟨j, rfl, hj⟩
  · have H := Lib.hid (up_out (l := l) (.inl h1))
    go_enter Try.func39, Try.ntmps39
    go_wp2_with fail
    go_ret
    exact ⟨_, rfl, by rw [H.out]; exact Owns.none _ _, Below.refl _ _⟩
  · have H := Lib.hid (up_out (l := l) (.inr h2))
    go_enter Try.func39, Try.ntmps39
    go_wp2_with fail
    go_ret
    exact ⟨_, rfl, by rw [H.out]; exact Owns.none _ _, Below.refl _ _⟩
  · obtain ⟨b, off, rfl, hbB, -, -, -, -, c4⟩ := hl j hj
    have hj' : (j : Int) < l.n := by omega
    by_cases h3 : l.up j < 0
    · have H := Lib.hid (up_no h3)
      clear hl
      go_enter Try.func39, Try.ntmps39
      go_wp2_with fail
      go_ret
      exact ⟨_, rfl, by rw [H.out]; exact Owns.none _ _, Below.refl _ _⟩
    · have H := Lib.hid (up_in hj (by omega))
      clear hl
      go_enter Try.func39, Try.ntmps39
      go_wp2_with fail
      go_ret
      exact ⟨_, rfl, by rw [H.out]; exact Owns.one _ _ _ (Nat.le_refl _), by go_grown⟩

end Go.Proofs.Ytnopnjleibbakab
