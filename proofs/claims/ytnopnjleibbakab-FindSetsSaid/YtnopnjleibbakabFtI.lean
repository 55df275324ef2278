/- Two rows of numbers that are the same: the walk of Ints, over any rows. -/
import Derived.Test.YtnopnjleibbakabFtG
import Derived.OrdersHeld
namespace Go.Proofs.Ytnopnjleibbakab
set_option linter.unusedVariables false
open Go.RowKit Go.Sort

set_option maxHeartbeats 1600000 in
theorem intsat_any (v u : Value) (L : List Int) (B C : Nat) (hn : (L.length : Int) ≤ 1000) (w : World) (hv : IntsAt w B v L) (hu : IntsAt w C u L) :
    Calls Try.prog 8 #[v, u] w fun e w' => e = .returned (.bool true) ∧ Below w.heap.size w w' := by
  obtain ⟨ao, ca, rfl, hca, hA⟩ := hv
  obtain ⟨bo, cb, rfl, hcb, hC⟩ := hu
  have HA := Lib.hid hA
  have HC := Lib.hid hC
  clear hA hC
  obtain ⟨n, hnn⟩ : ∃ n, L.length = n := ⟨_, rfl⟩
  rw [hnn] at hn HA HC hca hcb ⊢
  clear hnn
  go_enter Try.func8, Try.ntmps8
  go_wp2_with fail
  go_loopw [4, 5] (fun b4 b5 wr => ∃ k m : Nat, b4 = .bool false ∧ b5 = .int .i64 (k : Int) ∧ (k : Int) ≤ n ∧ wr = w.drewN m)
    (fun _ b5 _ => n - (intOf b5).toNat)
  case atStart => exact ⟨0, 0, rfl, rfl, by omega, rfl⟩
  case round =>
    obtain ⟨k, m, rfl, rfl, hk2, rfl⟩ := hrel
    have hw1 : IntKind.i64.wrap ((k : Int) + 1) = (k : Int) + 1 := by rw [IntKind.wrap_i64]; omega
    by_cases h1 : (k : Int) < n
    · obtain ⟨g, off, rfl, hg1, _, c1⟩ := HA.out k (by omega)
      obtain ⟨g', off', rfl, hg2, _, c2⟩ := HC.out k (by omega)
      clear HA HC
      go_wp2_with fail
      go_quiet (fail)
      go_wp2
      go_roundw
      case rel => exact ⟨k + 1, m + nq, rfl, by go_num, by omega, rfl⟩
      case measure => simp [intOf]; omega
    · clear HA HC
      go_wp2
      go_ret
      exact ⟨rfl, below_drewN (Below.refl _ _) m⟩
section
variable {P : Program} {ops : Array Oper} {Q : Exit → Act → World → Prop} {md : Region.Mode} {S : World → Prop}
theorem hall_one {i : Nat} {fuel : Nat} {l : Array Bool} {a : Act} {w : World} (hr : Region.ready md ops l = [i]) (h : wpOp P ops Q i (fun a' w' => S w' ∧ wpAnyH P md ops Q S fuel (l.setIfInBounds i true) a' w') a w) : wpAnyH P md ops Q S (fuel + 1) l a w :=
  wpAnyH_all hr (by simp) fun x hx => by obtain rfl := List.mem_singleton.1 hx; exact h
end
end Go.Proofs.Ytnopnjleibbakab
