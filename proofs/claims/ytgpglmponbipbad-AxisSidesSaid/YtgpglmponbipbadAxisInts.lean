/- The walks of Ints. -/
import Derived.Test.YtgpglmponbipbadAxisFrom
import Derived.Test.YtgpglmponbipbadAxisSpec
import Derived.BigQuiet
namespace Go.Proofs.Ytgpglmponbipbad
set_option linter.unusedVariables false
open Go.RowKit Go.Sort

set_option maxHeartbeats 1600000 in
theorem ints_any (v u : Value) (L : List Int) (B C : Nat) (hn : (L.length : Int) ≤ 1000) (w : World) (hv : Owns w B v L) (hu : Owns w C u L) :
    Calls Try.prog 8 #[v, u] w fun e w' => e = .returned (.bool true) ∧ Below w.heap.size w w' := by
  obtain ⟨ao, ca, rfl, hA⟩ := hv.form
  obtain ⟨bo, cb, rfl, hC⟩ := hu.form
  have HA := Lib.hid hA
  have HC := Lib.hid hC
  clear hA hC hv hu
  obtain ⟨n, hnn⟩ : ∃ n, L.length = n := ⟨_, rfl⟩
  rw [hnn] at hn HA HC ⊢
  clear hnn
  go_enter Try.func8, Try.ntmps8
  go_wp2_with fail
  go_loopw [4, 5] (fun b4 b5 wr => ∃ k m : Nat, b4 = .bool false ∧ b5 = .int .i64 (k : Int) ∧ (k : Int) ≤ n ∧ wr = w.drewN m)
    (fun _ b5 _ => n - (intOf b5).toNat)
  case atStart => exact ⟨0, 0, rfl, rfl, by omega, rfl⟩
  case round =>
    obtain ⟨k, m, rfl, rfl, hk2, rfl⟩ := hrel
    by_cases h1 : (k : Int) < n
    · obtain ⟨g, rfl, _, _, c1⟩ := HA.out k (by omega)
      obtain ⟨g', rfl, _, _, c2⟩ := HC.out k (by omega)
      clear HA HC
      go_wp2_with fail
      go_quiet (fail)
      go_wp2
      go_roundw
      case rel => exact ⟨k + 1, m + nq, rfl, by go_num, by omega, rfl⟩
      case measure => simp [intOf]; omega
    · clear HA HC
      go_wp2
      go_ret
      exact ⟨rfl, below_drewN (Below.refl _ _) m⟩

end Go.Proofs.Ytgpglmponbipbad
