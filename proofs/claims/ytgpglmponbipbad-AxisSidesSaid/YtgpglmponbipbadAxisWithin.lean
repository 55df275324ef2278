/- The walks of the reference's within. -/
import Derived.Test.YtgpglmponbipbadAxisFrom
import Derived.Test.YtgpglmponbipbadAxisWin
import Derived.Test.YtgpglmponbipbadAxisRight
import Derived.BigQuiet
namespace Go.Proofs.Ytgpglmponbipbad
set_option linter.unusedVariables false
open Go.RowKit Go.Sort

set_option maxHeartbeats 1600000 in
theorem within_any (l : Nodes) (ao : Option Addr) (cap : Nat) (k0 : Nat) (i : Int) (B : Nat) (hn : (l.n : Int) ≤ 1000) (hk : k0 < l.n) (hr : rightB l l.n = true) (w : World) (hl : Has w ao B l) :
    Calls Try.prog 22 #[.slice ao l.n cap, .int .i64 (k0 : Int), .int .i64 i] w fun e w' => e = .returned (.bool (inB l i k0)) ∧ w = w' := by
  have HL := Lib.hid hl
  have A1 := Lib.hid (fun j (hj : j < l.n) => @in_yes l i l.n j hr hj)
  have A2 := Lib.hid (fun j (hj : j < l.n) => @in_next l i l.n j hr hj)
  have A3 := Lib.hid (fun j (hj : j < l.n) => @in_top l i l.n j hr hj)
  have A4 := Lib.hid (fun j (hj : j < l.n) => right_ok hr j hj)
  obtain ⟨W, hW⟩ : ∃ W, inB l i k0 = W := ⟨_, rfl⟩
  rw [hW]
  have hW' := Lib.hid hW
  obtain ⟨n, hnn⟩ : ∃ n, l.n = n := ⟨_, rfl⟩
  rw [hnn] at hn hk A1 A2 A3 A4 ⊢
  clear hl hW hr
  go_enter Try.func22, Try.ntmps22
  go_wp2_with fail
  go_loopw [1, 6] (fun b1 b6 wr => ∃ x : Int, b1 = .int .i64 x ∧ b6 = .bool false ∧ -1 ≤ x ∧ x < n ∧ Hid ((0 ≤ x → W = inB l i x.toNat) ∧ (x < 0 → W = false)) ∧ wr = w)
    (fun b1 _ _ => (intOf b1 + 1).toNat)
  case atStart => exact ⟨k0, rfl, rfl, by omega, by omega, Lib.hid ⟨fun _ => hW'.out.symm, fun h => by omega⟩, rfl⟩
  case round =>
    obtain ⟨x, rfl, rfl, hx1, hx2, hX, rfl⟩ := hrel
    by_cases h1 : 0 ≤ x
    · obtain ⟨k, rfl⟩ : ∃ k : Nat, x = (k : Int) := ⟨x.toNat, by omega⟩
      obtain ⟨b, off, rfl, hbB, -, -, -, -, c4⟩ := HL.out k (by omega)
      clear HL
      have hkn : k < n := by omega
      have B0 : W = inB l i k := hX.out.1 h1
      have B1 := A1.out k hkn
      have B2 := A2.out k hkn
      have B3 := A3.out k hkn
      have B4 := A4.out k hkn
      rw [← B0] at B1 B2 B3
      clear A1 A2 A3 A4 B0 hX
      obtain ⟨y, hy⟩ : ∃ y, l.up k = y := ⟨_, rfl⟩
      rw [hy] at B1 B2 B3 B4 c4
      clear hy
      by_cases h2 : y = i
      · have G := Lib.hid (B1 h2)
        clear B1 B2 B3
        go_wp2
        go_ret
        exact ⟨ret_bool G.out.symm, rfl⟩
      · have G : Hid ((0 ≤ y → W = inB l i y.toNat) ∧ (y < 0 → W = false)) := Lib.hid ⟨fun h => B2 h2 h, fun h => B3 h2 (by omega)⟩
        clear B1 B2 B3
        go_wp2
        go_roundw
        case rel => exact ⟨y, rfl, rfl, by omega, by omega, G, trivial⟩
        case measure => simp [intOf]; omega
    · have G := Lib.hid (hX.out.2 (by omega))
      clear A1 A2 A3 A4 HL hX
      go_wp2
      go_ret
      exact ⟨ret_bool G.out.symm, rfl⟩

end Go.Proofs.Ytgpglmponbipbad
