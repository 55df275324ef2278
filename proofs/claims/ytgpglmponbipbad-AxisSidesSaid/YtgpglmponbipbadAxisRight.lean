/- The walks of Right. -/
import Derived.Test.YtgpglmponbipbadAxisFrom
import Derived.Test.YtgpglmponbipbadAxisSpec
namespace Go.Proofs.Ytgpglmponbipbad
set_option linter.unusedVariables false
open Go.RowKit Go.Sort

set_option maxHeartbeats 1600000 in
theorem right_any (l : Nodes) (ao : Option Addr) (cap : Nat) (B : Nat) (hn : (l.n : Int) ≤ 1000) (w : World) (hB : B ≤ w.heap.size) (hl : Has w ao B l) :
    Calls Try.prog 6 #[.slice ao l.n cap] w fun e w' => e = .returned (.bool (rightB l l.n)) ∧ Below w.heap.size w w' := by
  have HL := Lib.hid hl
  have H1 := Lib.hid (fun (k : Nat) (h : rightB l k = true) h1 h2 => right_step h (@okN_yes l k h1 h2))
  have H2 := Lib.hid (fun (k n : Nat) (h : l.up k < -1) (hk : k < n) => right_bad' (okN_low h) hk)
  have H3 := Lib.hid (fun (k n : Nat) (h : (k : Int) ≤ l.up k) (hk : k < n) => right_bad' (okN_high h) hk)
  obtain ⟨n, hnn⟩ : ∃ n, l.n = n := ⟨_, rfl⟩
  rw [hnn] at hn ⊢
  clear hl
  go_enter Try.func6, Try.ntmps6
  go_wp2_with fail
  go_loopw [2, 7] (fun b2 b8 wr => ∃ k : Nat, b2 = .bool false ∧ b8 = .int .i64 (k : Int) ∧ (k : Int) ≤ n ∧ Hid (rightB l k = true) ∧ Below w.heap.size w wr)
    (fun _ b8 _ => n - (intOf b8).toNat)
  case atStart => exact ⟨0, rfl, rfl, by omega, Lib.hid rfl, Below.refl _ _⟩
  case round =>
    obtain ⟨k, rfl, rfl, hk2, hr, hb⟩ := hrel
    by_cases h1 : (k : Int) < n
    · obtain ⟨b, off, rfl, hbB, c0, c1, c2, c3, c4⟩ := (HL.out.keep hb hB) k (by omega)
      clear HL
      have G1 := Lib.hid (H1.out k hr.out)
      have G2 := Lib.hid (H2.out k n)
      have G3 := Lib.hid (H3.out k n)
      clear H1 H2 H3
      obtain ⟨x, hx⟩ : ∃ x, l.up k = x := ⟨_, rfl⟩
      rw [hx] at G1 G2 G3 c4
      clear hx
      by_cases h2 : x < -1
      · have G := Lib.hid (G2.out h2 (by omega))
        clear G1 G2 G3 hr
        go_wp2
        go_ret
        exact ⟨ret_bool G.out.symm, hb.alloc hb.size _⟩
      · by_cases h3 : (k : Int) ≤ x
        · have G := Lib.hid (G3.out h3 (by omega))
          clear G1 G2 G3 hr
          go_wp2
          go_ret
          exact ⟨ret_bool G.out.symm, hb.alloc hb.size _⟩
        · have G := Lib.hid (G1.out (by omega) (by omega))
          clear G1 G2 G3 hr
          go_wp2
          go_roundw
          case rel => exact ⟨k + 1, rfl, by go_num, by omega, G, hb.alloc hb.size _⟩
          case measure => simp [intOf]; omega
    · have hkn : k = n := by omega
      rw [hkn] at hr
      clear H1 H2 H3 HL hkn
      go_wp2
      go_ret
      exact ⟨ret_bool hr.out.symm, hb⟩

set_option maxHeartbeats 1600000 in
theorem rright_any (l : Nodes) (ao : Option Addr) (cap : Nat) (B : Nat) (hn : (l.n : Int) ≤ 1000) (w : World) (hB : B ≤ w.heap.size) (hl : Has w ao B l) :
    Calls Try.prog 7 #[.slice ao l.n cap] w fun e w' => e = .returned (.bool (rightB l l.n)) ∧ Below w.heap.size w w' := by
  have HL := Lib.hid hl
  have H1 := Lib.hid (fun (k : Nat) (h : rightB l k = true) h1 h2 => right_step h (@okN_yes l k h1 h2))
  have H2 := Lib.hid (fun (k n : Nat) (h : l.up k < -1) (hk : k < n) => right_bad' (okN_low h) hk)
  have H3 := Lib.hid (fun (k n : Nat) (h : (k : Int) ≤ l.up k) (hk : k < n) => right_bad' (okN_high h) hk)
  obtain ⟨n, hnn⟩ : ∃ n, l.n = n := ⟨_, rfl⟩
  rw [hnn] at hn ⊢
  clear hl
  go_enter Try.func7, Try.ntmps7
  go_wp2_with fail
  go_loopw [2, 3] (fun b2 b8 wr => ∃ k : Nat, b2 = .bool false ∧ b8 = .int .i64 (k : Int) ∧ (k : Int) ≤ n ∧ Hid (rightB l k = true) ∧ Below w.heap.size w wr)
    (fun _ b8 _ => n - (intOf b8).toNat)
  case atStart => exact ⟨0, rfl, rfl, by omega, Lib.hid rfl, Below.refl _ _⟩
  case round =>
    obtain ⟨k, rfl, rfl, hk2, hr, hb⟩ := hrel
    by_cases h1 : (k : Int) < n
    · obtain ⟨b, off, rfl, hbB, -, -, -, -, c4⟩ := (HL.out.keep hb hB) k (by omega)
      clear HL
      have G1 := Lib.hid (H1.out k hr.out)
      have G2 := Lib.hid (H2.out k n)
      have G3 := Lib.hid (H3.out k n)
      clear H1 H2 H3
      obtain ⟨x, hx⟩ : ∃ x, l.up k = x := ⟨_, rfl⟩
      rw [hx] at G1 G2 G3 c4
      clear hx
      by_cases h2 : x < -1
      · have G := Lib.hid (G2.out h2 (by omega))
        clear G1 G2 G3 hr
        go_wp2
        go_ret
        exact ⟨ret_bool G.out.symm, hb⟩
      · by_cases h3 : (k : Int) ≤ x
        · have G := Lib.hid (G3.out h3 (by omega))
          clear G1 G2 G3 hr
          go_wp2
          go_ret
          exact ⟨ret_bool G.out.symm, hb⟩
        · have G := Lib.hid (G1.out (by omega) (by omega))
          clear G1 G2 G3 hr
          go_wp2
          go_roundw
          case rel => exact ⟨k + 1, rfl, by go_num, by omega, G, hb⟩
          case measure => simp [intOf]; omega
    · have hkn : k = n := by omega
      rw [hkn] at hr
      clear H1 H2 H3 HL hkn
      go_wp2
      go_ret
      exact ⟨ret_bool hr.out.symm, hb⟩

end Go.Proofs.Ytgpglmponbipbad
