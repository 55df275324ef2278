/- The walks of the reference's At and Lines of layer 4. -/
import Derived.Test.YtgpglmponbipbaaRef04
namespace Go.Proofs.Ytgpglmponbipbaa
set_option linter.unusedVariables false
open Go.RowKit Go.Sort Go.PlainAid

theorem within_self {s : ByteArray} {j : Nat} (h : j ≤ s.size) : within s (j : Int) = j := by unfold within; split <;> (try split) <;> omega
theorem rof_at (s : ByteArray) (j : Nat) (hj : j ≤ s.size) (hs : (s.size : Int) ≤ 1000) (w : World) : Calls Try.prog 10 #[.string s, .int .i64 (j : Int)] w fun e w' => e = .returned (.agg #[.int .i64 (ln s j : Int), .int .i64 (cl s j : Int)]) ∧ Below w.heap.size w w' := by
  have := rof_any s (j : Int) hs w
  rwa [within_self hj] at this

@[go_sem] theorem fld0 (a b : Int) (w : World) : (Instr.field 23 (.agg #[.int .i64 a, .int .i64 b]) 0).run Try.prog w = .ok (.int .i64 a) w := by kernel_rfl
@[go_sem] theorem fld1 (a b : Int) (w : World) : (Instr.field 23 (.agg #[.int .i64 a, .int .i64 b]) 1).run Try.prog w = .ok (.int .i64 b) w := by kernel_rfl

set_option maxHeartbeats 400000 in
theorem rlines_any (s : ByteArray) (hs : (s.size : Int) ≤ 1000) (w : World) : Calls Try.prog 12 #[.string s] w fun e w' => e = .returned (.int .i64 (ln s s.size : Int)) ∧ Below w.heap.size w w' := by
  have C := Lib.hid (rof_at s s.size (Nat.le_refl _) hs)
  go_enter Try.func12, Try.ntmps12
  go_wp2_with fail
  refine (C.out _).mono ?_
  rintro e w1 ⟨rfl, hb1⟩
  go_wp2
  go_ret
  exact ⟨rfl, hb1⟩

theorem found {s : ByteArray} {L C : Int} {j : Nat} (hj : j ≤ s.size) (h : ((ln s j : Int) == L && (cl s j : Int) == C) = true) : atV s L C = .tuple #[.int .i64 (j : Int), .bool true] := by
  rw [Bool.and_eq_true, beq_iff_eq, beq_iff_eq] at h
  exact atV_some (atF_some hj h.1 h.2)
theorem missed {s : ByteArray} {L C : Int} (h : ∀ i, i ≤ s.size → ((ln s i : Int) == L && (cl s i : Int) == C) = false) : atV s L C = .tuple #[.int .i64 0, .bool false] := by
  refine atV_none (atF_none fun i hi h1 h2 => ?_)
  have := h i hi
  rw [h1, h2] at this
  simp at this

set_option maxHeartbeats 1600000 in
theorem rat_any (s : ByteArray) (L C : Int) (hs : (s.size : Int) ≤ 1000) (w : World) :
    Calls Try.prog 8 #[.string s, .agg #[.int .i64 L, .int .i64 C]] w fun e w' => e = .returned (atV s L C) ∧ Below w.heap.size w w' := by
  have K := Lib.hid (fun j hj => rof_at s j hj hs)
  obtain ⟨V, hV0⟩ : ∃ V, atV s L C = V := ⟨_, rfl⟩
  have M1 := Lib.hid (fun j (hj : j ≤ s.size) h => @found s L C j hj h)
  have M2 := Lib.hid (@missed s L C)
  rw [hV0] at M1 M2 ⊢
  clear hV0
  go_enter Try.func8, Try.ntmps8
  go_wp2_with fail
  go_loopw [4, 5, 6] (fun b4 b5 b wr => ∃ j : Nat, b4 = .int .i64 0 ∧ b5 = .bool false ∧ b = .int .i64 (j : Int) ∧ (j : Int) ≤ s.size + 1 ∧ Hid (∀ i, i < j → ((ln s i : Int) == L && (cl s i : Int) == C) = false) ∧ Own wr w.heap.size 23 [.int .i64 L, .int .i64 C] ∧ Below w.heap.size w wr)
    (fun _ _ b _ => s.size + 1 - (intOf b).toNat)
  case atStart =>
    refine ⟨0, rfl, rfl, rfl, by omega, Lib.hid (fun i hi => absurd hi (Nat.not_lt_zero _)), Own.fresh w _ _, by go_grown⟩
  case round =>
    obtain ⟨j, rfl, rfl, rfl, hj, hno, hx, hb⟩ := hrel
    by_cases h1 : (j : Int) ≤ s.size
    · have J := Lib.hid (K.out j (by omega))
      have k0 := cell_regrown (hx.cell 0)
      have k1 := cell_regrown (hx.cell 1)
      clear K
      obtain ⟨a, ha⟩ : ∃ a, (ln s j : Int) = a := ⟨_, rfl⟩
      obtain ⟨b, hbb⟩ : ∃ b, (cl s j : Int) = b := ⟨_, rfl⟩
      rw [ha, hbb] at J
      by_cases e1 : a = L
      · by_cases e2 : b = C
        · have N := Lib.hid (M1.out j (by omega) (by rw [ha, hbb, e1, e2]; simp))
          clear M1 M2 hno ha hbb
          subst e1 e2
          go_wp2_with fail
          refine wp_region_quiet_below (by kernel_rfl) (by kernel_rfl) ?_
          repeat (go_big_quiet_step (first
            | (go_at_call 10; with_reducible exact Calls.regrown_of (J.out _))))
          refine wpQuiet_nil ?_
          intro _ hw'
          obtain ⟨⟨dq, osq⟩, hw''⟩ := hw'
          subst hw''
          go_wp2
          go_ret2
          exact ⟨ret_val N.out, keepb hb (below_regrown wr dq osq)⟩
        · have hv : a = L → ¬ b = C := fun _ => e2
          have N : Hid (∀ i, i < j + 1 → ((ln s i : Int) == L && (cl s i : Int) == C) = false) := Lib.hid (fun i hi => by
            rcases Nat.lt_or_ge i j with h | h
            · exact hno.out i h
            · rw [show i = j by omega, ha, hbb]; simpa using hv)
          clear M1 M2 hno ha hbb hv
          subst e1
          go_wp2_with fail
          refine wp_region_quiet_below (by kernel_rfl) (by kernel_rfl) ?_
          repeat (go_big_quiet_step (first
            | (go_at_call 10; with_reducible exact Calls.regrown_of (J.out _))))
          refine wpQuiet_nil ?_
          intro _ hw'
          obtain ⟨⟨dq, osq⟩, hw''⟩ := hw'
          subst hw''
          go_wp2
          go_roundw
          case rel => exact ⟨j + 1, rfl, rfl, by go_num, by omega, N, hx.under (below_regrown wr dq osq) hx.lt, keepb hb (below_regrown wr dq osq)⟩
          case measure => simp [intOf]; omega
      · have hv : a = L → ¬ b = C := fun h => absurd h e1
        have N : Hid (∀ i, i < j + 1 → ((ln s i : Int) == L && (cl s i : Int) == C) = false) := Lib.hid (fun i hi => by
          rcases Nat.lt_or_ge i j with h | h
          · exact hno.out i h
          · rw [show i = j by omega, ha, hbb]; simpa using hv)
        clear M1 M2 hno ha hbb hv
        go_wp2_with fail
        refine wp_region_quiet_below (by kernel_rfl) (by kernel_rfl) ?_
        repeat (go_big_quiet_step (first
          | (go_at_call 10; with_reducible exact Calls.regrown_of (J.out _))))
        refine wpQuiet_nil ?_
        intro _ hw'
        obtain ⟨⟨dq, osq⟩, hw''⟩ := hw'
        subst hw''
        go_wp2
        go_roundw
        case rel => exact ⟨j + 1, rfl, rfl, by go_num, by omega, N, hx.under (below_regrown wr dq osq) hx.lt, keepb hb (below_regrown wr dq osq)⟩
        case measure => simp [intOf]; omega
    · have N := Lib.hid (M2.out fun i hi => hno.out i (by omega))
      clear M1 M2 hno K
      go_wp2
      go_ret2
      exact ⟨ret_val N.out, hb⟩
end Go.Proofs.Ytgpglmponbipbaa
