/- The walks of the reference's functions of layer 4. -/
import Derived.Test.YtgpglmponbipbaaSpotAt
namespace Go.Proofs.Ytgpglmponbipbaa
set_option linter.unusedVariables false
open Go.RowKit Go.Sort Go.PlainAid

/-- Two cells, written one behind the other. -/
def set2 (w : World) (g : Nat) (u0 u1 : Value) : World := (w.setCell ⟨g, 0, none⟩ u0).setCell ⟨g, 1, none⟩ u1
theorem set2_fold (w : World) (g : Nat) (u0 u1 : Value) : (w.setCell ⟨g, 0, none⟩ u0).setCell ⟨g, 1, none⟩ u1 = set2 w g u0 u1 := rfl
section
variable {w : World} {g : Nat} {t : TypeId}
theorem Own.put2 {v0 v1 u0 u1 : Value} (h : Own w g t [v0, v1]) : Own (set2 w g u0 u1) g t [u0, u1] := (h.put 0 u0).put 1 u1
theorem Own.off2 {cs : List Value} (h : Own w g t cs) {k : Nat} (hk : g ≠ k) (u0 u1 : Value) : Own (set2 w k u0 u1) g t cs := (h.off (p := ⟨k, 0, none⟩) hk u0).off (p := ⟨k, 1, none⟩) hk u1
end
theorem below_put2 {B g : Nat} {a w : World} (h : Below B a w) (hg : B ≤ g) (u0 u1 : Value) : Below B a (set2 w g u0 u1) :=
  (h.setCell (p := ⟨g, 0, none⟩) hg u0).setCell (p := ⟨g, 1, none⟩) hg u1

theorem ln_step (s : ByteArray) (j : Nat) : ln s (j + 1) = if bt s j = 10 then ln s j + 1 else ln s j := rfl
theorem within_lt (s : ByteArray) (i : Int) (j : Nat) (h1 : (j : Int) < i) (h2 : (j : Int) < s.size) : j + 1 ≤ within s i := by unfold within; split <;> (try split) <;> omega
theorem within_end (s : ByteArray) (i : Int) (j : Nat) (h : j ≤ within s i) (h1 : ¬ ((j : Int) < i ∧ (j : Int) < s.size)) : j = within s i := by
  unfold within at h ⊢; split at h <;> (try split at h) <;> (try split) <;> (try split) <;> omega

set_option maxHeartbeats 1600000 in
theorem rof_any (s : ByteArray) (i : Int) (hs : (s.size : Int) ≤ 1000) (w : World) : Calls Try.prog 10 #[.string s, .int .i64 i] w fun e w' => e = .returned (.agg #[.int .i64 (ln s (within s i) : Int), .int .i64 (cl s (within s i) : Int)]) ∧ Below w.heap.size w w' := by
  have F1 := Lib.hid (within_lt s i)
  have F2 := Lib.hid (within_end s i)
  have G := Lib.hid (get_bt s)
  obtain ⟨k, hk⟩ : ∃ k, within s i = k := ⟨_, rfl⟩
  have hks := within_le s i
  rw [hk] at hks ⊢ F1 F2
  clear hk
  go_enter Try.func10, Try.ntmps10
  go_wp2_with fail
  go_loopw [6] (fun b wr => ∃ j : Nat, b = .int .i64 (j : Int) ∧ j ≤ k ∧ (ln s j : Int) ≤ 1001 ∧ (cl s j : Int) ≤ 1001 ∧ Own wr w.heap.size 23 [.int .i64 0, .int .i64 0] ∧ Own wr (w.heap.size + 1) 23 [.int .i64 (ln s j : Int), .int .i64 (cl s j : Int)] ∧ Below w.heap.size w wr)
    (fun b _ => k - (intOf b).toNat)
  case atStart =>
    refine ⟨0, rfl, by omega, by show ((1 : Nat) : Int) ≤ 1001; omega, by show ((1 : Nat) : Int) ≤ 1001; omega, (Own.fresh w _ _).on_alloc _, Own.fresh' (by simp) _ _, by go_grown⟩
  case round =>
    obtain ⟨j, rfl, hj, l1, l2, ho, hx, hb⟩ := hrel
    obtain ⟨o0, o1, o2, o3⟩ := ho.two
    obtain ⟨x0, x1, x2, x3⟩ := hx.two
    by_cases h1 : (j : Int) < i
    · by_cases h2 : (j : Int) < s.size
      · have hj2 := F1.out _ h1 h2
        have q1 : ln s (j + 1) = if bt s j = 10 then ln s j + 1 else ln s j := rfl
        have q2 : cl s (j + 1) = if bt s j = 10 then 1 else cl s j + 1 := rfl
        have y1 := ln_le s (j + 1)
        have y2 := cl_le s (j + 1)
        have g := G.out j (by omega)
        by_cases h3 : bt s j = 10
        · rw [if_pos h3] at q1 q2
          go_wp2
          go_roundw
          case rel => exact ⟨j + 1, by go_num, hj2, by omega, by omega, ((ho.off (by simp) _).off (by simp) _).off (by simp) _, by rw [q1, q2]; exact ((hx.put 1 _).put 0 _).put 1 _, ((hb.setCell (by simp) _).setCell (by simp) _).setCell (by simp) _⟩
          case measure => simp [intOf]; omega
        · rw [if_neg h3] at q1 q2
          go_wp2
          go_roundw
          case rel => exact ⟨j + 1, by go_num, hj2, by omega, by omega, ho.off (by simp) _, by rw [q1, q2]; exact hx.put 1 _, hb.setCell (by simp) _⟩
          case measure => simp [intOf]; omega
      · have hjk : j = k := F2.out _ hj (by omega)
        subst hjk
        clear F1 F2 G
        go_wp2
        rw [set2_fold]
        have hF := ho.put2 (u0 := .int .i64 (ln s j : Int)) (u1 := .int .i64 (cl s j : Int))
        have hB := below_put2 hb (Nat.le_refl _) (.int .i64 (ln s j : Int)) (.int .i64 (cl s j : Int))
        obtain ⟨z0, z1, -, -⟩ := hF.two
        refine bodyPost_ret (by simp [results, Try.results10, go_sem, z0, z1]; rfl) rfl ?_
        exact ⟨rfl, hB⟩
    · have hjk : j = k := F2.out _ hj (by omega)
      subst hjk
      clear F1 F2 G
      go_wp2
      rw [set2_fold]
      have hF := ho.put2 (u0 := .int .i64 (ln s j : Int)) (u1 := .int .i64 (cl s j : Int))
      have hB := below_put2 hb (Nat.le_refl _) (.int .i64 (ln s j : Int)) (.int .i64 (cl s j : Int))
      obtain ⟨z0, z1, -, -⟩ := hF.two
      refine bodyPost_ret (by simp [results, Try.results10, go_sem, z0, z1]; rfl) rfl ?_
      exact ⟨rfl, hB⟩
end Go.Proofs.Ytgpglmponbipbaa
