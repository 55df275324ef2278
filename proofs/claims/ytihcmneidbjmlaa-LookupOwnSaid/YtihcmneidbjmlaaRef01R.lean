/- The walk of the document's answer Range. -/
import Derived.Test.YtihcmneidbjmlaaGf
namespace Go.Proofs.Ytihcmneidbjmlaa
set_option linter.unusedVariables false
open Go.RowKit

set_option maxHeartbeats 1000000 in
theorem rrange_any (lo hi : Nat) (hl : lo < 256) (hh : hi < 256) (w : World) :
    Calls Try.prog 63 #[.int .u8 (lo : Int), .int .u8 (hi : Int)] w
      fun e w' => e = .returned (.agg #[.int .u64 (rowW 0 lo (hi + 1) : Int), .int .u64 (rowW 1 lo (hi + 1) : Int), .int .u64 (rowW 2 lo (hi + 1) : Int), .int .u64 (rowW 3 lo (hi + 1) : Int)]) ∧ Below w.heap.size w w' := by
  go_enter Try.func63, Try.ntmps63
  go_wp2
  go_loopw [6] (fun b wr => ∃ m : Nat, lo ≤ m ∧ (m ≤ hi + 1 ∨ m = lo) ∧ b = .int .i64 (m : Int) ∧ Own wr w.heap.size 33 [.int .u64 0, .int .u64 0, .int .u64 0, .int .u64 0] ∧
      Own wr (w.heap.size + 1) 33 [.int .u64 (rowW 0 lo m : Int), .int .u64 (rowW 1 lo m : Int), .int .u64 (rowW 2 lo m : Int), .int .u64 (rowW 3 lo m : Int)] ∧ Below w.heap.size w wr)
    (fun b _ => hi + 1 - (intOf b).toNat)
  case atStart => 
    refine ⟨lo, Nat.le_refl _, .inr rfl, rfl, (Own.fresh w _ _).on_alloc _, ?_, by go_grown⟩
    simp only [rowW_start]
    exact Own.fresh' (by simp) _ _
  case round =>
    obtain ⟨m, hm1, hm2, rfl, ho, hs, hb⟩ := hrel
    obtain ⟨o0, o1, o2, o3, q0, q1, q2, q3⟩ := ho.four
    obtain ⟨s0, s1, s2, s3, r0, r1, r2, r3⟩ := hs.four
    by_cases hlt : m ≤ hi
    · go_wp2_with fail
      refine (rwith_any _ _ _ _ _ (by omega) (rowW_lt ..) (rowW_lt ..) (rowW_lt ..) (rowW_lt ..) _).mono ?_
      rintro e w1 ⟨rfl, hb1⟩
      have ho1 := ho.under hb1 ho.lt
      have hs1 := hs.under hb1 hs.lt
      clear o0 o1 o2 o3 q0 q1 q2 q3 s0 s1 s2 s3 r0 r1 r2 r3
      obtain ⟨s0, s1, s2, s3, r0, r1, r2, r3⟩ := hs1.four
      go_wp2
      go_roundw
      case rel =>
        refine ⟨m + 1, by omega, by omega, by go_num, ho1.off4 (by omega) _ _ _ _, ?_, below_put4 (hb.trans (hb1.mono hb.size)) (by omega) _ _ _ _⟩
        simp only [rowW_step hm1]
        exact hs1.put4
      case measure => simp [intOf]; omega
    · have E (i : Nat) := rowW_end (i := i) hlt hm2
      have H := Lib.hid E
      clear E
      go_wp2
      rw [set4_fold]
      have hF := ho.put4 (u0 := .int .u64 (rowW 0 lo m : Int)) (u1 := .int .u64 (rowW 1 lo m : Int)) (u2 := .int .u64 (rowW 2 lo m : Int)) (u3 := .int .u64 (rowW 3 lo m : Int))
      have hB := below_put4 hb (Nat.le_refl _) (.int .u64 (rowW 0 lo m : Int)) (.int .u64 (rowW 1 lo m : Int)) (.int .u64 (rowW 2 lo m : Int)) (.int .u64 (rowW 3 lo m : Int))
      obtain ⟨z0, z1, z2, z3, -⟩ := hF.four
      refine bodyPost_ret (by simp [results, Try.results63, go_sem, z0, z1, z2, z3]; rfl) rfl ?_
      exact ⟨ret_set (by rw [H.out]) (by rw [H.out]) (by rw [H.out]) (by rw [H.out]), hB⟩
end Go.Proofs.Ytihcmneidbjmlaa
