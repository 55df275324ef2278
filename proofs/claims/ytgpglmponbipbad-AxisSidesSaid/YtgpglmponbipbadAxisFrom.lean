/- The walk of axis.from. -/
import Derived.Test.YtgpglmponbipbadLeaf
import Derived.Test.YtgpglmponbipbadQuiet
import Derived.BigQuiet
namespace Go.Proofs.Ytgpglmponbipbad
set_option linter.unusedVariables false
open Go.RowKit Go.Sort

set_option maxHeartbeats 1600000 in
theorem from_any (l : Nodes) (ao : Option Addr) (cap lo : Nat) (i : Int) (B : Nat) (hn : (l.n : Int) ≤ 1000) (hlo : lo ≤ l.n) (w : World) (hB : B ≤ w.heap.size) (hl : Has w ao B l) :
    Calls Try.prog 21 #[.slice ao l.n cap, .int .i64 (lo : Int), .int .i64 i] w
      fun e w' => ∃ v, e = .returned v ∧ Owns w' w.heap.size v (sel (fun k => decide (lo ≤ k) && decide (l.up k = i)) l.n) ∧ Below w.heap.size w w' := by
  obtain ⟨i0, hi, hz0, hz1, hz2⟩ := info_parts info_int
  have HL := Lib.hid hl
  obtain ⟨P, hP⟩ : ∃ P : Nat → Bool, (fun k => decide (lo ≤ k) && decide (l.up k = i)) = P := ⟨_, rfl⟩
  rw [hP]
  have PY := Lib.hid (fun k (h1 : lo ≤ k) (h2 : l.up k = i) => show P k = true by rw [← hP]; simp [h1, h2])
  have PN := Lib.hid (fun k (h2 : ¬ l.up k = i) => show P k = false by rw [← hP]; simp [h2])
  have PZ := Lib.hid (fun k (h2 : k < lo) => show P k = false by rw [← hP]; simp; omega)
  obtain ⟨n, hnn⟩ : ∃ n, l.n = n := ⟨_, rfl⟩
  rw [hnn] at hn hlo ⊢
  clear hP hl
  go_enter Try.func21, Try.ntmps21
  go_wp2_with fail
  go_loopw [7, 8] (fun v b8 wr => ∃ k : Nat, b8 = .int .i64 (k : Int) ∧ lo ≤ k ∧ (k : Int) ≤ n ∧ Hid (Owns wr w.heap.size v (sel P k)) ∧ Below w.heap.size w wr)
    (fun _ b8 _ => n - (intOf b8).toNat)
  case atStart =>
    refine ⟨lo, rfl, Nat.le_refl _, by omega, Lib.hid ?_, Below.refl _ _⟩
    rw [sel_none PZ.out]
    exact Owns.none _ _
  case round =>
    obtain ⟨k, rfl, hk1, hk2, ho, hb⟩ := hrel
    have hsl := sel_len P k
    by_cases h1 : (k : Int) < n
    · obtain ⟨b, off, rfl, hbB, -, -, -, -, c4⟩ := (HL.out.keep hb hB) k (by omega)
      clear HL
      by_cases h2 : l.up k = i
      · have hS := Lib.hid (sel_yes (PY.out k hk1 h2))
        have ho' := ho.out
        unfold Owns at ho'
        have hbs := hb.size
        clear PY PN PZ
        go_wp2_with (first
          | (at_builtin; refine wpList_append_own _ rfl _ _ 26 rfl w.heap.size 3 i0 (.int .i64 0) 1 8 Try.underlying26 hi hz0 hz1 hz2 rfl (by decide) _ _ _ rfl (ho'.alloc _) ⟨wr.heap.size, 0, none⟩ 1 1 [.int .i64 (k : Int)] rfl rfl ?c1 ?c2 ?c3 ?c4 ?c5 ?_))
        case c1 =>
          intro j u hj
          match j, hj with
          | 0, hj => simp at hj; subst hj; simp [Addr.add]
        case c2 => intro u hu; simp at hu; subst hu; rfl
        case c3 => unfold maxLen; omega
        case c4 => omega
        case c5 => simp; omega
        intro v' w1 hown' hgrow _
        have hO := Lib.hid (Owns.step hown')
        rw [← hS.out] at hO
        have hB1 := below_grow hb ho' hgrow
        clear hown' ho' ho hgrow hb hS
        go_wp2
        go_roundw
        case rel => exact ⟨k + 1, by go_num, by omega, by omega, hO, hB1⟩
        case measure => simp [intOf]; omega
      · have hS := Lib.hid (sel_no (PN.out k h2))
        have ho2 : Hid (Owns wr w.heap.size _ (sel P (k + 1))) := Lib.hid (by rw [hS.out]; exact ho.out)
        clear PY PN PZ ho hS
        go_wp2
        go_roundw
        case rel => exact ⟨k + 1, by go_num, by omega, by omega, ho2, hb⟩
        case measure => simp [intOf]; omega
    · have hkn : k = n := by omega
      rw [hkn] at ho
      clear PY PN PZ HL hkn hsl
      go_wp2
      go_ret
      exact ⟨_, rfl, ho.out, hb⟩
end Go.Proofs.Ytgpglmponbipbad
