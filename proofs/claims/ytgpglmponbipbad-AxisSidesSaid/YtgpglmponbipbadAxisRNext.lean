/- The walks of the reference's Next and Below. -/
import Derived.Test.YtgpglmponbipbadAxisWithin
import Derived.BigQuiet
namespace Go.Proofs.Ytgpglmponbipbad
set_option linter.unusedVariables false
open Go.RowKit Go.Sort

set_option maxHeartbeats 1600000 in
theorem rnext_any (l : Nodes) (ao : Option Addr) (cap : Nat) (i : Int) (B : Nat) (hn : (l.n : Int) ≤ 1000) (w : World) (hB : B ≤ w.heap.size) (hl : Has w ao B l) :
    Calls Try.prog 16 #[.slice ao l.n cap, .int .i64 i] w
      fun e w' => ∃ v, e = .returned v ∧ Owns w' w.heap.size v (nextL l i) ∧ Below w.heap.size w w' := by
  rcases place_of l.n i with h1 | ⟨h1, h2⟩ | ⟨j, rfl, hj⟩
  · have H := Lib.hid (next_out (l := l) (.inl h1))
    go_enter Try.func16, Try.ntmps16
    go_wp2_with fail
    go_ret
    exact ⟨_, rfl, by rw [H.out]; exact Owns.none _ _, Below.refl _ _⟩
  · have H := Lib.hid (next_out (l := l) (.inr h2))
    go_enter Try.func16, Try.ntmps16
    go_wp2_with fail
    go_ret
    exact ⟨_, rfl, by rw [H.out]; exact Owns.none _ _, Below.refl _ _⟩
  rw [next_in hj]
  obtain ⟨i0, hi, hz0, hz1, hz2⟩ := info_parts info_int
  have HL := Lib.hid hl
  obtain ⟨P, hP⟩ : ∃ P : Nat → Bool, (fun k => decide (j + 1 ≤ k) && decide (l.up k = l.up j)) = P := ⟨_, rfl⟩
  rw [hP]
  have PY := Lib.hid (fun k (h1 : j + 1 ≤ k) (h2 : l.up k = l.up j) => show P k = true by rw [← hP]; simp [h1, h2])
  have PN := Lib.hid (fun k (h2 : ¬ l.up k = l.up j) => show P k = false by rw [← hP]; simp [h2])
  have PZ := Lib.hid (fun k (h2 : k < j + 1) => show P k = false by rw [← hP]; simp; omega)
  obtain ⟨n, hnn⟩ : ∃ n, l.n = n := ⟨_, rfl⟩
  rw [hnn] at hn hj ⊢
  have hj' : (j : Int) < n := by omega
  have hd1 : decide (n ≤ j) = false := by simp; omega
  have hd2 : ¬ (n ≤ j) := by omega
  have hd3 : decide ((j : Int) < 0) = false := by simp
  clear hP hl
  go_enter Try.func16, Try.ntmps16
  go_wp2_with fail
  go_loopw [5, 6] (fun v b8 wr => ∃ k : Nat, b8 = .int .i64 (k : Int) ∧ j + 1 ≤ k ∧ (k : Int) ≤ n ∧ Hid (Owns wr w.heap.size v (sel P k)) ∧ Below w.heap.size w wr)
    (fun _ b8 _ => n - (intOf b8).toNat)
  case atStart =>
    refine ⟨j + 1, by go_num, Nat.le_refl _, by omega, Lib.hid ?_, Below.refl _ _⟩
    rw [sel_none PZ.out]
    exact Owns.none _ _
  case round =>
    obtain ⟨k, rfl, hk1, hk2, ho, hb⟩ := hrel
    have hsl := sel_len P k
    by_cases h1 : (k : Int) < n
    · obtain ⟨b, off, rfl, hbB, -, -, -, -, c4⟩ := (HL.out.keep hb hB) k (by omega)
      obtain ⟨b', off', e', hbB', -, -, -, -, d4⟩ := (HL.out.keep hb hB) j (by omega)
      simp only [Option.some.injEq, Addr.mk.injEq, and_true] at e'
      obtain ⟨rfl, rfl⟩ := e'
      clear HL
      have hY := Lib.hid (PY.out k hk1)
      have hN := Lib.hid (PN.out k)
      clear PY PN PZ
      generalize l.up k = x at *
      generalize l.up j = y at *
      by_cases h2 : x = y
      · have hS := Lib.hid (sel_yes (hY.out h2))
        have hbs := hb.size
        clear hY hN
        subst h2
        go_wp2_with fail
        go_quiet (fail)
        have ho' := ho.out
        unfold Owns at ho'
        have hoq : (wr.drewN nq).ownsRow w.heap.size 3 1 _ _ _ := ho'
        have hbq : Below w.heap.size w (wr.drewN nq) := below_drewN hb nq
        go_wp2_with (first
          | (at_builtin; refine wpList_append_own _ rfl _ _ 26 rfl w.heap.size 3 i0 (.int .i64 0) 1 8 Try.underlying26 hi hz0 hz1 hz2 rfl (by decide) _ _ _ rfl (hoq.alloc _) ⟨(wr.drewN nq).heap.size, 0, none⟩ 1 1 [.int .i64 (k : Int)] rfl rfl ?c1 ?c2 ?c3 ?c4 ?c5 ?_))
        case c1 =>
          intro j u hj
          match j, hj with
          | 0, hj => simp at hj; subst hj; exact (Own.fresh (wr.drewN nq) 3 [.int .i64 (k : Int)]).cell 0
        case c2 => intro u hu; simp at hu; subst hu; rfl
        case c3 => unfold maxLen; omega
        case c4 => omega
        case c5 => simp; omega
        intro v' w1 hown' hgrow _
        have hO := Lib.hid (Owns.step hown')
        rw [← hS.out] at hO
        have hB1 := below_grow hbq hoq hgrow
        clear hown' ho' hoq ho hgrow hb hbq hS
        go_wp2
        go_roundw
        case rel => exact ⟨k + 1, by go_num, by omega, by omega, hO, hB1⟩
        case measure => simp [intOf]; omega
      · have hS := Lib.hid (sel_no (hN.out h2))
        have ho2 : Hid (Owns wr w.heap.size _ (sel P (k + 1))) := Lib.hid (by rw [hS.out]; exact ho.out)
        clear hY hN ho hS
        have e4 : (x == y) = false := by simpa using h2
        go_wp2_with fail
        go_quiet (fail)
        go_wp2
        go_roundw
        case rel => exact ⟨k + 1, by go_num, by omega, by omega, ho2, below_drewN hb nq⟩
        case measure => simp [intOf]; omega
    · have hkn : k = n := by omega
      rw [hkn] at ho
      clear PY PN PZ HL hkn hsl
      go_wp2
      go_ret
      exact ⟨_, rfl, ho.out, hb⟩

end Go.Proofs.Ytgpglmponbipbad
