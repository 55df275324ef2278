/- The walks of axis.Leaves. -/
import Derived.Test.YtgpglmponbipbadAxisFrom
import Derived.Test.YtgpglmponbipbadAxisSpec
namespace Go.Proofs.Ytgpglmponbipbad
set_option linter.unusedVariables false
open Go.RowKit Go.Sort

set_option maxHeartbeats 1600000 in
theorem leaves_any (l : Nodes) (ao : Option Addr) (cap : Nat) (B : Nat) (hn : (l.n : Int) ≤ 1000) (w : World) (hB : B ≤ w.heap.size) (hl : Has w ao B l) :
    Calls Try.prog 19 #[.slice ao l.n cap] w
      fun e w' => ∃ v, e = .returned v ∧ Owns w' w.heap.size v (leavesL l) ∧ Below w.heap.size w w' := by
  unfold leavesL
  obtain ⟨i0, hi, hz0, hz1, hz2⟩ := info_parts info_int
  have HL := Lib.hid hl
  obtain ⟨n, hnn⟩ : ∃ n, l.n = n := ⟨_, rfl⟩
  obtain ⟨P, hP⟩ : ∃ P : Nat → Bool, (fun k => decide (l.kd k = 4) || decide (l.kd k = 5)) = P := ⟨_, rfl⟩
  rw [hP]
  have PY := Lib.hid (fun k (h : l.kd k = 4 ∨ l.kd k = 5) => show P k = true by rw [← hP]; simpa using h)
  have PN := Lib.hid (fun k (h1 : ¬ l.kd k = 4) (h2 : ¬ l.kd k = 5) => show P k = false by rw [← hP]; simp [h1, h2])
  rw [hnn] at hn ⊢
  clear hP hl
  go_enter Try.func19, Try.ntmps19
  go_wp2_with fail
  go_loopw [3, 8] (fun v b8 wr => ∃ k : Nat, b8 = .int .i64 (k : Int) ∧ (k : Int) ≤ n ∧ Hid (Owns wr w.heap.size v (sel P k)) ∧ Below w.heap.size w wr)
    (fun _ b8 _ => n - (intOf b8).toNat)
  case atStart => exact ⟨0, rfl, by omega, Lib.hid (Owns.none _ _), Below.refl _ _⟩
  case round =>
    obtain ⟨k, rfl, hk2, ho, hb⟩ := hrel
    have hsl := sel_len P k
    by_cases h1 : (k : Int) < n
    · obtain ⟨b, off, rfl, hbB, c0, c1, c2, c3, c4⟩ := (HL.out.keep hb hB) k (by omega)
      clear HL
      obtain ⟨x, hx⟩ : ∃ x, l.kd k = x := ⟨_, rfl⟩
      have hY := Lib.hid (PY.out k)
      have hN := Lib.hid (PN.out k)
      rw [hx] at hY hN c0
      clear PY PN hx
      have PY := hn
      have PN := hn
      by_cases h2 : x = 4
      · have hS := Lib.hid (sel_yes (hY.out (.inl h2)))
        have ho' := ho.out
        unfold Owns at ho'
        have hbs := hb.size
        clear hY hN
        go_wp2_with (first
          | (at_builtin; refine wpList_append_own _ rfl _ _ 26 rfl w.heap.size 3 i0 (.int .i64 0) 1 8 Try.underlying26 hi hz0 hz1 hz2 rfl (by decide) _ _ _ rfl ((ho'.alloc _).alloc _) ⟨wr.heap.size + 1, 0, none⟩ 1 1 [.int .i64 (k : Int)] rfl rfl ?c1 ?c2 ?c3 ?c4 ?c5 ?_))
        case c1 =>
          intro j u hj
          match j, hj with
          | 0, hj => simp at hj; subst hj; simp [Addr.add]
        case c2 => intro u hu; simp at hu; subst hu; rfl
        case c3 => unfold maxLen; omega
        case c4 => omega
        case c5 => simp; omega
        intro v' w1 hown' hgrow _
        have hO := Lib.hid (Owns.step hown')
        rw [← hS.out] at hO
        have hB1 := below_grow (hb.alloc hb.size _) (ho'.alloc _) hgrow
        clear hown' ho' ho hgrow hb hS
        go_wp2
        go_roundw
        case rel => exact ⟨k + 1, by go_num, by omega, hO, hB1⟩
        case measure => simp [intOf]; omega
      · by_cases h3 : x = 5
        · have hS := Lib.hid (sel_yes (hY.out (.inr h3)))
          have ho' := ho.out
          unfold Owns at ho'
          have hbs := hb.size
          clear hY hN
          go_wp2_with (first
            | (at_builtin; refine wpList_append_own _ rfl _ _ 26 rfl w.heap.size 3 i0 (.int .i64 0) 1 8 Try.underlying26 hi hz0 hz1 hz2 rfl (by decide) _ _ _ rfl ((ho'.alloc _).alloc _) ⟨wr.heap.size + 1, 0, none⟩ 1 1 [.int .i64 (k : Int)] rfl rfl ?c1 ?c2 ?c3 ?c4 ?c5 ?_))
          case c1 =>
            intro j u hj
            match j, hj with
            | 0, hj => simp at hj; subst hj; simp [Addr.add]
          case c2 => intro u hu; simp at hu; subst hu; rfl
          case c3 => unfold maxLen; omega
          case c4 => omega
          case c5 => simp; omega
          intro v' w1 hown' hgrow _
          have hO := Lib.hid (Owns.step hown')
          rw [← hS.out] at hO
          have hB1 := below_grow (hb.alloc hb.size _) (ho'.alloc _) hgrow
          clear hown' ho' ho hgrow hb hS
          go_wp2
          go_roundw
          case rel => exact ⟨k + 1, by go_num, by omega, hO, hB1⟩
          case measure => simp [intOf]; omega
        · have e4 : (x == 4) = false := by simpa using h2
          have e5 : (x == 5) = false := by simpa using h3
          have hS := Lib.hid (sel_no (hN.out h2 h3))
          have ho2 : Hid (Owns (wr.alloc _) w.heap.size _ (sel P (k + 1))) := Lib.hid (by rw [hS.out]; exact World.ownsRow.alloc ho.out (.cells #[.int .i64 x, .string (l.nm k), .int .i64 (l.fr k), .int .i64 (l.tt k), .int .i64 (l.up k)] 32))
          clear PY PN ho hS
          go_wp2
          go_roundw
          case rel => exact ⟨k + 1, by go_num, by omega, ho2, hb.alloc hb.size _⟩
          case measure => simp [intOf]; omega
    · have hkn : k = n := by omega
      rw [hkn] at ho
      clear PY PN HL hkn hsl
      go_wp2
      go_ret
      exact ⟨_, rfl, ho.out, hb⟩

end Go.Proofs.Ytgpglmponbipbad
