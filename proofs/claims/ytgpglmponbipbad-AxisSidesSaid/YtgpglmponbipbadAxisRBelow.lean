/- The walks of the reference's Below. -/
import Derived.Test.YtgpglmponbipbadAxisWithin
import Derived.BigQuiet
namespace Go.Proofs.Ytgpglmponbipbad
set_option linter.unusedVariables false
open Go.RowKit Go.Sort

set_option maxHeartbeats 1600000 in
theorem rbelow_any (l : Nodes) (ao : Option Addr) (cap : Nat) (i : Int) (B : Nat) (hn : (l.n : Int) ≤ 1000) (w : World) (hB : B ≤ w.heap.size) (hl : Has w ao B l) :
    Calls Try.prog 12 #[.slice ao l.n cap, .int .i64 i] w
      fun e w' => ∃ v, e = .returned v ∧ Owns w' w.heap.size v (belowL l i) ∧ Below w.heap.size w w' := by
  have R := Lib.hid (rright_any l ao cap B hn)
  cases hr : rightB l l.n with
  | false =>
    have H := Lib.hid (below_no (i := i) hr)
    rw [hr] at R
    go_enter Try.func12, Try.ntmps12
    go_wp2_with fail
    refine (R.out _ hB hl).mono ?_
    rintro e w1 ⟨rfl, hb1⟩
    go_wp2_with fail
    go_ret
    exact ⟨_, rfl, by rw [H.out]; exact Owns.none _ _, hb1⟩
  | true =>
    rw [hr] at R
    by_cases h1 : i < -1
    · have H := Lib.hid (below_low (l := l) h1)
      go_enter Try.func12, Try.ntmps12
      go_wp2_with fail
      refine (R.out _ hB hl).mono ?_
      rintro e w1 ⟨rfl, hb1⟩
      go_wp2_with fail
      go_ret
      exact ⟨_, rfl, by rw [H.out]; exact Owns.none _ _, hb1⟩
    rw [below_yes hr h1]
    have K := Lib.hid (fun k hk w hl => within_any l ao cap k i B hn hk hr w hl)
    obtain ⟨i0, hi, hz0, hz1, hz2⟩ := info_parts info_int
    have HL := Lib.hid hl
    obtain ⟨P, hP⟩ : ∃ P : Nat → Bool, inB l i = P := ⟨_, rfl⟩
    rw [hP] at K ⊢
    obtain ⟨n, hnn⟩ : ∃ n, l.n = n := ⟨_, rfl⟩
    rw [hnn] at hn K R ⊢
    clear hP hl
    go_enter Try.func12, Try.ntmps12
    go_wp2_with fail
    refine (R.out _ hB HL.out).mono ?_
    rintro e w1 ⟨rfl, hb1⟩
    clear R
    go_wp2_with fail
    go_loopw [5, 6] (fun v b8 wr => ∃ k : Nat, b8 = .int .i64 (k : Int) ∧ (k : Int) ≤ n ∧ Hid (Owns wr w.heap.size v (sel P k)) ∧ Below w.heap.size w wr)
      (fun _ b8 _ => n - (intOf b8).toNat)
    case atStart => exact ⟨0, rfl, by omega, Lib.hid (Owns.none _ _), hb1⟩
    case round =>
      obtain ⟨k, rfl, hk2, ho, hb⟩ := hrel
      have hsl := sel_len P k
      by_cases h1 : (k : Int) < n
      · have KK := Lib.hid (K.out k (by omega) wr (HL.out.keep hb hB))
        clear HL K hb1
        obtain ⟨p, hp⟩ : ∃ p, P k = p := ⟨_, rfl⟩
        rw [hp] at KK
        cases p with
        | true =>
          have hS := Lib.hid (sel_yes hp)
          have ho' := ho.out
          unfold Owns at ho'
          have hbs := hb.size
          clear hp
          go_wp2_with fail
          refine KK.out.mono ?_
          rintro e w2 ⟨rfl, rfl⟩
          clear KK
          go_wp2_with (first
            | (at_builtin; refine wpList_append_own _ rfl _ _ 26 rfl w.heap.size 3 i0 (.int .i64 0) 1 8 Try.underlying26 hi hz0 hz1 hz2 rfl (by decide) _ _ _ rfl (ho'.alloc _) ⟨wr.heap.size, 0, none⟩ 1 1 [.int .i64 (k : Int)] rfl rfl ?c1 ?c2 ?c3 ?c4 ?c5 ?_))
          case c1 =>
            intro j u hj
            match j, hj with
            | 0, hj => simp at hj; subst hj; simp [Addr.add]
          case c2 => intro u hu; simp at hu; subst hu; rfl
          case c3 => unfold maxLen; omega
          case c4 => omega
          case c5 => simp; omega
          intro v' w1 hown' hgrow _
          have hO := Lib.hid (Owns.step hown')
          rw [← hS.out] at hO
          have hB1 := below_grow hb ho' hgrow
          clear hown' ho' ho hgrow hb hS
          go_wp2
          go_roundw
          case rel => exact ⟨k + 1, by go_num, by omega, hO, hB1⟩
          case measure => simp [intOf]; omega
        | false =>
          have hS := Lib.hid (sel_no hp)
          have ho2 : Hid (Owns wr w.heap.size _ (sel P (k + 1))) := Lib.hid (by rw [hS.out]; exact ho.out)
          clear hp ho hS
          go_wp2_with fail
          refine KK.out.mono ?_
          rintro e w2 ⟨rfl, rfl⟩
          clear KK
          go_wp2
          go_roundw
          case rel => exact ⟨k + 1, by go_num, by omega, ho2, hb⟩
          case measure => simp [intOf]; omega
      · have hkn : k = n := by omega
        rw [hkn] at ho
        clear HL hkn hsl K
        go_wp2
        go_ret
        exact ⟨_, rfl, ho.out, hb⟩

end Go.Proofs.Ytgpglmponbipbad
