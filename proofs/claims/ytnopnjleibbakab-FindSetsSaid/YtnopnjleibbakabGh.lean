/- The walks of Ints. The walks of the reference's Next and Below. The walks of the reference's Below. -/
import Derived.Test.YtnopnjleibbakabGf
import Derived.BigQuiet
import Derived.Test.YtnopnjleibbakabGg
namespace Go.Proofs.Ytnopnjleibbakab
set_option linter.unusedVariables false
open Go.RowKit Go.Sort

set_option maxHeartbeats 1600000 in
theorem ints_any (v u : Value) (L : List Int) (B C : Nat) (hn : (L.length : Int) ≤ 1000) (w : World) (hv : Owns w B v L) (hu : Owns w C u L) :
    Calls Try.prog 8 #[v, u] w fun e w' => e = .returned (.bool true) ∧ Below w.heap.size w w' := by
  obtain ⟨ao, ca, rfl, hA⟩ := hv.form
  obtain ⟨bo, cb, rfl, hC⟩ := hu.form
  have HA := Lib.hid hA
  have HC := Lib.hid hC
  clear hA hC hv hu
  obtain ⟨n, hnn⟩ : ∃ n, L.length = n := ⟨_, rfl⟩
  rw [hnn] at hn HA HC ⊢
  clear hnn
  go_enter Try.func8, Try.ntmps8
  go_wp2_with fail
  go_loopw [4, 5] (fun b4 b5 wr => ∃ k m : Nat, b4 = .bool false ∧ b5 = .int .i64 (k : Int) ∧ (k : Int) ≤ n ∧ wr = w.drewN m)
    (fun _ b5 _ => n - (intOf b5).toNat)
  case atStart => exact ⟨0, 0, rfl, rfl, by omega, rfl⟩
  case round =>
    obtain ⟨k, m, rfl, rfl, hk2, rfl⟩ := hrel
    by_cases h1 : (k : Int) < n
    · obtain ⟨g, rfl, _, _, c1⟩ := HA.out k (by omega)
      obtain ⟨g', rfl, _, _, c2⟩ := HC.out k (by omega)
      clear HA HC
      go_wp2_with fail
      go_quiet (fail)
      go_wp2
      go_roundw
      case rel => exact ⟨k + 1, m + nq, rfl, by go_num, by omega, rfl⟩
      case measure => simp [intOf]; omega
    · clear HA HC
      go_wp2
      go_ret
      exact ⟨rfl, below_drewN (Below.refl _ _) m⟩

end Go.Proofs.Ytnopnjleibbakab

namespace Go.Proofs.Ytnopnjleibbakab
set_option linter.unusedVariables false
open Go.RowKit Go.Sort

set_option maxHeartbeats 1600000 in
theorem rnext_any (l : Nodes) (ao : Option Addr) (cap : Nat) (i : Int) (B : Nat) (hn : (l.n : Int) ≤ 1000) (w : World) (hB : B ≤ w.heap.size) (hl : Has w ao B l) :
    Calls Try.prog 40 #[.slice ao l.n cap, .int .i64 i] w
      fun e w' => ∃ v, e = .returned v ∧ Owns w' w.heap.size v (nextL l i) ∧ Below w.heap.size w w' := by
  rcases place_of l.n i with h1 | ⟨h1, h2⟩ | ⟨j, rfl, hj⟩
  · have H := Lib.hid (next_out (l := l) (.inl h1))
    go_enter Try.func40, Try.ntmps40
    go_wp2_with fail
    go_ret
    exact ⟨_, rfl, by rw [H.out]; exact Owns.none _ _, Below.refl _ _⟩
  · have H := Lib.hid (next_out (l := l) (.inr h2))
    go_enter Try.func40, Try.ntmps40
    go_wp2_with fail
    go_ret
    exact ⟨_, rfl, by rw [H.out]; exact Owns.none _ _, Below.refl _ _⟩
  rw [next_in hj]
  obtain ⟨i0, hi, hz0, hz1, hz2⟩ := info_parts info_int
  have HL := Lib.hid hl
  obtain ⟨P, hP⟩ : ∃ P : Nat → Bool, (fun k => decide (j + 1 ≤ k) && decide (l.up k = l.up j)) = P := ⟨_, rfl⟩
  rw [hP]
  have PY := Lib.hid (fun k (h1 : j + 1 ≤ k) (h2 : l.up k = l.up j) => show P k = true by rw [← hP]; simp [h1, h2])
  have PN := Lib.hid (fun k (h2 : ¬ l.up k = l.up j) => show P k = false by rw [← hP]; simp [h2])
  have PZ := Lib.hid (fun k (h2 : k < j + 1) => show P k = false by rw [← hP]; simp; omega)
  obtain ⟨n, hnn⟩ : ∃ n, l.n = n := ⟨_, rfl⟩
  rw [hnn] at hn hj ⊢
  have hj' : (j : Int) < n := by omega
  have hd1 : decide (n ≤ j) = false := by simp; omega
  have hd2 : ¬ (n ≤ j) := by omega
  have hd3 : decide ((j : Int) < 0) = false := by simp
  clear hP hl
  go_enter Try.func40, Try.ntmps40
  go_wp2_with fail
  go_loopw [5, 6] (fun v b8 wr => ∃ k : Nat, b8 = .int .i64 (k : Int) ∧ j + 1 ≤ k ∧ (k : Int) ≤ n ∧ Hid (Owns wr w.heap.size v (sel P k)) ∧ Below w.heap.size w wr)
    (fun _ b8 _ => n - (intOf b8).toNat)
  case atStart =>
    refine ⟨j + 1, by go_num, Nat.le_refl _, by omega, Lib.hid ?_, Below.refl _ _⟩
    rw [sel_none PZ.out]
    exact Owns.none _ _
  case round =>
    obtain ⟨k, rfl, hk1, hk2, ho, hb⟩ := hrel
    have hsl := sel_len P k
    by_cases h1 : (k : Int) < n
    · obtain ⟨b, off, rfl, hbB, -, -, -, -, c4⟩ := (HL.out.keep hb hB) k (by omega)
      obtain ⟨b', off', e', hbB', -, -, -, -, d4⟩ := (HL.out.keep hb hB) j (by omega)
      simp only [Option.some.injEq, Addr.mk.injEq, and_true] at e'
      obtain ⟨rfl, rfl⟩ := e'
      clear HL
      have hY := Lib.hid (PY.out k hk1)
      have hN := Lib.hid (PN.out k)
      clear PY PN PZ
      generalize l.up k = x at *
      generalize l.up j = y at *
      by_cases h2 : x = y
      · have hS := Lib.hid (sel_yes (hY.out h2))
        have hbs := hb.size
        clear hY hN
        subst h2
        go_wp2_with fail
        go_quiet (fail)
        have ho' := ho.out
        unfold Owns at ho'
        have hoq : (wr.drewN nq).ownsRow w.heap.size 3 1 _ _ _ := ho'
        have hbq : Below w.heap.size w (wr.drewN nq) := below_drewN hb nq
        go_wp2_with (first
          | (at_builtin; refine wpList_append_own _ rfl _ _ 29 rfl w.heap.size 3 i0 (.int .i64 0) 1 8 Try.underlying29 hi hz0 hz1 hz2 rfl (by decide) _ _ _ rfl (hoq.alloc _) ⟨(wr.drewN nq).heap.size, 0, none⟩ 1 1 [.int .i64 (k : Int)] rfl rfl ?c1 ?c2 ?c3 ?c4 ?c5 ?_))
        case c1 =>
          intro j u hj
          match j, hj with
          | 0, hj => simp at hj; subst hj; exact (Own.fresh (wr.drewN nq) 3 [.int .i64 (k : Int)]).cell 0
        case c2 => intro u hu; simp at hu; subst hu; rfl
        case c3 => unfold maxLen; omega
        case c4 => omega
        case c5 => simp; omega
        intro v' w1 hown' hgrow _
        have hO := Lib.hid (Owns.step hown')
        rw [← hS.out] at hO
        have hB1 := below_grow hbq hoq hgrow
        clear hown' ho' hoq ho hgrow hb hbq hS
        go_wp2
        go_roundw
        case rel => exact ⟨k + 1, by go_num, by omega, by omega, hO, hB1⟩
        case measure => simp [intOf]; omega
      · have hS := Lib.hid (sel_no (hN.out h2))
        have ho2 : Hid (Owns wr w.heap.size _ (sel P (k + 1))) := Lib.hid (by rw [hS.out]; exact ho.out)
        clear hY hN ho hS
        have e4 : (x == y) = false := by simpa using h2
        go_wp2_with fail
        go_quiet (fail)
        go_wp2
        go_roundw
        case rel => exact ⟨k + 1, by go_num, by omega, by omega, ho2, below_drewN hb nq⟩
        case measure => simp [intOf]; omega
    · have hkn : k = n := by omega
      rw [hkn] at ho
      clear PY PN PZ HL hkn hsl
      go_wp2
      go_ret
      exact ⟨_, rfl, ho.out, hb⟩

end Go.Proofs.Ytnopnjleibbakab

namespace Go.Proofs.Ytnopnjleibbakab
set_option linter.unusedVariables false
open Go.RowKit Go.Sort

set_option maxHeartbeats 1600000 in
theorem rbelow_any (l : Nodes) (ao : Option Addr) (cap : Nat) (i : Int) (B : Nat) (hn : (l.n : Int) ≤ 1000) (w : World) (hB : B ≤ w.heap.size) (hl : Has w ao B l) :
    Calls Try.prog 38 #[.slice ao l.n cap, .int .i64 i] w
      fun e w' => ∃ v, e = .returned v ∧ Owns w' w.heap.size v (belowL l i) ∧ Below w.heap.size w w' := by
  have R := Lib.hid (rtree_any l ao cap B hn)
  cases hr : treeB l l.n with
  | false =>
    have H := Lib.hid (below_no (i := i) hr)
    rw [hr] at R
    go_enter Try.func38, Try.ntmps38
    go_wp2_with fail
    refine (R.out _ hB hl).mono ?_
    rintro e w1 ⟨rfl, hb1⟩
    go_wp2_with fail
    go_ret
    exact ⟨_, rfl, by rw [H.out]; exact Owns.none _ _, hb1⟩
  | true =>
    rw [hr] at R
    by_cases h1 : i < -1
    · have H := Lib.hid (below_low (l := l) h1)
      go_enter Try.func38, Try.ntmps38
      go_wp2_with fail
      refine (R.out _ hB hl).mono ?_
      rintro e w1 ⟨rfl, hb1⟩
      go_wp2_with fail
      go_ret
      exact ⟨_, rfl, by rw [H.out]; exact Owns.none _ _, hb1⟩
    rw [below_yes hr h1]
    have K := Lib.hid (fun k hk w hl => within_any l ao cap k i B hn hk hr w hl)
    obtain ⟨i0, hi, hz0, hz1, hz2⟩ := info_parts info_int
    have HL := Lib.hid hl
    obtain ⟨P, hP⟩ : ∃ P : Nat → Bool, inB l i = P := ⟨_, rfl⟩
    rw [hP] at K ⊢
    obtain ⟨n, hnn⟩ : ∃ n, l.n = n := ⟨_, rfl⟩
    rw [hnn] at hn K R ⊢
    clear hP hl
    go_enter Try.func38, Try.ntmps38
    go_wp2_with fail
    refine (R.out _ hB HL.out).mono ?_
    rintro e w1 ⟨rfl, hb1⟩
    clear R
    go_wp2_with fail
    go_loopw [5, 6] (fun v b8 wr => ∃ k : Nat, b8 = .int .i64 (k : Int) ∧ (k : Int) ≤ n ∧ Hid (Owns wr w.heap.size v (sel P k)) ∧ Below w.heap.size w wr)
      (fun _ b8 _ => n - (intOf b8).toNat)
    case atStart => exact ⟨0, rfl, by omega, Lib.hid (Owns.none _ _), hb1⟩
    case round =>
      obtain ⟨k, rfl, hk2, ho, hb⟩ := hrel
      have hsl := sel_len P k
      by_cases h1 : (k : Int) < n
      · have KK := Lib.hid (K.out k (by omega) wr (HL.out.keep hb hB))
        clear HL K hb1
        obtain ⟨p, hp⟩ : ∃ p, P k = p := ⟨_, rfl⟩
        rw [hp] at KK
        cases p with
        | true =>
          have hS := Lib.hid (sel_yes hp)
          have ho' := ho.out
          unfold Owns at ho'
          have hbs := hb.size
          clear hp
          go_wp2_with fail
          refine KK.out.mono ?_
          rintro e w2 ⟨rfl, rfl⟩
          clear KK
          go_wp2_with (first
            | (at_builtin; refine wpList_append_own _ rfl _ _ 29 rfl w.heap.size 3 i0 (.int .i64 0) 1 8 Try.underlying29 hi hz0 hz1 hz2 rfl (by decide) _ _ _ rfl (ho'.alloc _) ⟨wr.heap.size, 0, none⟩ 1 1 [.int .i64 (k : Int)] rfl rfl ?c1 ?c2 ?c3 ?c4 ?c5 ?_))
          case c1 =>
            intro j u hj
            match j, hj with
            | 0, hj => simp at hj; subst hj; simp [Addr.add]
          case c2 => intro u hu; simp at hu; subst hu; rfl
          case c3 => unfold maxLen; omega
          case c4 => omega
          case c5 => simp; omega
          intro v' w1 hown' hgrow _
          have hO := Lib.hid (Owns.step hown')
          rw [← hS.out] at hO
          have hB1 := below_grow hb ho' hgrow
          clear hown' ho' ho hgrow hb hS
          go_wp2
          go_roundw
          case rel => exact ⟨k + 1, by go_num, by omega, hO, hB1⟩
          case measure => simp [intOf]; omega
        | false =>
          have hS := Lib.hid (sel_no hp)
          have ho2 : Hid (Owns wr w.heap.size _ (sel P (k + 1))) := Lib.hid (by rw [hS.out]; exact ho.out)
          clear hp ho hS
          go_wp2_with fail
          refine KK.out.mono ?_
          rintro e w2 ⟨rfl, rfl⟩
          clear KK
          go_wp2
          go_roundw
          case rel => exact ⟨k + 1, by go_num, by omega, ho2, hb⟩
          case measure => simp [intOf]; omega
      · have hkn : k = n := by omega
        rw [hkn] at ho
        clear HL hkn hsl K
        go_wp2
        go_ret
        exact ⟨_, rfl, ho.out, hb⟩

end Go.Proofs.Ytnopnjleibbakab
