/- The walk of spot.At. -/
import Derived.Test.YtgpglmponbipbaaSpot
import Derived.BigQuiet
namespace Go.Proofs.Ytgpglmponbipbaa
set_option linter.unusedVariables false
open Go.RowKit Go.Sort Go.PlainAid

theorem ret_val {a b : Value} (h : b = a) : Ending.returned a = .returned b := by rw [h]
theorem at_same {a b : Int} (h : a = b) : Value.tuple #[.int .i64 a, .bool true] = Value.tuple #[.int .i64 b, .bool true] := by rw [h]
theorem Own.two {w : World} {g : Nat} {t : TypeId} {v0 v1 : Value} (h : Own w g t [v0, v1]) :
    w.cell? ⟨g, 0, none⟩ = some v0 ∧ w.cell? ⟨g, 1, none⟩ = some v1 ∧ w.frozen? ⟨g, 0, none⟩ = false ∧ w.frozen? ⟨g, 1, none⟩ = false :=
  ⟨h.cell 0, h.cell 1, h.thaw 0, h.thaw 1⟩
/-- A text of which a line's beginning stands at p: the rest. -/
def Begin (s : ByteArray) (p k : Nat) : Prop := p ≤ s.size ∧ ln s p = k + 1 ∧ cl s p = 1
theorem begin0 (s : ByteArray) : Begin s 0 0 := ⟨Nat.zero_le _, rfl, rfl⟩

theorem at_bad {s : ByteArray} {L C : Int} (h : L < 1 ∨ (ln s s.size : Int) < L ∨ C < 1) : atV s L C = .tuple #[.int .i64 0, .bool false] := by
  refine atV_none (atF_none fun i hi h1 h2 => ?_)
  have a1 := ln_pos s i
  have a2 := cl_pos s i
  have a3 := ln_mono s i (s.size - i)
  rw [show i + (s.size - i) = s.size by omega] at a3
  rcases h with h | h | h <;> omega
theorem at_none {s : ByteArray} {p k : Nat} {C : Int} (hb : Begin s p k) (hno : ∀ i, i < s.size - p → bt s (p + i) ≠ 10) :
    atF s ((k : Int) + 1) C = if 1 ≤ C ∧ C - 1 ≤ ((s.size - p : Nat) : Int) then some (p + (C - 1).toNat) else none := by
  have := line_at s p (s.size - p) C hb.2.2 (by have := hb.1; omega) hno (.inl (by have := hb.1; omega))
  rwa [hb.2.1, show ((k + 1 : Nat) : Int) = (k : Int) + 1 by omega] at this
theorem at_some {s : ByteArray} {p k d : Nat} {C : Int} (hb : Begin s p k) (hd : p + d < s.size) (h10 : bt s (p + d) = 10) (hno : ∀ i, i < d → bt s (p + i) ≠ 10) :
    atF s ((k : Int) + 1) C = if 1 ≤ C ∧ C - 1 ≤ (d : Int) then some (p + (C - 1).toNat) else none := by
  have := line_at s p d C hb.2.2 (by omega) hno (.inr h10)
  rwa [hb.2.1, show ((k + 1 : Nat) : Int) = (k : Int) + 1 by omega] at this
theorem begin_next {s : ByteArray} {p k d : Nat} (hb : Begin s p k) (hd : p + d < s.size) (h10 : bt s (p + d) = 10) (hno : ∀ i, i < d → bt s (p + i) ≠ 10) : Begin s (p + (d + 1)) (k + 1) := by
  have h1 := no_feed s p d hno
  have h2 := feed s (p + d) h10
  refine ⟨by omega, ?_, h2.2⟩
  rw [← Nat.add_assoc, h2.1, h1.1, hb.2.1]
theorem begin_last {s : ByteArray} {p k : Nat} (hb : Begin s p k) (hno : ∀ i, i < s.size - p → bt s (p + i) ≠ 10) : ln s s.size = k + 1 := by
  have h1 := no_feed s p (s.size - p) hno
  rw [show p + (s.size - p) = s.size by have := hb.1; omega] at h1
  rw [h1.1, hb.2.1]

set_option maxHeartbeats 1600000 in
theorem at_any (s : ByteArray) (L C : Int) (hs : (s.size : Int) ≤ 1000) (hL : -9223372036854775808 ≤ L ∧ L ≤ 9223372036854775807) (hC : -9223372036854775808 ≤ C ∧ C ≤ 9223372036854775807) (w : World) :
    Calls Try.prog 7 #[.string s, .agg #[.int .i64 L, .int .i64 C]] w fun e w' => e = .returned (atV s L C) ∧ Below w.heap.size w w' := by
  have K := Lib.hid (lines_below s hs)
  have I := Lib.hid (fun p : Nat => index_ten (s.extract p s.size))
  have R := Lib.hid (fun p => idx_rest s p)
  obtain ⟨V, hV0⟩ : ∃ V, atV s L C = V := ⟨_, rfl⟩
  have hbad := Lib.hid (@at_bad s L C)
  rw [hV0] at hbad ⊢
  have hV := Lib.hid hV0
  clear hV0
  have hn := ln_le s s.size
  have hn1 := ln_pos s s.size
  obtain ⟨n, hln⟩ : ∃ n, ln s s.size = n := ⟨_, rfl⟩
  rw [hln] at K hn hn1 hbad
  go_enter Try.func7, Try.ntmps7
  go_wp2_with fail
  have D := Own.fresh w 23 [.int .i64 L, .int .i64 C]
  have hB : Below w.heap.size w (w.alloc (.cells #[.int .i64 L, .int .i64 C] 23)) := by go_grown
  generalize (w.alloc _) = W at *
  have k0 := cell_regrown (D.cell 0)
  have k1 := cell_regrown (D.cell 1)
  by_cases c1 : L < 1
  · clear hL hC hs hn hn1 I R
    refine wp_region_quiet_below (by kernel_rfl) (by kernel_rfl) ?_
    repeat (go_big_quiet_step (first
      | (go_at_call 11; with_reducible exact Calls.regrown_of (K.out _))))
    refine wpQuiet_nil ?_
    intro _ hw'
    obtain ⟨⟨dq, osq⟩, hw''⟩ := hw'
    subst hw''
    go_wp2
    go_ret2
    exact ⟨ret_val (hbad.out (.inl c1)), keepb hB (below_regrown W dq osq)⟩
  · by_cases c2 : (n : Int) < L
    · clear hL hC hs I R
      refine wp_region_quiet_below (by kernel_rfl) (by kernel_rfl) ?_
      repeat (go_big_quiet_step (first
        | (go_at_call 11; with_reducible exact Calls.regrown_of (K.out _))))
      refine wpQuiet_nil ?_
      intro _ hw'
      obtain ⟨⟨dq, osq⟩, hw''⟩ := hw'
      subst hw''
      go_wp2
      go_ret2
      exact ⟨ret_val (hbad.out (.inr (.inl c2))), keepb hB (below_regrown W dq osq)⟩
    · by_cases c3 : C < 1
      · clear hL hC hs I R
        refine wp_region_quiet_below (by kernel_rfl) (by kernel_rfl) ?_
        repeat (go_big_quiet_step (first
          | (go_at_call 11; with_reducible exact Calls.regrown_of (K.out _))))
        refine wpQuiet_nil ?_
        intro _ hw'
        obtain ⟨⟨dq, osq⟩, hw''⟩ := hw'
        subst hw''
        go_wp2
        go_ret2
        exact ⟨ret_val (hbad.out (.inr (.inr c3))), keepb hB (below_regrown W dq osq)⟩
      · clear hbad
        refine wp_region_quiet_below (by kernel_rfl) (by kernel_rfl) ?_
        repeat (go_big_quiet_step (first
          | (go_at_call 11; with_reducible exact Calls.regrown_of (K.out _))))
        refine wpQuiet_nil ?_
        intro _ hw'
        obtain ⟨⟨dq, osq⟩, hw''⟩ := hw'
        subst hw''
        have D2 := D.under (below_regrown W dq osq) D.lt
        have hB2 := keepb hB (below_regrown W dq osq)
        clear k0 k1 D hB K
        generalize grow (redrawn W dq) osq = W2 at *
        obtain ⟨k0, k1, -, -⟩ := D2.two
        go_wp2_with fail
        go_loopw [6, 26] (fun b6 b26 wr => ∃ p k : Nat, b6 = .int .i64 (p : Int) ∧ b26 = .int .i64 (k : Int) ∧ (k : Int) ≤ L - 1 ∧ (p : Int) ≤ s.size ∧ Hid (Begin s p k) ∧ wr = W2)
          (fun _ b26 _ => (L - 1 - intOf b26).toNat)
        case atStart => exact ⟨0, 0, rfl, rfl, by omega, by omega, Lib.hid (begin0 s), rfl⟩
        case round =>
          obtain ⟨p, k, rfl, rfl, hk, hps, hbg, rfl⟩ := hrel
          have hsz : p ≤ s.size := by omega
          have hX := R.out p hsz
          by_cases ck : (k : Int) < L - 1
          · obtain ⟨d, hd, hd1, hd2, hd3⟩ : ∃ d : Nat, Lib.indexByte (s.extract p s.size).data.toList 10 = (d : Int) ∧ p + d < s.size ∧ bt s (p + d) = 10 ∧ ∀ i, i < d → bt s (p + i) ≠ 10 := by
              rcases hX with ⟨h1, h2⟩ | h
              · have := begin_last hbg.out h2; omega
              · exact h
            have hbn := Lib.hid (begin_next hbg.out hd1 hd2 hd3)
            have J := Lib.hid (I.out p)
            rw [hd] at J
            clear I R hX hd2 hd3 hd
            go_wp2_with fail
            refine (J.out _).mono ?_
            rintro e w1 ⟨rfl, rfl⟩
            go_wp2
            go_roundw
            case rel => exact ⟨p + (d + 1), k + 1, by go_num, by go_num, by omega, by omega, hbn, trivial⟩
            case measure => simp [intOf]; omega
          · have hk2 : (k : Int) + 1 = L := by omega
            have J := Lib.hid (I.out p)
            rcases hX with ⟨hd, hno⟩ | ⟨d, hd, hd1, hd2, hno⟩
            · have hE := at_none (C := C) hbg.out hno
              rw [hk2] at hE
              rw [hd] at J
              clear I R hd hno hbg
              by_cases c4 : C - 1 ≤ ((s.size - p : Nat) : Int)
              · rw [if_pos ⟨c3, c4⟩] at hE
                have hF := Lib.hid (hV.out ▸ atV_some hE)
                clear hE hV
                have c5 : C - 1 ≤ (s.size : Int) - p := by omega
                clear c4 hln
                go_wp2_with fail
                refine (J.out _).mono ?_
                rintro e w1 ⟨rfl, rfl⟩
                go_wp2
                go_ret2
                exact ⟨ret_val (hF.out.trans (at_same (by omega))), hB2⟩
              · rw [if_neg (fun h => c4 h.2)] at hE
                have hF := Lib.hid (hV.out ▸ atV_none hE)
                clear hE hV
                have c5 : (s.size : Int) - p < C - 1 := by omega
                clear c4 hln
                go_wp2_with fail
                refine (J.out _).mono ?_
                rintro e w1 ⟨rfl, rfl⟩
                go_wp2
                go_ret2
                exact ⟨ret_val hF.out, hB2⟩
            · have hE := at_some (C := C) hbg.out hd1 hd2 hno
              rw [hk2] at hE
              rw [hd] at J
              clear I R hd hd2 hno hbg
              by_cases c4 : C - 1 ≤ (d : Int)
              · rw [if_pos ⟨c3, c4⟩] at hE
                have hF := Lib.hid (hV.out ▸ atV_some hE)
                clear hE hV hln
                go_wp2_with fail
                refine (J.out _).mono ?_
                rintro e w1 ⟨rfl, rfl⟩
                go_wp2
                go_ret2
                exact ⟨ret_val (hF.out.trans (at_same (by omega))), hB2⟩
              · rw [if_neg (fun h => c4 h.2)] at hE
                have hF := Lib.hid (hV.out ▸ atV_none hE)
                clear hE hV hln
                go_wp2_with fail
                refine (J.out _).mono ?_
                rintro e w1 ⟨rfl, rfl⟩
                go_wp2
                go_ret2
                exact ⟨ret_val hF.out, hB2⟩
end Go.Proofs.Ytgpglmponbipbaa
