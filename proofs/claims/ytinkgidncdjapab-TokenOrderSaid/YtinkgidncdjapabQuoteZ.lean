/- The set that stands at a place: the walk of the program's ReadClass. -/
import Derived.Test.YtinkgidncdjapabQuoteV
namespace Go.Proofs.Ytinkgidncdjapab
set_option linter.unusedVariables false
open Go.RowKit

theorem cnt_zero {p : Nat → Bool} : ∀ n, cnt p n = 0 → ∀ x, x < n → p x = false
  | 0, _, x, hx => by omega
  | n + 1, h, x, hx => by
    have e : cnt p (n + 1) = cnt p n + (if p n then 1 else 0) := rfl
    rw [e] at h
    by_cases g : x = n
    · subst g
      cases hp : p x
      · rfl
      · rw [hp] at h; simp at h
    · exact cnt_zero n (by omega) x (by omega)
theorem card_zero {a b c d : Nat} (hf : fits (a, b, c, d)) (h : card a b c d = 0) : (a, b, c, d) = set0 := by
  rw [card_cnt] at h
  refine set_ext hf fits0 fun x hx => ?_
  show inSet a b c d x = inSet 0 0 0 0 x
  rw [cnt_zero 256 h x hx]
  unfold inSet word
  split <;> simp
theorem card_0 : card 0 0 0 0 = 0 := by decide +kernel
theorem card_none {a b c d : Nat} (h : (a, b, c, d) = set0) : card a b c d = 0 := by
  simp only [set0, Prod.mk.injEq] at h
  obtain ⟨rfl, rfl, rfl, rfl⟩ := h
  exact card_0

set_option maxHeartbeats 3200000 in
set_option maxRecDepth 100000 in
theorem readclass_any (s : ByteArray) (hs : s.size ≤ 1000000) (i : Int) (w : World) :
    Calls Try.prog 24 #[.string s, .int .i64 i] w fun e w' => e = .returned (clsT (clsO s i)) ∧ Below w.heap.size w w' := by
  have HF := Lib.hid (show clsO s i = if standB s i 91 = true then endR (standB s (i + 1) 94) (rwsF s (s.size + 1) (i.toNat + 1 + (if standB s (i + 1) 94 = true then 1 else 0)) set0) else none from rfl)
  have HS91 := Lib.hid (fun W => stands_any s i 91 W)
  obtain ⟨b0, hb0⟩ : ∃ b0, standB s i 91 = b0 := ⟨_, rfl⟩
  rw [hb0] at HS91 HF
  cases b0
  · have HE := Lib.hid (show clsO s i = none by rw [HF.out]; rfl)
    have HO1 := Lib.hid (Own.fresh w 25 [.int .u64 0, .int .u64 0, .int .u64 0, .int .u64 0])
    have HB1 := Lib.hid (show Below w.heap.size w (w.alloc (.cells #[.int .u64 0, .int .u64 0, .int .u64 0, .int .u64 0] 25)) from (Below.refl _ _).alloc (Nat.le_refl _) _)
    clear HF hb0
    go_enter Try.func24, Try.ntmps24
    go_wp2_with fail
    refine (HS91.out _).mono ?_
    rintro e wx ⟨rfl, rfl⟩
    go_wp2
    obtain ⟨z0, z1, z2, z3, -⟩ := HO1.out.four
    refine bodyPost_ret (by simp [results, Try.results24, go_sem, z0, z1, z2, z3]; rfl) rfl ?_
    exact ⟨by rw [HE.out]; rfl, HB1.out⟩
  · have hi0 : 0 ≤ i ∧ i < s.size := by
      unfold standB at hb0
      simp at hb0
      exact hb0.1
    obtain ⟨a, rfl⟩ : ∃ a : Nat, i = (a : Int) := ⟨i.toNat, by omega⟩
    rw [Int.toNat_natCast, if_pos rfl] at HF
    obtain ⟨-, ha⟩ := hi0
    clear hb0
    have HS94 := Lib.hid (fun W => stands_any s ((a : Int) + 1) 94 W)
    cases ho : standB s ((a : Int) + 1) 94
    · have HF2 := Lib.hid (show clsO s (a : Int) = endR false (rwsF s (s.size + 1) (a + 1) set0) by rw [HF.out, ho]; rfl)
      have HT0 := Lib.hid (show (if true = true then rwsF s (s.size + 1) (a + 1) set0 else some (set0, (a + 1))) = rwsF s (s.size + 1) (a + 1) set0 ∧ s.size < s.size + 1 + (a + 1) ∧ fits set0 from ⟨rfl, by omega, fits0⟩)
      obtain ⟨o, hro⟩ : ∃ o, rwsF s (s.size + 1) (a + 1) set0 = o := ⟨_, rfl⟩
      rw [hro] at HF2
      conv at HT0 => arg 1; arg 1; rhs; rw [hro]
      rw [ho] at HS94
      clear HF ho hro
      have HO0 := Lib.hid ((Own.fresh w 25 [.int .u64 0, .int .u64 0, .int .u64 0, .int .u64 0]).on_alloc (.cells #[.int .u64 0, .int .u64 0, .int .u64 0, .int .u64 0] 25))
      have HX0 := Lib.hid (Own.fresh' (w := w.alloc (.cells #[.int .u64 0, .int .u64 0, .int .u64 0, .int .u64 0] 25)) (g := w.heap.size + 1) (by simp) 25 [.int .u64 0, .int .u64 0, .int .u64 0, .int .u64 0])
      have HB0 := Lib.hid (show Below w.heap.size w ((w.alloc (.cells #[.int .u64 0, .int .u64 0, .int .u64 0, .int .u64 0] 25)).alloc (.cells #[.int .u64 0, .int .u64 0, .int .u64 0, .int .u64 0] 25)) from ((Below.refl _ _).alloc (Nat.le_refl _) _).alloc (by simp) _)
      go_enter Try.func24, Try.ntmps24
      go_wp2_with fail
      refine (HS91.out _).mono ?_
      rintro e wx ⟨rfl, rfl⟩
      go_wp2_with fail
      refine (HS94.out _).mono ?_
      rintro e wx ⟨rfl, rfl⟩
      go_wp2_with fail
      clear HS91 HS94
      go_loopw [1, 9] (fun b1 b9 wr => ∃ (k f X0 X1 X2 X3 : Nat) (more : Bool), b1 = .int .i64 (k : Int) ∧ b9 = .bool more ∧ (k : Int) ≤ 1000100 ∧ Hid ((if more = true then rwsF s f k (X0, X1, X2, X3) else some ((X0, X1, X2, X3), k)) = o ∧ s.size < f + k ∧ fits (X0, X1, X2, X3)) ∧ Hid (Own wr w.heap.size 25 [.int .u64 0, .int .u64 0, .int .u64 0, .int .u64 0]) ∧ Hid (Own wr (w.heap.size + 1) 25 [.int .u64 (X0 : Int), .int .u64 (X1 : Int), .int .u64 (X2 : Int), .int .u64 (X3 : Int)]) ∧ Hid (Below w.heap.size w wr)) (fun b1 _ _ => 1200000 - (intOf b1).toNat)
      case atStart => exact ⟨(a + 1), s.size + 1, 0, 0, 0, 0, true, by go_num, rfl, by omega, HT0, HO0, HX0, HB0⟩
      case round =>
        obtain ⟨k, f, X0, X1, X2, X3, more, rfl, rfl, hk, HT, HO, HX, HB⟩ := hrel
        clear HT0 HO0 HX0 HB0
        cases more
        · have HFX := Lib.hid (show fits (X0, X1, X2, X3) from HT.out.2.2)
          have HFY := Lib.hid (show fits (X0, X1, X2, X3) from HT.out.2.2)
          have HE0 := Lib.hid (show clsO s (a : Int) = if (X0, X1, X2, X3) = set0 then none else some ((X0, X1, X2, X3), k + 1) by rw [HF2.out, ← HT.out.1]; rfl)
          obtain ⟨q, hq⟩ : ∃ q, card X0 X1 X2 X3 = q := ⟨_, rfl⟩
          have HC := Lib.hid (fun W => count_any X0 X1 X2 X3 HFY.out.1 HFY.out.2.1 HFY.out.2.2.1 HFY.out.2.2.2 W)
          rw [hq] at HC
          clear HT HF2
          obtain ⟨x0, x1, x2, x3, v0, v1, v2, v3⟩ := HX.out.four
          have HO4 := HO
          have HX4 := HX
          have HB4 := HB
          clear HO HX HB
          go_wp2_with fail
          refine (HC.out _).mono ?_
          rintro e w5 ⟨rfl, hb5⟩
          have HO5 := Lib.hid (HO4.out.under hb5 HO4.out.lt)
          have HX5 := Lib.hid (HX4.out.under hb5 HX4.out.lt)
          have HB5 := Lib.hid (keepb HB4.out hb5)
          clear hb5 HO4 HX4 HB4 x0 x1 x2 x3 v0 v1 v2 v3 HC
          obtain ⟨x0, x1, x2, x3, v0, v1, v2, v3⟩ := HX5.out.four
          obtain ⟨z0, z1, z2, z3, y0, y1, y2, y3⟩ := HO5.out.four
          by_cases g : q = 0
          · subst g
            have HE := Lib.hid (show clsO s (a : Int) = none by rw [HE0.out]; exact if_pos (card_zero HFY.out hq))
            clear HE0 hq
            go_wp2
            rw [set4_fold]
            have hF := HO5.out.put4 (u0 := .int .u64 0) (u1 := .int .u64 0) (u2 := .int .u64 0) (u3 := .int .u64 0)
            have hB := below_put4 HB5.out (Nat.le_refl _) (.int .u64 0) (.int .u64 0) (.int .u64 0) (.int .u64 0)
            clear z0 z1 z2 z3 y0 y1 y2 y3
            obtain ⟨z0, z1, z2, z3, -⟩ := hF.four
            refine bodyPost_ret (by simp [results, Try.results24, go_sem, z0, z1, z2, z3]; rfl) rfl ?_
            exact ⟨by rw [HE.out]; rfl, hB⟩
          · have g2 : ((q : Int) == 0) = false := beq_eq_false_iff_ne.2 (by omega)
            have HE := Lib.hid (show clsO s (a : Int) = some ((X0, X1, X2, X3), k + 1) by rw [HE0.out]; exact if_neg (fun e => g (hq.symm.trans (card_none e))))
            clear HE0 hq
            go_wp2
            rw [set4_fold]
            have hF := HO5.out.put4 (u0 := .int .u64 (X0 : Int)) (u1 := .int .u64 (X1 : Int)) (u2 := .int .u64 (X2 : Int)) (u3 := .int .u64 (X3 : Int))
            have hB := below_put4 HB5.out (Nat.le_refl _) (.int .u64 (X0 : Int)) (.int .u64 (X1 : Int)) (.int .u64 (X2 : Int)) (.int .u64 (X3 : Int))
            clear z0 z1 z2 z3 y0 y1 y2 y3
            obtain ⟨z0, z1, z2, z3, -⟩ := hF.four
            refine bodyPost_ret (by simp [results, Try.results24, go_sem, z0, z1, z2, z3]; rfl) rfl ?_
            exact ⟨by rw [HE.out]; rfl, hB⟩
        · have HR := Lib.hid (fun W => row_any s hs k (by omega) W)
          cases hq : rowO s k with
          | none =>
            have HE := Lib.hid (show clsO s (a : Int) = none by rw [HF2.out, ← HT.out.1, if_pos rfl, rwsF_no hq]; rfl)
            rw [hq] at HR
            simp only [rowT] at HR
            clear hq HT HF2
            go_wp2_with fail
            refine (HR.out _).mono ?_
            rintro e w2 ⟨he, hb2⟩
            subst he
            have HO2 := Lib.hid (HO.out.under hb2 HO.out.lt)
            have HB2 := Lib.hid (keepb HB.out hb2)
            have hlt2 := HO2.out.lt
            clear hb2 HO HX HB HR
            obtain ⟨z0, z1, z2, z3, y0, y1, y2, y3⟩ := HO2.out.four
            go_wp2
            rw [set4_fold]
            have hF := (HO2.out.put4 (u0 := .int .u64 0) (u1 := .int .u64 0) (u2 := .int .u64 0) (u3 := .int .u64 0)).on_alloc (.cells #[.int .u64 0, .int .u64 0, .int .u64 0, .int .u64 0] 25)
            have hB0 := below_put4 HB2.out (Nat.le_refl _) (.int .u64 0) (.int .u64 0) (.int .u64 0) (.int .u64 0)
            have hB := hB0.alloc hB0.size (.cells #[.int .u64 0, .int .u64 0, .int .u64 0, .int .u64 0] 25)
            clear z0 z1 z2 z3 y0 y1 y2 y3
            obtain ⟨z0, z1, z2, z3, -⟩ := hF.four
            refine bodyPost_ret (by simp [results, Try.results24, go_sem, z0, z1, z2, z3]; rfl) rfl ?_
            exact ⟨by rw [HE.out]; rfl, hB⟩
          | some p =>
            obtain ⟨⟨lo, hi⟩, m⟩ := p
            have hbd := rowO_bd hq
            obtain ⟨bd, hd⟩ : ∃ bd, standB s (m : Int) 93 = bd := ⟨_, rfl⟩
            have HT2 := Lib.hid (show (if (!bd) = true then rwsF s (f - 1) m (orR (X0, X1, X2, X3) lo hi) else some (orR (X0, X1, X2, X3) lo hi, m)) = o ∧ s.size < (f - 1) + m ∧ fits (orR (X0, X1, X2, X3) lo hi) from
              ⟨by rw [← HT.out.1, if_pos rfl, rwsF_go HT.out.2.1 hq, hd]; cases bd <;> rfl, by have := HT.out.2.1; omega, orR_fits HT.out.2.2 lo hi⟩)
            have HS := Lib.hid (fun W => stands_any s (m : Int) 93 W)
            have HOR := Lib.hid (fun W => or_any X0 X1 X2 X3 (rowW 0 lo (hi + 1)) (rowW 1 lo (hi + 1)) (rowW 2 lo (hi + 1)) (rowW 3 lo (hi + 1)) HT.out.2.2.1 HT.out.2.2.2.1 HT.out.2.2.2.2.1 HT.out.2.2.2.2.2 (rowW_lt ..) (rowW_lt ..) (rowW_lt ..) (rowW_lt ..) W)
            rw [hd] at HS
            rw [hq] at HR
            simp only [rowT] at HR
            obtain ⟨q1, q2, q3, -, -⟩ := hbd
            clear hq HT HF2 hd
            go_wp2_with fail
            refine (HR.out _).mono ?_
            rintro e w2 ⟨he, hb2⟩
            subst he
            have HO2 := Lib.hid (HO.out.under hb2 HO.out.lt)
            have HX2 := Lib.hid (HX.out.under hb2 HX.out.lt)
            have HB2 := Lib.hid (keepb HB.out hb2)
            have hlt2 := HX2.out.lt
            have HOE := Lib.hid (HO2.out.on_alloc (.cells #[.int .u64 (rowW 0 lo (hi + 1) : Int), .int .u64 (rowW 1 lo (hi + 1) : Int), .int .u64 (rowW 2 lo (hi + 1) : Int), .int .u64 (rowW 3 lo (hi + 1) : Int)] 25))
            have HXE := Lib.hid (HX2.out.on_alloc (.cells #[.int .u64 (rowW 0 lo (hi + 1) : Int), .int .u64 (rowW 1 lo (hi + 1) : Int), .int .u64 (rowW 2 lo (hi + 1) : Int), .int .u64 (rowW 3 lo (hi + 1) : Int)] 25))
            have HBE := Lib.hid (HB2.out.alloc HB2.out.size (.cells #[.int .u64 (rowW 0 lo (hi + 1) : Int), .int .u64 (rowW 1 lo (hi + 1) : Int), .int .u64 (rowW 2 lo (hi + 1) : Int), .int .u64 (rowW 3 lo (hi + 1) : Int)] 25))
            obtain ⟨x0, x1, x2, x3, v0, v1, v2, v3⟩ := HX2.out.four
            clear hb2 HO HX HB HR HO2 HX2 HB2
            go_wp2_with fail
            refine (HOR.out _).mono ?_
            rintro e w3 ⟨he, hb3⟩
            subst he
            have HO3 := Lib.hid (HOE.out.under hb3 HOE.out.lt)
            have HX3 := Lib.hid (HXE.out.under hb3 HXE.out.lt)
            have HB3 := Lib.hid (keepb HBE.out hb3)
            clear hb3 HOE HXE HBE HOR x0 x1 x2 x3 v0 v1 v2 v3
            obtain ⟨x0, x1, x2, x3, v0, v1, v2, v3⟩ := HX3.out.four
            go_wp2_with fail
            refine (HS.out _).mono ?_
            rintro e wx ⟨rfl, rfl⟩
            go_wp2
            go_roundw
            case rel => exact ⟨m, f - 1, _, _, _, _, !bd, rfl, rfl, by omega, HT2, Lib.hid (HO3.out.off4 (by omega) _ _ _ _), Lib.hid (HX3.out.put4), Lib.hid (below_put4 HB3.out (by omega) _ _ _ _)⟩
            case measure => simp [intOf]; omega
    · have HF2 := Lib.hid (show clsO s (a : Int) = endR true (rwsF s (s.size + 1) (a + 1 + 1) set0) by rw [HF.out, ho]; rfl)
      have HT0 := Lib.hid (show (if true = true then rwsF s (s.size + 1) (a + 1 + 1) set0 else some (set0, (a + 1 + 1))) = rwsF s (s.size + 1) (a + 1 + 1) set0 ∧ s.size < s.size + 1 + (a + 1 + 1) ∧ fits set0 from ⟨rfl, by omega, fits0⟩)
      obtain ⟨o, hro⟩ : ∃ o, rwsF s (s.size + 1) (a + 1 + 1) set0 = o := ⟨_, rfl⟩
      rw [hro] at HF2
      conv at HT0 => arg 1; arg 1; rhs; rw [hro]
      rw [ho] at HS94
      clear HF ho hro
      have HO0 := Lib.hid ((Own.fresh w 25 [.int .u64 0, .int .u64 0, .int .u64 0, .int .u64 0]).on_alloc (.cells #[.int .u64 0, .int .u64 0, .int .u64 0, .int .u64 0] 25))
      have HX0 := Lib.hid (Own.fresh' (w := w.alloc (.cells #[.int .u64 0, .int .u64 0, .int .u64 0, .int .u64 0] 25)) (g := w.heap.size + 1) (by simp) 25 [.int .u64 0, .int .u64 0, .int .u64 0, .int .u64 0])
      have HB0 := Lib.hid (show Below w.heap.size w ((w.alloc (.cells #[.int .u64 0, .int .u64 0, .int .u64 0, .int .u64 0] 25)).alloc (.cells #[.int .u64 0, .int .u64 0, .int .u64 0, .int .u64 0] 25)) from ((Below.refl _ _).alloc (Nat.le_refl _) _).alloc (by simp) _)
      go_enter Try.func24, Try.ntmps24
      go_wp2_with fail
      refine (HS91.out _).mono ?_
      rintro e wx ⟨rfl, rfl⟩
      go_wp2_with fail
      refine (HS94.out _).mono ?_
      rintro e wx ⟨rfl, rfl⟩
      go_wp2_with fail
      clear HS91 HS94
      go_loopw [1, 9] (fun b1 b9 wr => ∃ (k f X0 X1 X2 X3 : Nat) (more : Bool), b1 = .int .i64 (k : Int) ∧ b9 = .bool more ∧ (k : Int) ≤ 1000100 ∧ Hid ((if more = true then rwsF s f k (X0, X1, X2, X3) else some ((X0, X1, X2, X3), k)) = o ∧ s.size < f + k ∧ fits (X0, X1, X2, X3)) ∧ Hid (Own wr w.heap.size 25 [.int .u64 0, .int .u64 0, .int .u64 0, .int .u64 0]) ∧ Hid (Own wr (w.heap.size + 1) 25 [.int .u64 (X0 : Int), .int .u64 (X1 : Int), .int .u64 (X2 : Int), .int .u64 (X3 : Int)]) ∧ Hid (Below w.heap.size w wr)) (fun b1 _ _ => 1200000 - (intOf b1).toNat)
      case atStart => exact ⟨(a + 1 + 1), s.size + 1, 0, 0, 0, 0, true, by go_num, rfl, by omega, HT0, HO0, HX0, HB0⟩
      case round =>
        obtain ⟨k, f, X0, X1, X2, X3, more, rfl, rfl, hk, HT, HO, HX, HB⟩ := hrel
        clear HT0 HO0 HX0 HB0
        cases more
        · have HFX := Lib.hid (show fits (X0, X1, X2, X3) from HT.out.2.2)
          have HFY := Lib.hid (show fits ((notW X0), (notW X1), (notW X2), (notW X3)) from ⟨notW_lt _, notW_lt _, notW_lt _, notW_lt _⟩)
          have HE0 := Lib.hid (show clsO s (a : Int) = if ((notW X0), (notW X1), (notW X2), (notW X3)) = set0 then none else some (((notW X0), (notW X1), (notW X2), (notW X3)), k + 1) by rw [HF2.out, ← HT.out.1]; rfl)
          obtain ⟨q, hq⟩ : ∃ q, card (notW X0) (notW X1) (notW X2) (notW X3) = q := ⟨_, rfl⟩
          have HC := Lib.hid (fun W => count_any (notW X0) (notW X1) (notW X2) (notW X3) HFY.out.1 HFY.out.2.1 HFY.out.2.2.1 HFY.out.2.2.2 W)
          rw [hq] at HC
          clear HT HF2
          obtain ⟨x0, x1, x2, x3, v0, v1, v2, v3⟩ := HX.out.four
          have HN := Lib.hid (fun W => not_any X0 X1 X2 X3 HFX.out.1 HFX.out.2.1 HFX.out.2.2.1 HFX.out.2.2.2 W)
          go_wp2_with fail
          refine (HN.out _).mono ?_
          rintro e w3 ⟨rfl, hb3⟩
          have HO3 := Lib.hid (HO.out.under hb3 HO.out.lt)
          have HX3 := Lib.hid (HX.out.under hb3 HX.out.lt)
          have HB3 := Lib.hid (keepb HB.out hb3)
          clear hb3 HO HX HB x0 x1 x2 x3 v0 v1 v2 v3 HN
          obtain ⟨x0, x1, x2, x3, v0, v1, v2, v3⟩ := HX3.out.four
          have HO4 := Lib.hid (HO3.out.off4 (k := w.heap.size + 1) (by omega) (.int .u64 (notW X0 : Int)) (.int .u64 (notW X1 : Int)) (.int .u64 (notW X2 : Int)) (.int .u64 (notW X3 : Int)))
          have HX4 := Lib.hid (HX3.out.put4 (u0 := .int .u64 (notW X0 : Int)) (u1 := .int .u64 (notW X1 : Int)) (u2 := .int .u64 (notW X2 : Int)) (u3 := .int .u64 (notW X3 : Int)))
          have HB4 := Lib.hid (below_put4 (g := w.heap.size + 1) HB3.out (by omega) (.int .u64 (notW X0 : Int)) (.int .u64 (notW X1 : Int)) (.int .u64 (notW X2 : Int)) (.int .u64 (notW X3 : Int)))
          clear HO3 HX3 HB3
          go_wp2_with fail
          refine (HC.out _).mono ?_
          rintro e w5 ⟨rfl, hb5⟩
          have HO5 := Lib.hid (HO4.out.under hb5 HO4.out.lt)
          have HX5 := Lib.hid (HX4.out.under hb5 HX4.out.lt)
          have HB5 := Lib.hid (keepb HB4.out hb5)
          clear hb5 HO4 HX4 HB4 x0 x1 x2 x3 v0 v1 v2 v3 HC
          obtain ⟨x0, x1, x2, x3, v0, v1, v2, v3⟩ := HX5.out.four
          obtain ⟨z0, z1, z2, z3, y0, y1, y2, y3⟩ := HO5.out.four
          by_cases g : q = 0
          · subst g
            have HE := Lib.hid (show clsO s (a : Int) = none by rw [HE0.out]; exact if_pos (card_zero HFY.out hq))
            clear HE0 hq
            go_wp2
            rw [set4_fold]
            have hF := HO5.out.put4 (u0 := .int .u64 0) (u1 := .int .u64 0) (u2 := .int .u64 0) (u3 := .int .u64 0)
            have hB := below_put4 HB5.out (Nat.le_refl _) (.int .u64 0) (.int .u64 0) (.int .u64 0) (.int .u64 0)
            clear z0 z1 z2 z3 y0 y1 y2 y3
            obtain ⟨z0, z1, z2, z3, -⟩ := hF.four
            refine bodyPost_ret (by simp [results, Try.results24, go_sem, z0, z1, z2, z3]; rfl) rfl ?_
            exact ⟨by rw [HE.out]; rfl, hB⟩
          · have g2 : ((q : Int) == 0) = false := beq_eq_false_iff_ne.2 (by omega)
            have HE := Lib.hid (show clsO s (a : Int) = some (((notW X0), (notW X1), (notW X2), (notW X3)), k + 1) by rw [HE0.out]; exact if_neg (fun e => g (hq.symm.trans (card_none e))))
            clear HE0 hq
            go_wp2
            rw [set4_fold]
            have hF := HO5.out.put4 (u0 := .int .u64 (notW X0 : Int)) (u1 := .int .u64 (notW X1 : Int)) (u2 := .int .u64 (notW X2 : Int)) (u3 := .int .u64 (notW X3 : Int))
            have hB := below_put4 HB5.out (Nat.le_refl _) (.int .u64 (notW X0 : Int)) (.int .u64 (notW X1 : Int)) (.int .u64 (notW X2 : Int)) (.int .u64 (notW X3 : Int))
            clear z0 z1 z2 z3 y0 y1 y2 y3
            obtain ⟨z0, z1, z2, z3, -⟩ := hF.four
            refine bodyPost_ret (by simp [results, Try.results24, go_sem, z0, z1, z2, z3]; rfl) rfl ?_
            exact ⟨by rw [HE.out]; rfl, hB⟩
        · have HR := Lib.hid (fun W => row_any s hs k (by omega) W)
          cases hq : rowO s k with
          | none =>
            have HE := Lib.hid (show clsO s (a : Int) = none by rw [HF2.out, ← HT.out.1, if_pos rfl, rwsF_no hq]; rfl)
            rw [hq] at HR
            simp only [rowT] at HR
            clear hq HT HF2
            go_wp2_with fail
            refine (HR.out _).mono ?_
            rintro e w2 ⟨he, hb2⟩
            subst he
            have HO2 := Lib.hid (HO.out.under hb2 HO.out.lt)
            have HB2 := Lib.hid (keepb HB.out hb2)
            have hlt2 := HO2.out.lt
            clear hb2 HO HX HB HR
            obtain ⟨z0, z1, z2, z3, y0, y1, y2, y3⟩ := HO2.out.four
            go_wp2
            rw [set4_fold]
            have hF := (HO2.out.put4 (u0 := .int .u64 0) (u1 := .int .u64 0) (u2 := .int .u64 0) (u3 := .int .u64 0)).on_alloc (.cells #[.int .u64 0, .int .u64 0, .int .u64 0, .int .u64 0] 25)
            have hB0 := below_put4 HB2.out (Nat.le_refl _) (.int .u64 0) (.int .u64 0) (.int .u64 0) (.int .u64 0)
            have hB := hB0.alloc hB0.size (.cells #[.int .u64 0, .int .u64 0, .int .u64 0, .int .u64 0] 25)
            clear z0 z1 z2 z3 y0 y1 y2 y3
            obtain ⟨z0, z1, z2, z3, -⟩ := hF.four
            refine bodyPost_ret (by simp [results, Try.results24, go_sem, z0, z1, z2, z3]; rfl) rfl ?_
            exact ⟨by rw [HE.out]; rfl, hB⟩
          | some p =>
            obtain ⟨⟨lo, hi⟩, m⟩ := p
            have hbd := rowO_bd hq
            obtain ⟨bd, hd⟩ : ∃ bd, standB s (m : Int) 93 = bd := ⟨_, rfl⟩
            have HT2 := Lib.hid (show (if (!bd) = true then rwsF s (f - 1) m (orR (X0, X1, X2, X3) lo hi) else some (orR (X0, X1, X2, X3) lo hi, m)) = o ∧ s.size < (f - 1) + m ∧ fits (orR (X0, X1, X2, X3) lo hi) from
              ⟨by rw [← HT.out.1, if_pos rfl, rwsF_go HT.out.2.1 hq, hd]; cases bd <;> rfl, by have := HT.out.2.1; omega, orR_fits HT.out.2.2 lo hi⟩)
            have HS := Lib.hid (fun W => stands_any s (m : Int) 93 W)
            have HOR := Lib.hid (fun W => or_any X0 X1 X2 X3 (rowW 0 lo (hi + 1)) (rowW 1 lo (hi + 1)) (rowW 2 lo (hi + 1)) (rowW 3 lo (hi + 1)) HT.out.2.2.1 HT.out.2.2.2.1 HT.out.2.2.2.2.1 HT.out.2.2.2.2.2 (rowW_lt ..) (rowW_lt ..) (rowW_lt ..) (rowW_lt ..) W)
            rw [hd] at HS
            rw [hq] at HR
            simp only [rowT] at HR
            obtain ⟨q1, q2, q3, -, -⟩ := hbd
            clear hq HT HF2 hd
            go_wp2_with fail
            refine (HR.out _).mono ?_
            rintro e w2 ⟨he, hb2⟩
            subst he
            have HO2 := Lib.hid (HO.out.under hb2 HO.out.lt)
            have HX2 := Lib.hid (HX.out.under hb2 HX.out.lt)
            have HB2 := Lib.hid (keepb HB.out hb2)
            have hlt2 := HX2.out.lt
            have HOE := Lib.hid (HO2.out.on_alloc (.cells #[.int .u64 (rowW 0 lo (hi + 1) : Int), .int .u64 (rowW 1 lo (hi + 1) : Int), .int .u64 (rowW 2 lo (hi + 1) : Int), .int .u64 (rowW 3 lo (hi + 1) : Int)] 25))
            have HXE := Lib.hid (HX2.out.on_alloc (.cells #[.int .u64 (rowW 0 lo (hi + 1) : Int), .int .u64 (rowW 1 lo (hi + 1) : Int), .int .u64 (rowW 2 lo (hi + 1) : Int), .int .u64 (rowW 3 lo (hi + 1) : Int)] 25))
            have HBE := Lib.hid (HB2.out.alloc HB2.out.size (.cells #[.int .u64 (rowW 0 lo (hi + 1) : Int), .int .u64 (rowW 1 lo (hi + 1) : Int), .int .u64 (rowW 2 lo (hi + 1) : Int), .int .u64 (rowW 3 lo (hi + 1) : Int)] 25))
            obtain ⟨x0, x1, x2, x3, v0, v1, v2, v3⟩ := HX2.out.four
            clear hb2 HO HX HB HR HO2 HX2 HB2
            go_wp2_with fail
            refine (HOR.out _).mono ?_
            rintro e w3 ⟨he, hb3⟩
            subst he
            have HO3 := Lib.hid (HOE.out.under hb3 HOE.out.lt)
            have HX3 := Lib.hid (HXE.out.under hb3 HXE.out.lt)
            have HB3 := Lib.hid (keepb HBE.out hb3)
            clear hb3 HOE HXE HBE HOR x0 x1 x2 x3 v0 v1 v2 v3
            obtain ⟨x0, x1, x2, x3, v0, v1, v2, v3⟩ := HX3.out.four
            go_wp2_with fail
            refine (HS.out _).mono ?_
            rintro e wx ⟨rfl, rfl⟩
            go_wp2
            go_roundw
            case rel => exact ⟨m, f - 1, _, _, _, _, !bd, rfl, rfl, by omega, HT2, Lib.hid (HO3.out.off4 (by omega) _ _ _ _), Lib.hid (HX3.out.put4), Lib.hid (below_put4 HB3.out (by omega) _ _ _ _)⟩
            case measure => simp [intOf]; omega
end Go.Proofs.Ytinkgidncdjapab
