/- The token that comes: the walk of the reference's Next. -/
import Derived.Test.YtonknapfndaalaaGk
import Derived.Test.YtonknapfndaalaaQuoteY
import Derived.BigRegion
import Derived.Deep.QuietTactic
namespace Go.Proofs.Ytonknapfndaalaa
set_option linter.unusedVariables false
set_option maxRecDepth 1000000
open Go.RowKit
theorem ext_size {s : ByteArray} {p n : Nat} (h : p + n ≤ s.size) : (s.extract p (p + n)).size = n := by rw [ByteArray.size_extract]; omega
set_option maxHeartbeats 3200000 in
set_option maxRecDepth 100000 in
theorem rnext_any (s : ByteArray) (hs : s.size ≤ 1000000) (i : Int) (hi : i ≤ 9223372036854775807) (w : World) :
  Calls Try.prog 25 #[.string s, .int .i64 i] w fun e w' => e = .returned (nextT s i.toNat) ∧ Below w.heap.size w w' := by
 have HE1 := Lib.hid (fun p (h : skO s i.toNat = p) => nextT_end h)
 have HI1 := Lib.hid (fun p (h : skO s i.toNat = p) => nextT_in h)
 obtain ⟨v, hv⟩ : ∃ v, nextT s i.toNat = v := ⟨_, rfl⟩
 rw [hv] at HE1 HI1 ⊢
 clear hv
 have HS : Hid (∀ W : World, Calls Try.prog 39 #[.string s, .int .i64 (max i 0)] W fun e w' => e = .returned (.int .i64 (skO s i.toNat : Int)) ∧ w' = W) := Lib.hid fun W => by
  have h := rskip_any s hs i.toNat (by omega) W
  rw [show ((i.toNat : Nat) : Int) = max i 0 by omega] at h; exact h
 obtain ⟨p, hp⟩ : ∃ p, skO s i.toNat = p := ⟨_, rfl⟩
 rw [hp] at HS
 have HE2 := Lib.hid (HE1.out p hp)
 have HI2 := Lib.hid (HI1.out p hp)
 clear HE1 HI1 hp
 by_cases h1 : (s.size : Int) ≤ p
 ·
  have HE := Lib.hid (HE2.out (by omega))
  have HF0 := Lib.hid ((Own.fresh w 48 [.int .i64 0, .string ⟨#[]⟩, .int .u64 0, .int .u64 0, .int .u64 0, .int .u64 0, .int .i64 (s.size : Int)]).on_alloc (.cells #[.int .i64 0, .string ⟨#[]⟩, .int .u64 0, .int .u64 0, .int .u64 0, .int .u64 0, .int .i64 (p : Int)] 48))
  have HB0 := Lib.hid (((Below.refl w.heap.size w).alloc (Nat.le_refl _) (.cells #[.int .i64 0, .string ⟨#[]⟩, .int .u64 0, .int .u64 0, .int .u64 0, .int .u64 0, .int .i64 (s.size : Int)] 48)).alloc (by simp) (.cells #[.int .i64 0, .string ⟨#[]⟩, .int .u64 0, .int .u64 0, .int .u64 0, .int .u64 0, .int .i64 (p : Int)] 48))
  clear HE2 HI2
  go_enter Try.func25, Try.ntmps25
  go_wp2_with fail
  refine (HS.out _).mono ?_
  rintro e w1 ⟨rfl, rfl⟩
  go_wp2
  obtain ⟨z0, z1, z2, z3, z4, z5, z6⟩ := HF0.out.seven
  refine bodyPost_ret (by simp [results, Try.results25, go_sem, z0, z1, z2, z3, z4, z5, z6]; rfl) rfl ?_
  exact ⟨by rw [HE.out]; rfl, HB0.out⟩
 ·
  have hp : p < s.size := by omega
  obtain ⟨c, hc⟩ : ∃ c : Int, (s[p].toNat : Int) = c := ⟨_, rfl⟩
  have hbc : byt s p = c := by rw [byt_get hp, hc]
  have HK := Lib.hid (show tkO s p = if letB c = true then (if nmO s p ≤ 12 then some (⟨1, s.extract p (p + nmO s p), set0, p⟩, p + nmO s p) else none)
   else if c = 34 then txtK p (txtO s (p : Int)) else if c = 91 then clsK p (clsO s (p : Int))
   else if sgO s p = 0 then none else some (⟨4, s.extract p (p + sgO s p), set0, p⟩, p + sgO s p) by unfold tkO; rw [hbc])
  have HE0 := Lib.hid (HI2.out (by omega))
  obtain ⟨o, ho⟩ : ∃ o, tkO s p = o := ⟨_, rfl⟩
  rw [ho] at HK HE0
  have hps : (p : Int) ≤ s.size := by omega
  have HL := Lib.hid (fun W => rlet_any c W)
  obtain ⟨bl, hbl⟩ : ∃ bl, letB c = bl := ⟨_, rfl⟩
  have HBL := Lib.hid hbl
  rw [hbl] at HL HK
  have HO := Lib.hid ((Own.fresh w 48 [.int .i64 0, .string ⟨#[]⟩, .int .u64 0, .int .u64 0, .int .u64 0, .int .u64 0, .int .i64 0]).on_alloc (.cells #[.int .i64 0, .string ⟨#[]⟩, .int .u64 0, .int .u64 0, .int .u64 0, .int .u64 0, .int .i64 (p : Int)] 48))
  have HX := Lib.hid (Own.fresh' (w := w.alloc (.cells #[.int .i64 0, .string ⟨#[]⟩, .int .u64 0, .int .u64 0, .int .u64 0, .int .u64 0, .int .i64 0] 48)) (g := w.heap.size + 1) (by simp) 48 [.int .i64 0, .string ⟨#[]⟩, .int .u64 0, .int .u64 0, .int .u64 0, .int .u64 0, .int .i64 (p : Int)])
  have HB := Lib.hid (((Below.refl w.heap.size w).alloc (Nat.le_refl _) (.cells #[.int .i64 0, .string ⟨#[]⟩, .int .u64 0, .int .u64 0, .int .u64 0, .int .u64 0, .int .i64 0] 48)).alloc (by simp) (.cells #[.int .i64 0, .string ⟨#[]⟩, .int .u64 0, .int .u64 0, .int .u64 0, .int .u64 0, .int .i64 (p : Int)] 48))
  have hne : w.heap.size < w.heap.size + 1 := by omega
  clear HE2 HI2 ho hbl
  cases bl
  ·
   by_cases h34 : c = 34
   ·
    subst h34
    have HT := Lib.hid (fun W => rreadtext_any s hs (p : Int) W)
    cases hq : txtO s (p : Int) with
    | none =>
     have HE := Lib.hid (show v = nextV p none by rw [HE0.out, HK.out, hq]; rfl)
     rw [hq] at HT
     simp only [txtT] at HT
     clear HK HE0 hq
     go_enter Try.func25, Try.ntmps25
     go_wp2_with fail
     refine (HS.out _).mono ?_
     rintro e w1 ⟨rfl, rfl⟩
     go_wp2_with fail
     generalize World.alloc (World.alloc _ _) _ = W at *
     generalize w.heap.size + 1 = g2 at *
     refine (HL.out _).mono ?_
     rintro e w1 ⟨rfl, rfl⟩
     obtain ⟨a0, -, -, -, -, -, -, b0, -⟩ := HX.out.seven2
     have HO1 := Lib.hid (HO.out.off (p := ⟨g2, 0, none⟩) (by show w.heap.size ≠ g2; omega) (.int .i64 2))
     have HX1 := Lib.hid (HX.out.put 0 (.int .i64 2))
     have HB1 := Lib.hid (HB.out.setCell (p := ⟨g2, 0, none⟩) (by show w.heap.size ≤ g2; omega) (.int .i64 2))
     clear HO HX HB
     go_wp2_with fail
     clear a0 b0
     refine (HT.out _).mono ?_
     rintro e w2 ⟨rfl, hb2⟩
     have HO2 := Lib.hid (HO1.out.under hb2 HO1.out.lt)
     have HX2 := Lib.hid (HX1.out.under hb2 HX1.out.lt)
     have HB2 := Lib.hid (keepb HB1.out hb2)
     clear hb2 HO1 HX1 HB1
     obtain ⟨-, a1, -, -, -, -, -, -, b1, -⟩ := HX2.out.seven2
     go_upto_region 18 with fail
     have HO3 := Lib.hid (HO2.out.off (p := ⟨g2, 1, none⟩) (by show w.heap.size ≠ g2; omega) (.string ⟨#[]⟩))
     have HX3 := Lib.hid (HX2.out.put 1 (.string ⟨#[]⟩))
     have HB3 := Lib.hid (HB2.out.setCell (p := ⟨g2, 1, none⟩) (by show w.heap.size ≤ g2; omega) (.string ⟨#[]⟩))
     clear HO2 HX2 HB2
     generalize (World.setCell _ _ _) = V at *
     clear a1 b1
     obtain ⟨z0, z1, z2, z3, z4, z5, z6, y0, y1, y2, y3, y4, y5, y6⟩ := HO3.out.seven2
     go_wp2
     rw [set7t_fold]
     have HF := HO3.out.put7 (u0 := .int .i64 0) (u1 := .string ⟨#[]⟩) (u2 := .int .u64 0) (u3 := .int .u64 0) (u4 := .int .u64 0) (u5 := .int .u64 0) (u6 := .int .i64 (p : Int))
     have HB := below_put7 HB3.out (Nat.le_refl _) (.int .i64 0) (.string ⟨#[]⟩) (.int .u64 0) (.int .u64 0) (.int .u64 0) (.int .u64 0) (.int .i64 (p : Int))
     clear z0 z1 z2 z3 z4 z5 z6 y0 y1 y2 y3 y4 y5 y6
     obtain ⟨z0, z1, z2, z3, z4, z5, z6⟩ := HF.seven
     refine bodyPost_ret (by simp [results, Try.results25, go_sem, z0, z1, z2, z3, z4, z5, z6]; rfl) rfl ?_
     exact ⟨by rw [HE.out]; rfl, HB⟩
    | some q =>
     obtain ⟨u, m⟩ := q
     have HE := Lib.hid (show v = nextV p (some (⟨2, u, set0, p⟩, m)) by rw [HE0.out, HK.out, hq]; rfl)
     rw [hq] at HT
     simp only [txtT] at HT
     clear HK HE0 hq
     go_enter Try.func25, Try.ntmps25
     go_wp2_with fail
     refine (HS.out _).mono ?_
     rintro e w1 ⟨rfl, rfl⟩
     go_wp2_with fail
     generalize World.alloc (World.alloc _ _) _ = W at *
     generalize w.heap.size + 1 = g2 at *
     refine (HL.out _).mono ?_
     rintro e w1 ⟨rfl, rfl⟩
     obtain ⟨a0, -, -, -, -, -, -, b0, -⟩ := HX.out.seven2
     have HO1 := Lib.hid (HO.out.off (p := ⟨g2, 0, none⟩) (by show w.heap.size ≠ g2; omega) (.int .i64 2))
     have HX1 := Lib.hid (HX.out.put 0 (.int .i64 2))
     have HB1 := Lib.hid (HB.out.setCell (p := ⟨g2, 0, none⟩) (by show w.heap.size ≤ g2; omega) (.int .i64 2))
     clear HO HX HB
     go_wp2_with fail
     clear a0 b0
     refine (HT.out _).mono ?_
     rintro e w2 ⟨rfl, hb2⟩
     have HO2 := Lib.hid (HO1.out.under hb2 HO1.out.lt)
     have HX2 := Lib.hid (HX1.out.under hb2 HX1.out.lt)
     have HB2 := Lib.hid (keepb HB1.out hb2)
     clear hb2 HO1 HX1 HB1
     obtain ⟨-, a1, -, -, -, -, -, -, b1, -⟩ := HX2.out.seven2
     go_upto_region 18 with fail
     have HO3 := Lib.hid (HO2.out.off (p := ⟨g2, 1, none⟩) (by show w.heap.size ≠ g2; omega) (.string u))
     have HX3 := Lib.hid (HX2.out.put 1 (.string u))
     have HB3 := Lib.hid (HB2.out.setCell (p := ⟨g2, 1, none⟩) (by show w.heap.size ≤ g2; omega) (.string u))
     clear HO2 HX2 HB2
     generalize (World.setCell _ _ _) = V at *
     clear a1 b1
     obtain ⟨z0, z1, z2, z3, z4, z5, z6, y0, y1, y2, y3, y4, y5, y6⟩ := HO3.out.seven2
     obtain ⟨a0, a1, a2, a3, a4, a5, a6⟩ := (show Own _ g2 48 [.int .i64 2, .string u, .int .u64 0, .int .u64 0, .int .u64 0, .int .u64 0, .int .i64 (p : Int)] from HX3.out).seven
     go_wp2
     rw [set7t_fold]
     have HF := HO3.out.put7 (u0 := .int .i64 2) (u1 := .string u) (u2 := .int .u64 0) (u3 := .int .u64 0) (u4 := .int .u64 0) (u5 := .int .u64 0) (u6 := .int .i64 (p : Int))
     have HB := below_put7 HB3.out (Nat.le_refl _) (.int .i64 2) (.string u) (.int .u64 0) (.int .u64 0) (.int .u64 0) (.int .u64 0) (.int .i64 (p : Int))
     clear z0 z1 z2 z3 z4 z5 z6 y0 y1 y2 y3 y4 y5 y6
     obtain ⟨z0, z1, z2, z3, z4, z5, z6⟩ := HF.seven
     refine bodyPost_ret (by simp [results, Try.results25, go_sem, z0, z1, z2, z3, z4, z5, z6]; rfl) rfl ?_
     exact ⟨by rw [HE.out]; rfl, HB⟩
   ·
    have e34 : (c == 34) = false := beq_eq_false_iff_ne.2 h34
    by_cases h91 : c = 91
    ·
     subst h91
     have HC := Lib.hid (fun W => rreadclass_any s hs (p : Int) W)
     cases hq : clsO s (p : Int) with
     | none =>
      have HE := Lib.hid (show v = nextV p none by rw [HE0.out, HK.out, hq]; rfl)
      rw [hq] at HC
      simp only [clsT] at HC
      clear HK HE0 hq
      go_enter Try.func25, Try.ntmps25
      go_wp2_with fail
      refine (HS.out _).mono ?_
      rintro e w1 ⟨rfl, rfl⟩
      go_wp2_with fail
      generalize World.alloc (World.alloc _ _) _ = W at *
      generalize w.heap.size + 1 = g2 at *
      refine (HL.out _).mono ?_
      rintro e w1 ⟨rfl, rfl⟩
      obtain ⟨a0, -, -, -, -, -, -, b0, -⟩ := HX.out.seven2
      have HO1 := Lib.hid (HO.out.off (p := ⟨g2, 0, none⟩) (by show w.heap.size ≠ g2; omega) (.int .i64 3))
      have HX1 := Lib.hid (HX.out.put 0 (.int .i64 3))
      have HB1 := Lib.hid (HB.out.setCell (p := ⟨g2, 0, none⟩) (by show w.heap.size ≤ g2; omega) (.int .i64 3))
      clear HO HX HB
      go_wp2_with fail
      clear a0 b0
      refine (HC.out _).mono ?_
      rintro e w2 ⟨rfl, hb2⟩
      have HO2 := Lib.hid (HO1.out.under hb2 HO1.out.lt)
      have HX2 := Lib.hid (HX1.out.under hb2 HX1.out.lt)
      have HB2 := Lib.hid (keepb HB1.out hb2)
      clear hb2 HO1 HX1 HB1
      obtain ⟨-, -, a2, a3, a4, a5, -, -, -, b2, b3, b4, b5, -⟩ := HX2.out.seven2
      go_upto_region 18 with fail
      have HO3 := Lib.hid ((((HO2.out.off (p := ⟨g2, 2, none⟩) (by show w.heap.size ≠ g2; omega) (.int .u64 0)).off (p := ⟨g2, 3, none⟩) (by show w.heap.size ≠ g2; omega) (.int .u64 0)).off (p := ⟨g2, 4, none⟩) (by show w.heap.size ≠ g2; omega) (.int .u64 0)).off (p := ⟨g2, 5, none⟩) (by show w.heap.size ≠ g2; omega) (.int .u64 0))
      have HX3 := Lib.hid ((((HX2.out.put 2 (.int .u64 0)).put 3 (.int .u64 0)).put 4 (.int .u64 0)).put 5 (.int .u64 0))
      have HB3 := Lib.hid ((((HB2.out.setCell (p := ⟨g2, 2, none⟩) (by show w.heap.size ≤ g2; omega) (.int .u64 0)).setCell (p := ⟨g2, 3, none⟩) (by show w.heap.size ≤ g2; omega) (.int .u64 0)).setCell (p := ⟨g2, 4, none⟩) (by show w.heap.size ≤ g2; omega) (.int .u64 0)).setCell (p := ⟨g2, 5, none⟩) (by show w.heap.size ≤ g2; omega) (.int .u64 0))
      clear HO2 HX2 HB2
      generalize (World.setCell (World.setCell (World.setCell (World.setCell _ _ _) _ _) _ _) _ _) = V at *
      clear a2 a3 a4 a5 b2 b3 b4 b5
      obtain ⟨z0, z1, z2, z3, z4, z5, z6, y0, y1, y2, y3, y4, y5, y6⟩ := HO3.out.seven2
      go_wp2
      rw [set7t_fold]
      have HF := HO3.out.put7 (u0 := .int .i64 0) (u1 := .string ⟨#[]⟩) (u2 := .int .u64 0) (u3 := .int .u64 0) (u4 := .int .u64 0) (u5 := .int .u64 0) (u6 := .int .i64 (p : Int))
      have HB := below_put7 HB3.out (Nat.le_refl _) (.int .i64 0) (.string ⟨#[]⟩) (.int .u64 0) (.int .u64 0) (.int .u64 0) (.int .u64 0) (.int .i64 (p : Int))
      clear z0 z1 z2 z3 z4 z5 z6 y0 y1 y2 y3 y4 y5 y6
      obtain ⟨z0, z1, z2, z3, z4, z5, z6⟩ := HF.seven
      refine bodyPost_ret (by simp [results, Try.results25, go_sem, z0, z1, z2, z3, z4, z5, z6]; rfl) rfl ?_
      exact ⟨by rw [HE.out]; rfl, HB⟩
     | some q =>
      obtain ⟨⟨x0, x1, x2, x3⟩, m⟩ := q
      have HE := Lib.hid (show v = nextV p (some (⟨3, ⟨#[]⟩, (x0, x1, x2, x3), p⟩, m)) by rw [HE0.out, HK.out, hq]; rfl)
      rw [hq] at HC
      simp only [clsT] at HC
      clear HK HE0 hq
      go_enter Try.func25, Try.ntmps25
      go_wp2_with fail
      refine (HS.out _).mono ?_
      rintro e w1 ⟨rfl, rfl⟩
      go_wp2_with fail
      generalize World.alloc (World.alloc _ _) _ = W at *
      generalize w.heap.size + 1 = g2 at *
      refine (HL.out _).mono ?_
      rintro e w1 ⟨rfl, rfl⟩
      obtain ⟨a0, -, -, -, -, -, -, b0, -⟩ := HX.out.seven2
      have HO1 := Lib.hid (HO.out.off (p := ⟨g2, 0, none⟩) (by show w.heap.size ≠ g2; omega) (.int .i64 3))
      have HX1 := Lib.hid (HX.out.put 0 (.int .i64 3))
      have HB1 := Lib.hid (HB.out.setCell (p := ⟨g2, 0, none⟩) (by show w.heap.size ≤ g2; omega) (.int .i64 3))
      clear HO HX HB
      go_wp2_with fail
      clear a0 b0
      refine (HC.out _).mono ?_
      rintro e w2 ⟨rfl, hb2⟩
      have HO2 := Lib.hid (HO1.out.under hb2 HO1.out.lt)
      have HX2 := Lib.hid (HX1.out.under hb2 HX1.out.lt)
      have HB2 := Lib.hid (keepb HB1.out hb2)
      clear hb2 HO1 HX1 HB1
      obtain ⟨-, -, a2, a3, a4, a5, -, -, -, b2, b3, b4, b5, -⟩ := HX2.out.seven2
      go_upto_region 18 with fail
      have HO3 := Lib.hid ((((HO2.out.off (p := ⟨g2, 2, none⟩) (by show w.heap.size ≠ g2; omega) (.int .u64 (x0 : Int))).off (p := ⟨g2, 3, none⟩) (by show w.heap.size ≠ g2; omega) (.int .u64 (x1 : Int))).off (p := ⟨g2, 4, none⟩) (by show w.heap.size ≠ g2; omega) (.int .u64 (x2 : Int))).off (p := ⟨g2, 5, none⟩) (by show w.heap.size ≠ g2; omega) (.int .u64 (x3 : Int)))
      have HX3 := Lib.hid ((((HX2.out.put 2 (.int .u64 (x0 : Int))).put 3 (.int .u64 (x1 : Int))).put 4 (.int .u64 (x2 : Int))).put 5 (.int .u64 (x3 : Int)))
      have HB3 := Lib.hid ((((HB2.out.setCell (p := ⟨g2, 2, none⟩) (by show w.heap.size ≤ g2; omega) (.int .u64 (x0 : Int))).setCell (p := ⟨g2, 3, none⟩) (by show w.heap.size ≤ g2; omega) (.int .u64 (x1 : Int))).setCell (p := ⟨g2, 4, none⟩) (by show w.heap.size ≤ g2; omega) (.int .u64 (x2 : Int))).setCell (p := ⟨g2, 5, none⟩) (by show w.heap.size ≤ g2; omega) (.int .u64 (x3 : Int)))
      clear HO2 HX2 HB2
      generalize (World.setCell (World.setCell (World.setCell (World.setCell _ _ _) _ _) _ _) _ _) = V at *
      clear a2 a3 a4 a5 b2 b3 b4 b5
      obtain ⟨z0, z1, z2, z3, z4, z5, z6, y0, y1, y2, y3, y4, y5, y6⟩ := HO3.out.seven2
      obtain ⟨a0, a1, a2, a3, a4, a5, a6⟩ := (show Own _ g2 48 [.int .i64 3, .string ⟨#[]⟩, .int .u64 (x0 : Int), .int .u64 (x1 : Int), .int .u64 (x2 : Int), .int .u64 (x3 : Int), .int .i64 (p : Int)] from HX3.out).seven
      go_wp2
      rw [set7t_fold]
      have HF := HO3.out.put7 (u0 := .int .i64 3) (u1 := .string ⟨#[]⟩) (u2 := .int .u64 (x0 : Int)) (u3 := .int .u64 (x1 : Int)) (u4 := .int .u64 (x2 : Int)) (u5 := .int .u64 (x3 : Int)) (u6 := .int .i64 (p : Int))
      have HB := below_put7 HB3.out (Nat.le_refl _) (.int .i64 3) (.string ⟨#[]⟩) (.int .u64 (x0 : Int)) (.int .u64 (x1 : Int)) (.int .u64 (x2 : Int)) (.int .u64 (x3 : Int)) (.int .i64 (p : Int))
      clear z0 z1 z2 z3 z4 z5 z6 y0 y1 y2 y3 y4 y5 y6
      obtain ⟨z0, z1, z2, z3, z4, z5, z6⟩ := HF.seven
      refine bodyPost_ret (by simp [results, Try.results25, go_sem, z0, z1, z2, z3, z4, z5, z6]; rfl) rfl ?_
      exact ⟨by rw [HE.out]; rfl, HB⟩
    ·
     have e91 : (c == 91) = false := beq_eq_false_iff_ne.2 h91
     have HG := Lib.hid (fun W => rsign5_any s hs p hp W)
     have hg1 := sgO_le hp
     have HK2 := Lib.hid (show o = if sgO s p = 0 then none else some (⟨4, s.extract p (p + sgO s p), set0, p⟩, p + sgO s p) by rw [HK.out, if_neg (by decide), if_neg h34, if_neg h91])
     generalize sgO s p = n at *
     have hz := ext_size hg1
     have hx0 := ext_none s p
     clear HK
     by_cases h0 : n = 0
     ·
      subst h0
      rw [hx0] at HG
      have HE := Lib.hid (show v = nextV p none by rw [HE0.out, HK2.out]; rfl)
      clear HK2 HE0 hz hx0
      go_enter Try.func25, Try.ntmps25
      go_wp2_with fail
      refine (HS.out _).mono ?_
      rintro e w1 ⟨rfl, rfl⟩
      go_wp2_with fail
      generalize World.alloc (World.alloc _ _) _ = W at *
      generalize w.heap.size + 1 = g2 at *
      refine (HL.out _).mono ?_
      rintro e w1 ⟨rfl, rfl⟩
      obtain ⟨a0, a1, -, -, -, -, -, b0, b1, -⟩ := HX.out.seven2
      go_wp2_with fail
      refine (HG.out _).mono ?_
      rintro e w1 ⟨rfl, rfl⟩
      go_upto_region 7 with fail
      have HO1 := Lib.hid ((HO.out.off (p := ⟨g2, 0, none⟩) (by show w.heap.size ≠ g2; omega) (.int .i64 4)).off (p := ⟨g2, 1, none⟩) (by show w.heap.size ≠ g2; omega) (.string ⟨#[]⟩))
      have HX1 := Lib.hid ((HX.out.put 0 (.int .i64 4)).put 1 (.string ⟨#[]⟩))
      have HB1 := Lib.hid ((HB.out.setCell (p := ⟨g2, 0, none⟩) (by show w.heap.size ≤ g2; omega) (.int .i64 4)).setCell (p := ⟨g2, 1, none⟩) (by show w.heap.size ≤ g2; omega) (.string ⟨#[]⟩))
      clear HO HX HB
      generalize (World.setCell (World.setCell _ _ _) _ _) = V at *
      clear a0 a1 b0 b1
      obtain ⟨-, a1, -, -, -, -, -⟩ := HX1.out.seven
      go_quiet (fail)
      clear a1
      have HO2 := Lib.hid (HO1.out.on_drewN nq)
      have HX2 := Lib.hid (HX1.out.on_drewN nq)
      have HB2 := Lib.hid (below_drewN HB1.out nq)
      clear HO1 HX1 HB1
      generalize World.drewN _ _ = V2 at *
      obtain ⟨z0, z1, z2, z3, z4, z5, z6, y0, y1, y2, y3, y4, y5, y6⟩ := HO2.out.seven2
      go_wp2
      rw [set7t_fold]
      have HF := HO2.out.put7 (u0 := .int .i64 0) (u1 := .string ⟨#[]⟩) (u2 := .int .u64 0) (u3 := .int .u64 0) (u4 := .int .u64 0) (u5 := .int .u64 0) (u6 := .int .i64 (p : Int))
      have HB := below_put7 HB2.out (Nat.le_refl _) (.int .i64 0) (.string ⟨#[]⟩) (.int .u64 0) (.int .u64 0) (.int .u64 0) (.int .u64 0) (.int .i64 (p : Int))
      clear z0 z1 z2 z3 z4 z5 z6 y0 y1 y2 y3 y4 y5 y6
      obtain ⟨z0, z1, z2, z3, z4, z5, z6⟩ := HF.seven
      refine bodyPost_ret (by simp [results, Try.results25, go_sem, z0, z1, z2, z3, z4, z5, z6]; rfl) rfl ?_
      exact ⟨by rw [HE.out]; rfl, HB⟩
     ·
      have HE := Lib.hid (show v = nextV p (some (⟨4, s.extract p (p + n), set0, p⟩, p + n)) by rw [HE0.out, HK2.out, if_neg h0])
      have hg3 : (p : Int) + n ≤ s.size := by omega
      generalize s.extract p (p + n) = t at *
      have hz2 : (t.size : Int) = n := by omega
      have hz3 : t.toList.isEmpty = false := by rw [empty_size]; exact decide_eq_false (by omega)
      clear HK2 HE0 hz hx0
      go_enter Try.func25, Try.ntmps25
      go_wp2_with fail
      refine (HS.out _).mono ?_
      rintro e w1 ⟨rfl, rfl⟩
      go_wp2_with fail
      generalize World.alloc (World.alloc _ _) _ = W at *
      generalize w.heap.size + 1 = g2 at *
      refine (HL.out _).mono ?_
      rintro e w1 ⟨rfl, rfl⟩
      obtain ⟨a0, a1, -, -, -, -, -, b0, b1, -⟩ := HX.out.seven2
      go_wp2_with fail
      refine (HG.out _).mono ?_
      rintro e w1 ⟨rfl, rfl⟩
      go_upto_region 7 with fail
      have HO1 := Lib.hid ((HO.out.off (p := ⟨g2, 0, none⟩) (by show w.heap.size ≠ g2; omega) (.int .i64 4)).off (p := ⟨g2, 1, none⟩) (by show w.heap.size ≠ g2; omega) (.string t))
      have HX1 := Lib.hid ((HX.out.put 0 (.int .i64 4)).put 1 (.string t))
      have HB1 := Lib.hid ((HB.out.setCell (p := ⟨g2, 0, none⟩) (by show w.heap.size ≤ g2; omega) (.int .i64 4)).setCell (p := ⟨g2, 1, none⟩) (by show w.heap.size ≤ g2; omega) (.string t))
      clear HO HX HB
      generalize (World.setCell (World.setCell _ _ _) _ _) = V at *
      clear a0 a1 b0 b1
      obtain ⟨-, a1, -, -, -, -, -⟩ := HX1.out.seven
      go_quiet (fail)
      clear a1
      have HO2 := Lib.hid (HO1.out.on_drewN nq)
      have HX2 := Lib.hid (HX1.out.on_drewN nq)
      have HB2 := Lib.hid (below_drewN HB1.out nq)
      clear HO1 HX1 HB1
      generalize World.drewN _ _ = V2 at *
      obtain ⟨z0, z1, z2, z3, z4, z5, z6, y0, y1, y2, y3, y4, y5, y6⟩ := HO2.out.seven2
      obtain ⟨a0, a1, a2, a3, a4, a5, a6⟩ := (show Own _ g2 48 [.int .i64 4, .string t, .int .u64 0, .int .u64 0, .int .u64 0, .int .u64 0, .int .i64 (p : Int)] from HX2.out).seven
      go_wp2
      rw [set7t_fold]
      have HF := HO2.out.put7 (u0 := .int .i64 4) (u1 := .string t) (u2 := .int .u64 0) (u3 := .int .u64 0) (u4 := .int .u64 0) (u5 := .int .u64 0) (u6 := .int .i64 (p : Int))
      have HB := below_put7 HB2.out (Nat.le_refl _) (.int .i64 4) (.string t) (.int .u64 0) (.int .u64 0) (.int .u64 0) (.int .u64 0) (.int .i64 (p : Int))
      clear z0 z1 z2 z3 z4 z5 z6 y0 y1 y2 y3 y4 y5 y6
      obtain ⟨z0, z1, z2, z3, z4, z5, z6⟩ := HF.seven
      refine bodyPost_ret (by simp [results, Try.results25, go_sem, z0, z1, z2, z3, z4, z5, z6]; rfl) rfl ?_
      exact ⟨by rw [HE.out]; rfl, HB⟩
  ·
   have HNM := Lib.hid (fun n h1 h2 h3 => (runB_is (P := innB) (s := s) n s.size p h1 h2 h3 : nmO s p = n))
   clear HBL
   go_enter Try.func25, Try.ntmps25
   go_wp2_with fail
   refine (HS.out _).mono ?_
   rintro e w1 ⟨rfl, rfl⟩
   go_wp2_with fail
   generalize World.alloc (World.alloc _ _) _ = W at *
   generalize w.heap.size + 1 = g2 at *
   refine (HL.out _).mono ?_
   rintro e w1 ⟨rfl, rfl⟩
   go_wp2
   go_loop [8] (fun i => ∃ n : Nat, i = .int .i64 ((p + n : Nat) : Int) ∧ p + n ≤ s.size ∧ Hid (∀ t, t < n → p + t < s.size ∧ innB (byt s (p + t)) = true)) (fun i => s.size - (intOf i).toNat)
   case atStart => exact ⟨0, rfl, by omega, Lib.hid (fun t h => by omega)⟩
   case round =>
    obtain ⟨n, rfl, hn, HA⟩ := hrel
    by_cases hlt2 : ((p + n : Nat) : Int) < s.size
    ·
     have hj1 : p + n < s.size := by omega
     obtain ⟨d, hd⟩ : ∃ d : Int, (s[p + n].toNat : Int) = d := ⟨_, rfl⟩
     have hbd : byt s (p + n) = d := by rw [byt_get hj1, hd]
     have HI := Lib.hid (fun W => inn_any d W)
     obtain ⟨b, hb⟩ : ∃ b, innB d = b := ⟨_, rfl⟩
     rw [hb] at HI
     cases b
     ·
      have HN := Lib.hid (HNM.out n (by omega) HA.out (fun _ => by rintro ⟨-, g⟩; rw [hbd, hb] at g; cases g))
      clear HA HNM hbd hb
      go_wp2_with fail
      refine (HI.out _).mono ?_
      rintro e w1 ⟨rfl, rfl⟩
      have HK2 := Lib.hid (show o = if n ≤ 12 then some (⟨1, s.extract p (p + n), set0, p⟩, p + n) else none by rw [HK.out, (show nmO s p = n from HN.out)]; rfl)
      have e0 : (p : Int) + (n : Int) - (p : Int) = n := by omega
      have hpn : (p : Int) + (n : Int) ≤ s.size := by omega
      clear HK HN
      obtain ⟨a0, a1, -, -, -, -, -, b0, b1, -⟩ := HX.out.seven2
      have hxl := HX.out.lt
      by_cases h12 : (n : Int) ≤ 12
      ·
       have HE := Lib.hid (show v = nextV p (some (⟨1, s.extract p (p + n), set0, p⟩, p + n)) by rw [HE0.out, HK2.out, if_pos (by omega)])
       clear HK2 HE0
       go_upto_region 11 with fail
       go_region
       go_upto_region 18 with fail
       have HO1 := Lib.hid ((HO.out.off (p := ⟨g2, 0, none⟩) (by show w.heap.size ≠ g2; omega) (.int .i64 1)).off (p := ⟨g2, 1, none⟩) (by show w.heap.size ≠ g2; omega) (.string (s.extract p (p + n))))
       have HX1 := Lib.hid ((HX.out.put 0 (.int .i64 1)).put 1 (.string (s.extract p (p + n))))
       have HB1 := Lib.hid ((HB.out.setCell (p := ⟨g2, 0, none⟩) (by show w.heap.size ≤ g2; omega) (.int .i64 1)).setCell (p := ⟨g2, 1, none⟩) (by show w.heap.size ≤ g2; omega) (.string (s.extract p (p + n))))
       clear HO HX HB
       have HO1 := Lib.hid HO1.out.on_drew
       have HX1 := Lib.hid HX1.out.on_drew
       have HB1 := Lib.hid HB1.out.drew
       generalize World.drew _ = V at *
       clear a0 a1 b0 b1
       obtain ⟨z0, z1, z2, z3, z4, z5, z6, y0, y1, y2, y3, y4, y5, y6⟩ := HO1.out.seven2
       obtain ⟨a0, a1, a2, a3, a4, a5, a6⟩ := (show Own _ g2 48 [.int .i64 1, .string (s.extract p (p + n)), .int .u64 0, .int .u64 0, .int .u64 0, .int .u64 0, .int .i64 (p : Int)] from HX1.out).seven
       go_wp2
       rw [set7t_fold]
       have HF := HO1.out.put7 (u0 := .int .i64 1) (u1 := .string (s.extract p (p + n))) (u2 := .int .u64 0) (u3 := .int .u64 0) (u4 := .int .u64 0) (u5 := .int .u64 0) (u6 := .int .i64 (p : Int))
       have HB := below_put7 HB1.out (Nat.le_refl _) (.int .i64 1) (.string (s.extract p (p + n))) (.int .u64 0) (.int .u64 0) (.int .u64 0) (.int .u64 0) (.int .i64 (p : Int))
       clear z0 z1 z2 z3 z4 z5 z6 y0 y1 y2 y3 y4 y5 y6
       obtain ⟨z0, z1, z2, z3, z4, z5, z6⟩ := HF.seven
       refine bodyPost_ret (by simp [results, Try.results25, go_sem, z0, z1, z2, z3, z4, z5, z6]; rfl) rfl ?_
       exact ⟨by rw [HE.out]; rfl, HB⟩
      ·
       have HE := Lib.hid (show v = nextV p none by rw [HE0.out, HK2.out, if_neg (by omega)])
       have h13 : decide ((n : Int) ≤ 12) = false := decide_eq_false h12
       clear HK2 HE0
       go_upto_region 11 with fail
       go_region
       go_upto_region 18 with fail
       have HO1 := Lib.hid ((HO.out.off (p := ⟨g2, 0, none⟩) (by show w.heap.size ≠ g2; omega) (.int .i64 1)).off (p := ⟨g2, 1, none⟩) (by show w.heap.size ≠ g2; omega) (.string (s.extract p (p + n))))
       have HX1 := Lib.hid ((HX.out.put 0 (.int .i64 1)).put 1 (.string (s.extract p (p + n))))
       have HB1 := Lib.hid ((HB.out.setCell (p := ⟨g2, 0, none⟩) (by show w.heap.size ≤ g2; omega) (.int .i64 1)).setCell (p := ⟨g2, 1, none⟩) (by show w.heap.size ≤ g2; omega) (.string (s.extract p (p + n))))
       clear HO HX HB
       have HO1 := Lib.hid HO1.out.on_drew
       have HX1 := Lib.hid HX1.out.on_drew
       have HB1 := Lib.hid HB1.out.drew
       generalize World.drew _ = V at *
       clear a0 a1 b0 b1
       obtain ⟨z0, z1, z2, z3, z4, z5, z6, y0, y1, y2, y3, y4, y5, y6⟩ := HO1.out.seven2
       go_wp2
       rw [set7t_fold]
       have HF := HO1.out.put7 (u0 := .int .i64 0) (u1 := .string ⟨#[]⟩) (u2 := .int .u64 0) (u3 := .int .u64 0) (u4 := .int .u64 0) (u5 := .int .u64 0) (u6 := .int .i64 (p : Int))
       have HB := below_put7 HB1.out (Nat.le_refl _) (.int .i64 0) (.string ⟨#[]⟩) (.int .u64 0) (.int .u64 0) (.int .u64 0) (.int .u64 0) (.int .i64 (p : Int))
       clear z0 z1 z2 z3 z4 z5 z6 y0 y1 y2 y3 y4 y5 y6
       obtain ⟨z0, z1, z2, z3, z4, z5, z6⟩ := HF.seven
       refine bodyPost_ret (by simp [results, Try.results25, go_sem, z0, z1, z2, z3, z4, z5, z6]; rfl) rfl ?_
       exact ⟨by rw [HE.out]; rfl, HB⟩
     ·
      have HA1 : Hid (∀ t, t < n + 1 → p + t < s.size ∧ innB (byt s (p + t)) = true) := Lib.hid (fun t ht => by
       by_cases e : t = n
       ·
        rw [e, hbd]; exact ⟨hj1, hb⟩
       ·
        exact HA.out t (by omega))
      clear HA hbd hb
      go_wp2_with fail
      refine (HI.out _).mono ?_
      rintro e w1 ⟨rfl, rfl⟩
      go_wp2
      go_round
      case rel => exact ⟨n + 1, by go_num, by omega, HA1⟩
      case measure => simp [intOf]; omega
    ·
     have HN := Lib.hid (HNM.out n (by omega) HA.out (fun _ => by rintro ⟨g, -⟩; omega))
     have hlt3 : decide (((p + n : Nat) : Int) < (s.size : Int)) = false := decide_eq_false hlt2
     clear HA HNM
     have HK2 := Lib.hid (show o = if n ≤ 12 then some (⟨1, s.extract p (p + n), set0, p⟩, p + n) else none by rw [HK.out, (show nmO s p = n from HN.out)]; rfl)
     have e0 : (p : Int) + (n : Int) - (p : Int) = n := by omega
     have hpn : (p : Int) + (n : Int) ≤ s.size := by omega
     clear HK HN
     obtain ⟨a0, a1, -, -, -, -, -, b0, b1, -⟩ := HX.out.seven2
     have hxl := HX.out.lt
     by_cases h12 : (n : Int) ≤ 12
     ·
      have HE := Lib.hid (show v = nextV p (some (⟨1, s.extract p (p + n), set0, p⟩, p + n)) by rw [HE0.out, HK2.out, if_pos (by omega)])
      clear HK2 HE0
      go_upto_region 11 with fail
      go_region
      go_upto_region 18 with fail
      have HO1 := Lib.hid ((HO.out.off (p := ⟨g2, 0, none⟩) (by show w.heap.size ≠ g2; omega) (.int .i64 1)).off (p := ⟨g2, 1, none⟩) (by show w.heap.size ≠ g2; omega) (.string (s.extract p (p + n))))
      have HX1 := Lib.hid ((HX.out.put 0 (.int .i64 1)).put 1 (.string (s.extract p (p + n))))
      have HB1 := Lib.hid ((HB.out.setCell (p := ⟨g2, 0, none⟩) (by show w.heap.size ≤ g2; omega) (.int .i64 1)).setCell (p := ⟨g2, 1, none⟩) (by show w.heap.size ≤ g2; omega) (.string (s.extract p (p + n))))
      clear HO HX HB
      have HO1 := Lib.hid HO1.out.on_drew
      have HX1 := Lib.hid HX1.out.on_drew
      have HB1 := Lib.hid HB1.out.drew
      generalize World.drew _ = V at *
      clear a0 a1 b0 b1
      obtain ⟨z0, z1, z2, z3, z4, z5, z6, y0, y1, y2, y3, y4, y5, y6⟩ := HO1.out.seven2
      obtain ⟨a0, a1, a2, a3, a4, a5, a6⟩ := (show Own _ g2 48 [.int .i64 1, .string (s.extract p (p + n)), .int .u64 0, .int .u64 0, .int .u64 0, .int .u64 0, .int .i64 (p : Int)] from HX1.out).seven
      go_wp2
      rw [set7t_fold]
      have HF := HO1.out.put7 (u0 := .int .i64 1) (u1 := .string (s.extract p (p + n))) (u2 := .int .u64 0) (u3 := .int .u64 0) (u4 := .int .u64 0) (u5 := .int .u64 0) (u6 := .int .i64 (p : Int))
      have HB := below_put7 HB1.out (Nat.le_refl _) (.int .i64 1) (.string (s.extract p (p + n))) (.int .u64 0) (.int .u64 0) (.int .u64 0) (.int .u64 0) (.int .i64 (p : Int))
      clear z0 z1 z2 z3 z4 z5 z6 y0 y1 y2 y3 y4 y5 y6
      obtain ⟨z0, z1, z2, z3, z4, z5, z6⟩ := HF.seven
      refine bodyPost_ret (by simp [results, Try.results25, go_sem, z0, z1, z2, z3, z4, z5, z6]; rfl) rfl ?_
      exact ⟨by rw [HE.out]; rfl, HB⟩
     ·
      have HE := Lib.hid (show v = nextV p none by rw [HE0.out, HK2.out, if_neg (by omega)])
      have h13 : decide ((n : Int) ≤ 12) = false := decide_eq_false h12
      clear HK2 HE0
      go_upto_region 11 with fail
      go_region
      go_upto_region 18 with fail
      have HO1 := Lib.hid ((HO.out.off (p := ⟨g2, 0, none⟩) (by show w.heap.size ≠ g2; omega) (.int .i64 1)).off (p := ⟨g2, 1, none⟩) (by show w.heap.size ≠ g2; omega) (.string (s.extract p (p + n))))
      have HX1 := Lib.hid ((HX.out.put 0 (.int .i64 1)).put 1 (.string (s.extract p (p + n))))
      have HB1 := Lib.hid ((HB.out.setCell (p := ⟨g2, 0, none⟩) (by show w.heap.size ≤ g2; omega) (.int .i64 1)).setCell (p := ⟨g2, 1, none⟩) (by show w.heap.size ≤ g2; omega) (.string (s.extract p (p + n))))
      clear HO HX HB
      have HO1 := Lib.hid HO1.out.on_drew
      have HX1 := Lib.hid HX1.out.on_drew
      have HB1 := Lib.hid HB1.out.drew
      generalize World.drew _ = V at *
      clear a0 a1 b0 b1
      obtain ⟨z0, z1, z2, z3, z4, z5, z6, y0, y1, y2, y3, y4, y5, y6⟩ := HO1.out.seven2
      go_wp2
      rw [set7t_fold]
      have HF := HO1.out.put7 (u0 := .int .i64 0) (u1 := .string ⟨#[]⟩) (u2 := .int .u64 0) (u3 := .int .u64 0) (u4 := .int .u64 0) (u5 := .int .u64 0) (u6 := .int .i64 (p : Int))
      have HB := below_put7 HB1.out (Nat.le_refl _) (.int .i64 0) (.string ⟨#[]⟩) (.int .u64 0) (.int .u64 0) (.int .u64 0) (.int .u64 0) (.int .i64 (p : Int))
      clear z0 z1 z2 z3 z4 z5 z6 y0 y1 y2 y3 y4 y5 y6
      obtain ⟨z0, z1, z2, z3, z4, z5, z6⟩ := HF.seven
      refine bodyPost_ret (by simp [results, Try.results25, go_sem, z0, z1, z2, z3, z4, z5, z6]; rfl) rfl ?_
      exact ⟨by rw [HE.out]; rfl, HB⟩
end Go.Proofs.Ytonknapfndaalaa
