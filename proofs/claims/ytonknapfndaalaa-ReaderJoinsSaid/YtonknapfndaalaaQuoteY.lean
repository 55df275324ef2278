/- The set that stands at a place: the walk of the reference's ReadClass. -/
import Derived.Test.YtonknapfndaalaaGq
namespace Go.Proofs.Ytonknapfndaalaa
set_option linter.unusedVariables false
set_option maxRecDepth 1000000
open Go.RowKit
/-- Is it the empty set? -/
def isZ (a b c d : Nat) : Bool := (a : Int) == 0 && (b : Int) == 0 && (c : Int) == 0 && (d : Int) == 0
theorem isZ_yes {a b c d : Nat} (h : isZ a b c d = true) : (a, b, c, d) = set0 := by
 unfold isZ at h; simp at h
 obtain ⟨⟨⟨rfl, rfl⟩, rfl⟩, rfl⟩ := h; rfl
theorem isZ_no {a b c d : Nat} (h : isZ a b c d = false) : ¬ (a, b, c, d) = set0 := by
 intro e; injection e with e1 e; injection e with e2 e; injection e with e3 e4
 subst e1 e2 e3 e4; revert h; decide
@[go_sem 2000] theorem eqz (a b c d : Nat) (w : World) :
  (Op.equalIn 10000 25 (.agg #[.int .u64 (a : Int), .int .u64 (b : Int), .int .u64 (c : Int), .int .u64 (d : Int)]) (.agg #[.int .u64 0, .int .u64 0, .int .u64 0, .int .u64 0])).run Try.prog w = .ok (isZ a b c d) w := eq4 a b c d 0 0 0 0 w
set_option maxHeartbeats 3200000 in
set_option maxRecDepth 100000 in
theorem rreadclass_any (s : ByteArray) (hs : s.size ≤ 1000000) (i : Int) (w : World) :
  Calls Try.prog 43 #[.string s, .int .i64 i] w fun e w' => e = .returned (clsT (clsO s i)) ∧ Below w.heap.size w w' := by
 have HF := Lib.hid (show clsO s i = if standB s i 91 = true then endR (standB s (i + 1) 94) (rwsF s (s.size + 1) (i.toNat + 1 + (if standB s (i + 1) 94 = true then 1 else 0)) set0) else none from rfl)
 by_cases h0 : 0 ≤ i
 ·
  obtain ⟨a, rfl⟩ : ∃ a : Nat, i = (a : Int) := ⟨i.toNat, by omega⟩
  rw [Int.toNat_natCast] at HF
  by_cases h1 : (a : Int) < s.size
  ·
   have ha : a < s.size := by omega
   obtain ⟨c, hc⟩ : ∃ c : Int, (s[a].toNat : Int) = c := ⟨_, rfl⟩
   have hbc : byt s a = c := by rw [byt_get ha, hc]
   by_cases h2 : c = 91
   ·
    subst h2
    have hst : standB s (a : Int) 91 = true := stand_iff.2 ⟨ha, hbc⟩
    have e9 : decide (s.size ≤ a) = false := decide_eq_false (by omega)
    have e8 : decide ((a : Int) < 0) = false := decide_eq_false (by omega)
    clear hbc
    by_cases h3 : (a : Int) + 1 < s.size
    ·
     have ha1 : a + 1 < s.size := by omega
     obtain ⟨d, hd⟩ : ∃ d : Int, (s[a + 1].toNat : Int) = d := ⟨_, rfl⟩
     have hbd : standB s ((a : Int) + 1) 94 = (d == 94) := by
      rw [show ((a : Int) + 1) = ((a + 1 : Nat) : Int) by omega, stand_in ha1, byt_get ha1, hd]
     by_cases h4 : d = 94
     ·
      subst h4
      have ho : standB s ((a : Int) + 1) 94 = true := hbd
      clear hbd
      have HF2 := Lib.hid (show clsO s (a : Int) = endR true (rwsF s (s.size + 1) (a + 1 + 1) set0) by rw [HF.out, hst, ho]; rfl)
      have HR := Lib.hid (fun W => rows_any s hs (a + 1 + 1) (by omega) W)
      rw [show (((a + 1 + 1) : Nat) : Int) = (a : Int) + 2 by omega] at HR
      have HFT := Lib.hid (fun x m => rwsF_fits (s := s) (s.size + 1) (a + 1 + 1) set0 x m fits0)
      generalize rwsF s (s.size + 1) (a + 1 + 1) set0 = r at *
      clear HF hst ho
      have HO0 := Lib.hid (Own.fresh w 25 [.int .u64 0, .int .u64 0, .int .u64 0, .int .u64 0])
      have HB0 := Lib.hid (show Below w.heap.size w (w.alloc (.cells #[.int .u64 0, .int .u64 0, .int .u64 0, .int .u64 0] 25)) from (Below.refl _ _).alloc (Nat.le_refl _) _)
      go_enter Try.func43, Try.ntmps43
      go_wp2_with fail
      refine (HR.out _).mono ?_
      rintro e w2 ⟨⟨X0, X1, X2, X3, n, b, rfl, hr⟩, hb2⟩
      have HO2 := Lib.hid (HO0.out.under hb2 HO0.out.lt)
      have HB2 := Lib.hid (keepb HB0.out hb2)
      have hlt := HO2.out.lt
      obtain ⟨z0, z1, z2, z3, y0, y1, y2, y3⟩ := HO2.out.four
      clear hb2 HO0 HB0 HR
      rcases hr with ⟨hr, hb⟩ | ⟨hb, hlt2, hr⟩
      ·
       have HE := Lib.hid (show clsO s (a : Int) = none by rw [HF2.out, hr]; rfl)
       clear HF2 hr HFT
       cases b
       ·
        clear hb
        go_wp2
        rw [set4_fold]
        have hF := (HO2.out.put4 (u0 := .int .u64 0) (u1 := .int .u64 0) (u2 := .int .u64 0) (u3 := .int .u64 0)).on_alloc (.cells #[.int .u64 (X0 : Int), .int .u64 (X1 : Int), .int .u64 (X2 : Int), .int .u64 (X3 : Int)] 25)
        have hB0 := below_put4 HB2.out (Nat.le_refl _) (.int .u64 0) (.int .u64 0) (.int .u64 0) (.int .u64 0)
        have hB := hB0.alloc hB0.size (.cells #[.int .u64 (X0 : Int), .int .u64 (X1 : Int), .int .u64 (X2 : Int), .int .u64 (X3 : Int)] 25)
        clear z0 z1 z2 z3 y0 y1 y2 y3
        obtain ⟨z0, z1, z2, z3, -⟩ := hF.four
        refine bodyPost_ret (by simp [results, Try.results43, go_sem, z0, z1, z2, z3]; rfl) rfl ?_
        exact ⟨by rw [HE.out]; rfl, hB⟩
       ·
        have hn : (n : Int) = (a : Int) + 2 := by
         rcases hb with hb | hb
         ·
          cases hb
         ·
          omega
        clear hb
        go_wp2
        rw [set4_fold]
        have hF := (HO2.out.put4 (u0 := .int .u64 0) (u1 := .int .u64 0) (u2 := .int .u64 0) (u3 := .int .u64 0)).on_alloc (.cells #[.int .u64 (X0 : Int), .int .u64 (X1 : Int), .int .u64 (X2 : Int), .int .u64 (X3 : Int)] 25)
        have hB0 := below_put4 HB2.out (Nat.le_refl _) (.int .u64 0) (.int .u64 0) (.int .u64 0) (.int .u64 0)
        have hB := hB0.alloc hB0.size (.cells #[.int .u64 (X0 : Int), .int .u64 (X1 : Int), .int .u64 (X2 : Int), .int .u64 (X3 : Int)] 25)
        clear z0 z1 z2 z3 y0 y1 y2 y3
        obtain ⟨z0, z1, z2, z3, -⟩ := hF.four
        refine bodyPost_ret (by simp [results, Try.results43, go_sem, z0, z1, z2, z3]; rfl) rfl ?_
        exact ⟨by rw [HE.out]; rfl, hB⟩
      ·
       subst hb
       have HFX := Lib.hid (HFT.out _ _ hr).1
       have hn9 : (n : Int) < s.size := by have := (HFT.out _ _ hr).2.2.1; omega
       have hne : ((n : Int) == (a : Int) + 2) = false := beq_eq_false_iff_ne.2 (by omega)
       obtain ⟨bz, hz⟩ : ∃ bz, isZ (notW X0) (notW X1) (notW X2) (notW X3) = bz := ⟨_, rfl⟩
       have HXE := Lib.hid (Own.fresh w2 25 [.int .u64 (X0 : Int), .int .u64 (X1 : Int), .int .u64 (X2 : Int), .int .u64 (X3 : Int)])
       have HOE := Lib.hid (HO2.out.on_alloc (.cells #[.int .u64 (X0 : Int), .int .u64 (X1 : Int), .int .u64 (X2 : Int), .int .u64 (X3 : Int)] 25))
       have HBE := Lib.hid (HB2.out.alloc HB2.out.size (.cells #[.int .u64 (X0 : Int), .int .u64 (X1 : Int), .int .u64 (X2 : Int), .int .u64 (X3 : Int)] 25))
       have HN := Lib.hid (fun W => rnot_any X0 X1 X2 X3 HFX.out.1 HFX.out.2.1 HFX.out.2.2.1 HFX.out.2.2.2 W)
       have HE0 := Lib.hid (show clsO s (a : Int) = if finR true (X0, X1, X2, X3) = set0 then none else some (finR true (X0, X1, X2, X3), n + 1) by rw [HF2.out, hr]; rfl)
       clear HF2 hr HFT HFX hlt2
       go_wp2_with fail
       refine (HN.out _).mono ?_
       rintro e w3 ⟨rfl, hb3⟩
       have HO3 := Lib.hid (HOE.out.under hb3 HOE.out.lt)
       have HX3 := Lib.hid (HXE.out.under hb3 HXE.out.lt)
       have HB3 := Lib.hid (keepb HBE.out hb3)
       clear hb3 HOE HXE HBE z0 z1 z2 z3 y0 y1 y2 y3
       obtain ⟨z0, z1, z2, z3, y0, y1, y2, y3⟩ := HO3.out.four
       obtain ⟨x0, x1, x2, x3, v0, v1, v2, v3⟩ := HX3.out.four
       have HO4 := Lib.hid (HO3.out.off4 (k := w2.heap.size) (by omega) (.int .u64 (notW X0 : Int)) (.int .u64 (notW X1 : Int)) (.int .u64 (notW X2 : Int)) (.int .u64 (notW X3 : Int)))
       have HB4 := Lib.hid (below_put4 (g := w2.heap.size) HB3.out HB2.out.size (.int .u64 (notW X0 : Int)) (.int .u64 (notW X1 : Int)) (.int .u64 (notW X2 : Int)) (.int .u64 (notW X3 : Int)))
       cases bz
       ·
        have HE := Lib.hid (show clsO s (a : Int) = some ((notW X0, notW X1, notW X2, notW X3), n + 1) by rw [HE0.out]; exact if_neg (isZ_no hz))
        clear HE0
        go_wp2
        rw [set4_fold, set4_fold]
        have hF := HO4.out.put4 (u0 := .int .u64 (notW X0 : Int)) (u1 := .int .u64 (notW X1 : Int)) (u2 := .int .u64 (notW X2 : Int)) (u3 := .int .u64 (notW X3 : Int))
        have hB := below_put4 HB4.out (Nat.le_refl _) (.int .u64 (notW X0 : Int)) (.int .u64 (notW X1 : Int)) (.int .u64 (notW X2 : Int)) (.int .u64 (notW X3 : Int))
        clear z0 z1 z2 z3 y0 y1 y2 y3
        obtain ⟨z0, z1, z2, z3, -⟩ := hF.four
        refine bodyPost_ret (by simp [results, Try.results43, go_sem, z0, z1, z2, z3]; rfl) rfl ?_
        exact ⟨by rw [HE.out]; rfl, hB⟩
       ·
        have HE := Lib.hid (show clsO s (a : Int) = none by rw [HE0.out]; exact if_pos (isZ_yes hz))
        clear HE0
        go_wp2
        rw [set4_fold, set4_fold]
        have hF := HO4.out.put4 (u0 := .int .u64 0) (u1 := .int .u64 0) (u2 := .int .u64 0) (u3 := .int .u64 0)
        have hB := below_put4 HB4.out (Nat.le_refl _) (.int .u64 0) (.int .u64 0) (.int .u64 0) (.int .u64 0)
        clear z0 z1 z2 z3 y0 y1 y2 y3
        obtain ⟨z0, z1, z2, z3, -⟩ := hF.four
        refine bodyPost_ret (by simp [results, Try.results43, go_sem, z0, z1, z2, z3]; rfl) rfl ?_
        exact ⟨by rw [HE.out]; rfl, hB⟩
     ·
      have e4 : (d == 94) = false := beq_eq_false_iff_ne.2 h4
      have ho : standB s ((a : Int) + 1) 94 = false := hbd.trans e4
      clear hbd
      have HF2 := Lib.hid (show clsO s (a : Int) = endR false (rwsF s (s.size + 1) (a + 1) set0) by rw [HF.out, hst, ho]; rfl)
      have HR := Lib.hid (fun W => rows_any s hs (a + 1) (by omega) W)
      rw [show (((a + 1) : Nat) : Int) = (a : Int) + 1 by omega] at HR
      have HFT := Lib.hid (fun x m => rwsF_fits (s := s) (s.size + 1) (a + 1) set0 x m fits0)
      generalize rwsF s (s.size + 1) (a + 1) set0 = r at *
      clear HF hst ho
      have HO0 := Lib.hid (Own.fresh w 25 [.int .u64 0, .int .u64 0, .int .u64 0, .int .u64 0])
      have HB0 := Lib.hid (show Below w.heap.size w (w.alloc (.cells #[.int .u64 0, .int .u64 0, .int .u64 0, .int .u64 0] 25)) from (Below.refl _ _).alloc (Nat.le_refl _) _)
      go_enter Try.func43, Try.ntmps43
      go_wp2_with fail
      refine (HR.out _).mono ?_
      rintro e w2 ⟨⟨X0, X1, X2, X3, n, b, rfl, hr⟩, hb2⟩
      have HO2 := Lib.hid (HO0.out.under hb2 HO0.out.lt)
      have HB2 := Lib.hid (keepb HB0.out hb2)
      have hlt := HO2.out.lt
      obtain ⟨z0, z1, z2, z3, y0, y1, y2, y3⟩ := HO2.out.four
      clear hb2 HO0 HB0 HR
      rcases hr with ⟨hr, hb⟩ | ⟨hb, hlt2, hr⟩
      ·
       have HE := Lib.hid (show clsO s (a : Int) = none by rw [HF2.out, hr]; rfl)
       clear HF2 hr HFT
       cases b
       ·
        clear hb
        go_wp2
        rw [set4_fold]
        have hF := (HO2.out.put4 (u0 := .int .u64 0) (u1 := .int .u64 0) (u2 := .int .u64 0) (u3 := .int .u64 0)).on_alloc (.cells #[.int .u64 (X0 : Int), .int .u64 (X1 : Int), .int .u64 (X2 : Int), .int .u64 (X3 : Int)] 25)
        have hB0 := below_put4 HB2.out (Nat.le_refl _) (.int .u64 0) (.int .u64 0) (.int .u64 0) (.int .u64 0)
        have hB := hB0.alloc hB0.size (.cells #[.int .u64 (X0 : Int), .int .u64 (X1 : Int), .int .u64 (X2 : Int), .int .u64 (X3 : Int)] 25)
        clear z0 z1 z2 z3 y0 y1 y2 y3
        obtain ⟨z0, z1, z2, z3, -⟩ := hF.four
        refine bodyPost_ret (by simp [results, Try.results43, go_sem, z0, z1, z2, z3]; rfl) rfl ?_
        exact ⟨by rw [HE.out]; rfl, hB⟩
       ·
        have hn : (n : Int) = (a : Int) + 1 := by
         rcases hb with hb | hb
         ·
          cases hb
         ·
          omega
        clear hb
        go_wp2
        rw [set4_fold]
        have hF := (HO2.out.put4 (u0 := .int .u64 0) (u1 := .int .u64 0) (u2 := .int .u64 0) (u3 := .int .u64 0)).on_alloc (.cells #[.int .u64 (X0 : Int), .int .u64 (X1 : Int), .int .u64 (X2 : Int), .int .u64 (X3 : Int)] 25)
        have hB0 := below_put4 HB2.out (Nat.le_refl _) (.int .u64 0) (.int .u64 0) (.int .u64 0) (.int .u64 0)
        have hB := hB0.alloc hB0.size (.cells #[.int .u64 (X0 : Int), .int .u64 (X1 : Int), .int .u64 (X2 : Int), .int .u64 (X3 : Int)] 25)
        clear z0 z1 z2 z3 y0 y1 y2 y3
        obtain ⟨z0, z1, z2, z3, -⟩ := hF.four
        refine bodyPost_ret (by simp [results, Try.results43, go_sem, z0, z1, z2, z3]; rfl) rfl ?_
        exact ⟨by rw [HE.out]; rfl, hB⟩
      ·
       subst hb
       have HFX := Lib.hid (HFT.out _ _ hr).1
       have hn9 : (n : Int) < s.size := by have := (HFT.out _ _ hr).2.2.1; omega
       have hne : ((n : Int) == (a : Int) + 1) = false := beq_eq_false_iff_ne.2 (by omega)
       obtain ⟨bz, hz⟩ : ∃ bz, isZ X0 X1 X2 X3 = bz := ⟨_, rfl⟩
       cases bz
       ·
        have HE := Lib.hid (show clsO s (a : Int) = some ((X0, X1, X2, X3), n + 1) by rw [HF2.out, hr]; exact if_neg (isZ_no hz))
        clear HF2 hr HFT HFX hlt2
        go_wp2
        rw [set4_fold]
        have hF := (HO2.out.put4 (u0 := .int .u64 (X0 : Int)) (u1 := .int .u64 (X1 : Int)) (u2 := .int .u64 (X2 : Int)) (u3 := .int .u64 (X3 : Int))).on_alloc (.cells #[.int .u64 (X0 : Int), .int .u64 (X1 : Int), .int .u64 (X2 : Int), .int .u64 (X3 : Int)] 25)
        have hB0 := below_put4 HB2.out (Nat.le_refl _) (.int .u64 (X0 : Int)) (.int .u64 (X1 : Int)) (.int .u64 (X2 : Int)) (.int .u64 (X3 : Int))
        have hB := hB0.alloc hB0.size (.cells #[.int .u64 (X0 : Int), .int .u64 (X1 : Int), .int .u64 (X2 : Int), .int .u64 (X3 : Int)] 25)
        clear z0 z1 z2 z3 y0 y1 y2 y3
        obtain ⟨z0, z1, z2, z3, -⟩ := hF.four
        refine bodyPost_ret (by simp [results, Try.results43, go_sem, z0, z1, z2, z3]; rfl) rfl ?_
        exact ⟨by rw [HE.out]; rfl, hB⟩
       ·
        have HE := Lib.hid (show clsO s (a : Int) = none by rw [HF2.out, hr]; exact if_pos (isZ_yes hz))
        clear HF2 hr HFT HFX hlt2
        go_wp2
        rw [set4_fold]
        have hF := (HO2.out.put4 (u0 := .int .u64 0) (u1 := .int .u64 0) (u2 := .int .u64 0) (u3 := .int .u64 0)).on_alloc (.cells #[.int .u64 (X0 : Int), .int .u64 (X1 : Int), .int .u64 (X2 : Int), .int .u64 (X3 : Int)] 25)
        have hB0 := below_put4 HB2.out (Nat.le_refl _) (.int .u64 0) (.int .u64 0) (.int .u64 0) (.int .u64 0)
        have hB := hB0.alloc hB0.size (.cells #[.int .u64 (X0 : Int), .int .u64 (X1 : Int), .int .u64 (X2 : Int), .int .u64 (X3 : Int)] 25)
        clear z0 z1 z2 z3 y0 y1 y2 y3
        obtain ⟨z0, z1, z2, z3, -⟩ := hF.four
        refine bodyPost_ret (by simp [results, Try.results43, go_sem, z0, z1, z2, z3]; rfl) rfl ?_
        exact ⟨by rw [HE.out]; rfl, hB⟩
    ·
     have ho : standB s ((a : Int) + 1) 94 = false := by
      rw [show ((a : Int) + 1) = ((a + 1 : Nat) : Int) by omega, stand_out (by omega)]
     have e3 : decide ((a : Int) + 1 < (s.size : Int)) = false := decide_eq_false h3
     have HF2 := Lib.hid (show clsO s (a : Int) = endR false (rwsF s (s.size + 1) (a + 1) set0) by rw [HF.out, hst, ho]; rfl)
     have HR := Lib.hid (fun W => rows_any s hs (a + 1) (by omega) W)
     rw [show (((a + 1) : Nat) : Int) = (a : Int) + 1 by omega] at HR
     have HFT := Lib.hid (fun x m => rwsF_fits (s := s) (s.size + 1) (a + 1) set0 x m fits0)
     generalize rwsF s (s.size + 1) (a + 1) set0 = r at *
     clear HF hst ho
     have HO0 := Lib.hid (Own.fresh w 25 [.int .u64 0, .int .u64 0, .int .u64 0, .int .u64 0])
     have HB0 := Lib.hid (show Below w.heap.size w (w.alloc (.cells #[.int .u64 0, .int .u64 0, .int .u64 0, .int .u64 0] 25)) from (Below.refl _ _).alloc (Nat.le_refl _) _)
     go_enter Try.func43, Try.ntmps43
     go_wp2_with fail
     refine (HR.out _).mono ?_
     rintro e w2 ⟨⟨X0, X1, X2, X3, n, b, rfl, hr⟩, hb2⟩
     have HO2 := Lib.hid (HO0.out.under hb2 HO0.out.lt)
     have HB2 := Lib.hid (keepb HB0.out hb2)
     have hlt := HO2.out.lt
     obtain ⟨z0, z1, z2, z3, y0, y1, y2, y3⟩ := HO2.out.four
     clear hb2 HO0 HB0 HR
     rcases hr with ⟨hr, hb⟩ | ⟨hb, hlt2, hr⟩
     ·
      have HE := Lib.hid (show clsO s (a : Int) = none by rw [HF2.out, hr]; rfl)
      clear HF2 hr HFT
      cases b
      ·
       clear hb
       go_wp2
       rw [set4_fold]
       have hF := (HO2.out.put4 (u0 := .int .u64 0) (u1 := .int .u64 0) (u2 := .int .u64 0) (u3 := .int .u64 0)).on_alloc (.cells #[.int .u64 (X0 : Int), .int .u64 (X1 : Int), .int .u64 (X2 : Int), .int .u64 (X3 : Int)] 25)
       have hB0 := below_put4 HB2.out (Nat.le_refl _) (.int .u64 0) (.int .u64 0) (.int .u64 0) (.int .u64 0)
       have hB := hB0.alloc hB0.size (.cells #[.int .u64 (X0 : Int), .int .u64 (X1 : Int), .int .u64 (X2 : Int), .int .u64 (X3 : Int)] 25)
       clear z0 z1 z2 z3 y0 y1 y2 y3
       obtain ⟨z0, z1, z2, z3, -⟩ := hF.four
       refine bodyPost_ret (by simp [results, Try.results43, go_sem, z0, z1, z2, z3]; rfl) rfl ?_
       exact ⟨by rw [HE.out]; rfl, hB⟩
      ·
       have hn : (n : Int) = (a : Int) + 1 := by
        rcases hb with hb | hb
        ·
         cases hb
        ·
         omega
       clear hb
       go_wp2
       rw [set4_fold]
       have hF := (HO2.out.put4 (u0 := .int .u64 0) (u1 := .int .u64 0) (u2 := .int .u64 0) (u3 := .int .u64 0)).on_alloc (.cells #[.int .u64 (X0 : Int), .int .u64 (X1 : Int), .int .u64 (X2 : Int), .int .u64 (X3 : Int)] 25)
       have hB0 := below_put4 HB2.out (Nat.le_refl _) (.int .u64 0) (.int .u64 0) (.int .u64 0) (.int .u64 0)
       have hB := hB0.alloc hB0.size (.cells #[.int .u64 (X0 : Int), .int .u64 (X1 : Int), .int .u64 (X2 : Int), .int .u64 (X3 : Int)] 25)
       clear z0 z1 z2 z3 y0 y1 y2 y3
       obtain ⟨z0, z1, z2, z3, -⟩ := hF.four
       refine bodyPost_ret (by simp [results, Try.results43, go_sem, z0, z1, z2, z3]; rfl) rfl ?_
       exact ⟨by rw [HE.out]; rfl, hB⟩
     ·
      subst hb
      have HFX := Lib.hid (HFT.out _ _ hr).1
      have hn9 : (n : Int) < s.size := by have := (HFT.out _ _ hr).2.2.1; omega
      have hne : ((n : Int) == (a : Int) + 1) = false := beq_eq_false_iff_ne.2 (by omega)
      obtain ⟨bz, hz⟩ : ∃ bz, isZ X0 X1 X2 X3 = bz := ⟨_, rfl⟩
      cases bz
      ·
       have HE := Lib.hid (show clsO s (a : Int) = some ((X0, X1, X2, X3), n + 1) by rw [HF2.out, hr]; exact if_neg (isZ_no hz))
       clear HF2 hr HFT HFX hlt2
       go_wp2
       rw [set4_fold]
       have hF := (HO2.out.put4 (u0 := .int .u64 (X0 : Int)) (u1 := .int .u64 (X1 : Int)) (u2 := .int .u64 (X2 : Int)) (u3 := .int .u64 (X3 : Int))).on_alloc (.cells #[.int .u64 (X0 : Int), .int .u64 (X1 : Int), .int .u64 (X2 : Int), .int .u64 (X3 : Int)] 25)
       have hB0 := below_put4 HB2.out (Nat.le_refl _) (.int .u64 (X0 : Int)) (.int .u64 (X1 : Int)) (.int .u64 (X2 : Int)) (.int .u64 (X3 : Int))
       have hB := hB0.alloc hB0.size (.cells #[.int .u64 (X0 : Int), .int .u64 (X1 : Int), .int .u64 (X2 : Int), .int .u64 (X3 : Int)] 25)
       clear z0 z1 z2 z3 y0 y1 y2 y3
       obtain ⟨z0, z1, z2, z3, -⟩ := hF.four
       refine bodyPost_ret (by simp [results, Try.results43, go_sem, z0, z1, z2, z3]; rfl) rfl ?_
       exact ⟨by rw [HE.out]; rfl, hB⟩
      ·
       have HE := Lib.hid (show clsO s (a : Int) = none by rw [HF2.out, hr]; exact if_pos (isZ_yes hz))
       clear HF2 hr HFT HFX hlt2
       go_wp2
       rw [set4_fold]
       have hF := (HO2.out.put4 (u0 := .int .u64 0) (u1 := .int .u64 0) (u2 := .int .u64 0) (u3 := .int .u64 0)).on_alloc (.cells #[.int .u64 (X0 : Int), .int .u64 (X1 : Int), .int .u64 (X2 : Int), .int .u64 (X3 : Int)] 25)
       have hB0 := below_put4 HB2.out (Nat.le_refl _) (.int .u64 0) (.int .u64 0) (.int .u64 0) (.int .u64 0)
       have hB := hB0.alloc hB0.size (.cells #[.int .u64 (X0 : Int), .int .u64 (X1 : Int), .int .u64 (X2 : Int), .int .u64 (X3 : Int)] 25)
       clear z0 z1 z2 z3 y0 y1 y2 y3
       obtain ⟨z0, z1, z2, z3, -⟩ := hF.four
       refine bodyPost_ret (by simp [results, Try.results43, go_sem, z0, z1, z2, z3]; rfl) rfl ?_
       exact ⟨by rw [HE.out]; rfl, hB⟩
   ·
    have e2 : (c != 91) = true := by simp [h2]
    have e3 : (c == 91) = false := beq_eq_false_iff_ne.2 h2
    have HE := Lib.hid (show clsO s (a : Int) = none by rw [HF.out, stand_in ha, hbc, e3]; rfl)
    clear HF hbc
    have HO1 := Lib.hid (Own.fresh w 25 [.int .u64 0, .int .u64 0, .int .u64 0, .int .u64 0])
    have HB1 := Lib.hid (show Below w.heap.size w (w.alloc (.cells #[.int .u64 0, .int .u64 0, .int .u64 0, .int .u64 0] 25)) from (Below.refl _ _).alloc (Nat.le_refl _) _)
    go_enter Try.func43, Try.ntmps43
    go_wp2
    obtain ⟨z0, z1, z2, z3, -⟩ := HO1.out.four
    refine bodyPost_ret (by simp [results, Try.results43, go_sem, z0, z1, z2, z3]; rfl) rfl ?_
    exact ⟨by rw [HE.out]; rfl, HB1.out⟩
  ·
   have HE := Lib.hid (show clsO s (a : Int) = none by rw [HF.out, stand_out (by omega)]; rfl)
   clear HF
   have HO1 := Lib.hid (Own.fresh w 25 [.int .u64 0, .int .u64 0, .int .u64 0, .int .u64 0])
   have HB1 := Lib.hid (show Below w.heap.size w (w.alloc (.cells #[.int .u64 0, .int .u64 0, .int .u64 0, .int .u64 0] 25)) from (Below.refl _ _).alloc (Nat.le_refl _) _)
   go_enter Try.func43, Try.ntmps43
   go_wp2
   obtain ⟨z0, z1, z2, z3, -⟩ := HO1.out.four
   refine bodyPost_ret (by simp [results, Try.results43, go_sem, z0, z1, z2, z3]; rfl) rfl ?_
   exact ⟨by rw [HE.out]; rfl, HB1.out⟩
 ·
  have HE := Lib.hid (show clsO s i = none by rw [HF.out]; unfold standB; rw [decide_eq_false h0]; rfl)
  clear HF
  have HO1 := Lib.hid (Own.fresh w 25 [.int .u64 0, .int .u64 0, .int .u64 0, .int .u64 0])
  have HB1 := Lib.hid (show Below w.heap.size w (w.alloc (.cells #[.int .u64 0, .int .u64 0, .int .u64 0, .int .u64 0] 25)) from (Below.refl _ _).alloc (Nat.le_refl _) _)
  go_enter Try.func43, Try.ntmps43
  go_wp2
  obtain ⟨z0, z1, z2, z3, -⟩ := HO1.out.four
  refine bodyPost_ret (by simp [results, Try.results43, go_sem, z0, z1, z2, z3]; rfl) rfl ?_
  exact ⟨by rw [HE.out]; rfl, HB1.out⟩
end Go.Proofs.Ytonknapfndaalaa
