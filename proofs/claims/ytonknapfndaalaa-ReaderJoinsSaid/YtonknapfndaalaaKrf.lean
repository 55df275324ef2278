/- The program's reader: how deep an expression is; what it reads among tokens, walked. The program's reader: the expression that a text is, walked. -/
import Derived.Test.YtonknapfndaalaaKre
import Derived.Test.YtonknapfndaalaaPs7
namespace Go.Proofs.Ytonknapfndaalaa
set_option linter.unusedVariables false
set_option maxRecDepth 1000000
open Go.RowKit Go.Sort
set_option maxHeartbeats 1600000 in
theorem deepf_any (M : Nat) (hM : M ≤ 90001) : ∀ (n : Nat) (hn : n ≤ 60) (x : Ex) (ko : Option Addr) (kc : Nat) (w : World), fit M n x = true → HasK w n ko x.kids →
  Calls Try.prog 27 #[exv x ko kc] w fun e w' => e = .returned (.int .i64 (deepX n x)) ∧ Below w.heap.size w w'
 | 0, _, x, _, _, _, h, _ => by cases h
 | n + 1, hn, x, ko, kc, w, hf, hK => by
  have IH := Lib.hid (fun (y : Ex) (ao : Option Addr) (c : Nat) (W : World) => deepf_any M hM n (by omega) y ao c W)
  have HK := Lib.hid hK
  have HF := Lib.hid hf
  have hl := fit_len hf
  obtain ⟨m, hm⟩ : ∃ m, x.kids.length = m := ⟨_, rfl⟩
  have HM := Lib.hid hm
  have HB0 := Lib.hid (show Below w.heap.size w (w.alloc (.cells #[.int .i64 x.op, .string x.text, .int .u64 x.s0, .int .u64 x.s1, .int .u64 x.s2, .int .u64 x.s3, .slice ko m kc] 28)) from (Below.refl _ _).alloc (Nat.le_refl _) _)
  have HO := Lib.hid (Own.fresh w 28 [.int .i64 x.op, .string x.text, .int .u64 x.s0, .int .u64 x.s1, .int .u64 x.s2, .int .u64 x.s3, .slice ko m kc])
  unfold exv
  rw [hm] at hl ⊢
  clear hm hK hf
  go_enter Try.func27, Try.ntmps27
  go_wp2_with fail
  go_loopw [3, 9] (fun b3 b9 wr => ∃ k : Nat, b9 = .int .i64 (k : Int) ∧ (k : Int) ≤ m ∧ b3 = .int .i64 ((x.kids.take k).foldl (fun m y => max m (deepX n y)) 0) ∧ Hid (Below w.heap.size w wr))
   (fun _ b9 _ => m - (intOf b9).toNat)
  case atStart => exact ⟨0, rfl, by omega, rfl, HB0⟩
  case round =>
   obtain ⟨k, rfl, hk2, rfl, HB⟩ := hrel
   clear HB0 HO
   by_cases h2 : (k : Int) < m
   ·
    obtain ⟨y, hy⟩ : ∃ y, x.kids[k]? = some y := ⟨_, List.getElem?_eq_getElem (by have := HM.out; omega)⟩
    obtain ⟨g, off, kk, kd, rfl, hg, c0, c1, c2, c3, c4, c5, c6, hr⟩ := HK.out k y hy
    have HR := Lib.hid hr
    have HFY := Lib.hid (fit_kid HF.out hy)
    have HT := Lib.hid (show (x.kids.take (k + 1)).foldl (fun m y => max m (deepX n y)) 0 = max ((x.kids.take k).foldl (fun m y => max m (deepX n y)) 0) (deepX n y) from fold_snoc (fun m y => max m (deepX n y)) 0 x.kids hy)
    have hb := Lib.hid (deepX_take n x k)
    have hs := hb.out
    have hs3 := deepX_bd n y
    have HB9 := Lib.hid (And.intro hs hs3)
    clear hr hy hs hs3 hb 
    generalize hq : ((x.kids.take k).foldl (fun m y => max m (deepX n y)) 0) = q at *
    have HQ := Lib.hid hq
    clear hq
    have e0 := keepc c0 HB.out
    have e1 := keepc c1 HB.out
    have e2 := keepc c2 HB.out
    have e3 := keepc c3 HB.out
    have e4 := keepc c4 HB.out
    have e5 := keepc c5 HB.out
    have e6 := keepc c6 HB.out
    have hgr : g < wr.heap.size := Nat.lt_of_lt_of_le hg HB.out.size
    clear c0 c1 c2 c3 c4 c5 c6 hg
    obtain ⟨z, hz⟩ : ∃ z, deepX n y = z := ⟨_, rfl⟩
    have HZ := Lib.hid hz
    have hbnd := HB9.out
    rw [hz] at hbnd
    rw [hz] at HT
    clear hz HB9
    go_wp2_with fail
    refine (IH.out y kk kd _ HFY.out (HasK.below (HB.out.alloc HB.out.size _) HR.out)).mono ?_
    rintro e w1 ⟨rfl, hb1⟩
    rw [HZ.out]
    have HB1 := Lib.hid (keepb (HB.out.alloc HB.out.size _) hb1)
    clear hb1 e0 e1 e2 e3 e4 e5 e6
    obtain ⟨hq0, hq1, hz0, hz1⟩ : 0 ≤ q ∧ q ≤ 1000 ∧ 0 ≤ z ∧ z ≤ 1000 := by omega
    clear hbnd
    have HT2 := Lib.hid (HT.out)
    clear HT
    go_wp2
    all_goals go_roundw
    all_goals first
     | (case rel => exact ⟨k + 1, by go_num, by omega, by rw [HT2.out] <;> (first | rfl | (congr 1; omega)), HB1⟩)
     | skip
    all_goals (simp [intOf]; omega)
   ·
    obtain rfl : k = m := by omega
    have HE := Lib.hid (show deepX (n + 1) x = (x.kids.take k).foldl (fun m y => max m (deepX n y)) 0 + 1 from by rw [← HM.out, fold_all]; rfl)
    have hb := deepX_take n x k
    generalize hq : ((x.kids.take k).foldl (fun m y => max m (deepX n y)) 0) = q at *
    clear hq
    have hqb : 0 ≤ q ∧ q ≤ 1000 := by omega
    clear hb
    go_wp2
    go_ret
    exact ⟨ret_int HE.out.symm, HB.out⟩
set_option maxRecDepth 1000000 in
set_option maxHeartbeats 1600000 in
theorem rq_read (HW : WordOk) (lo : Option Addr) (lc : Nat) (L : List Tok) (k : Nat) (hn : (L.length : Int) ≤ 90000) (hk : k < L.length) (hNB : ∀ j, (tkA L j).kd ≠ 0 → j + 1 < L.length) (htx : ∀ t ∈ L, t.tx.size ≤ 1000000) (w : World) (hT : HasT w lo L) :
  Calls Try.prog 18 #[.slice lo L.length lc, .int .i64 (k : Int)] w fun e w' => RdE w.heap.size (rdO L k) e w' ∧ Below w.heap.size w w' := by
 have HTX := Lib.hid htx
 obtain ⟨n, hnn⟩ : ∃ n, L.length = n := ⟨_, rfl⟩
 have HLN := Lib.hid hnn
 obtain ⟨OS, hOS⟩ : ∃ OS : List Obj, OS = [.cells #[.int .i64 0, .string ⟨#[]⟩, .int .u64 0, .int .u64 0, .int .u64 0, .int .u64 0, .slice none 0 0] 28, .cells #[.int .i64 0, .int .i64 0, .int .i64 0, .int .i64 0] 31, .cells #[.slice lo n lc, .int .i64 (k : Int), .int .i64 0, .int .i64 0, .int .i64 0, .int .i64 0, .int .i64 0] 56] := ⟨_, rfl⟩
 obtain ⟨A, hA⟩ : ∃ A, w.heap.size = A := ⟨_, rfl⟩
 obtain ⟨F, hF⟩ : ∃ F, A + 1 = F := ⟨_, rfl⟩
 obtain ⟨g, hg⟩ : ∃ g, F + 1 = g := ⟨_, rfl⟩
 have HN := Lib.hid (show A + 1 = F ∧ F + 1 = g ∧ w.heap.size = A from ⟨hF, hg, hA⟩)
 have HB := Lib.hid (show Below A w (made w OS) by rw [← hA]; exact made_below w OS w (Below.refl _ _))
 have HA := Lib.hid (show Own (made w OS) A 28 [.int .i64 0, .string ⟨#[]⟩, .int .u64 0, .int .u64 0, .int .u64 0, .int .u64 0, .slice none 0 0] by rw [← hA]; exact made_own OS w 0 _ _ (by rw [hOS]; rfl))
 have HF := Lib.hid (show Own (made w OS) F 31 [.int .i64 0, .int .i64 0, .int .i64 0, .int .i64 0] by rw [← hF, ← hA]; exact made_own OS w 1 _ _ (by rw [hOS]; rfl))
 have HG := Lib.hid (show Rq (made w OS) g lo lc L k 0 none from by
  refine ⟨?_, hT.below (made_below w OS w (Below.refl _ _)), fun a e => ?_⟩
  ·
   rw [hnn, ← hg, ← hF, ← hA]; exact made_own OS w 2 _ _ (by rw [hOS]; rfl)
  ·
   obtain ⟨b, off, h1, h2, -⟩ := hT k L[k] (List.getElem?_eq_getElem hk)
   rw [h1] at e
   injection e with e
   subst e
   show b ≠ g
   omega)
 have HX := Lib.hid (fun (W : World) (hW : Rq W g lo lc L k 0 none) => show Calls Try.prog 26 #[.pointer (some ⟨g, 0, none⟩)] W fun e w' => OutP W g lo lc L 0 (exO L 12 k) e w' from rq_all HW g lo lc L hn hNB htx 12 0 (by omega) (by omega) k hk W hW)
 have HSP := Lib.hid (show rdO L k = rdQ L k (exO L 12 k) from rfl)
 have HBD := Lib.hid (exO_bd (L := L) 12 k)
 have HFT := Lib.hid (exO_ft (M := 90001) (L := L) (by omega) (by omega) 12 k)
 have hW : ((w.alloc (.cells #[.int .i64 0, .string ⟨#[]⟩, .int .u64 0, .int .u64 0, .int .u64 0, .int .u64 0, .slice none 0 0] 28)).alloc (.cells #[.int .i64 0, .int .i64 0, .int .i64 0, .int .i64 0] 31)).alloc (.cells #[.slice lo n lc, .int .i64 (k : Int), .int .i64 0, .int .i64 0, .int .i64 0, .int .i64 0, .int .i64 0] 56) = made w OS := by rw [hOS]; rfl
 have k0 : decide ((k : Int) < 0) = false := decide_eq_false (by omega)
 have k1 : decide ((n : Int) ≤ k) = false := decide_eq_false (by omega)
 have k1n : decide (n ≤ k) = false := decide_eq_false (by omega)
 rw [hnn]
 generalize exO L 12 k = r at *
 generalize rdO L k = RES at *
 have HK := Lib.hid (show k < n by omega)
 have HLO := Lib.hid (fun (a : Addr) (e : lo = some a) => show a.block < A from by
  obtain ⟨b, off, h1, h2, -⟩ := hT k L[k] (List.getElem?_eq_getElem hk)
  rw [h1] at e
  injection e with e
  subst e
  show b < A
  omega)
 clear hOS hT hk hnn htx hNB HW
 go_enter Try.func18, Try.ntmps18
 go_upto_region 4 with fail
 try rw [hA]
 clear hA hF hg hW
 generalize made w OS = w1 at *
 go_wp2_with fail
 refine (HX.out _ HG.out).mono ?_
 rintro e w2 ⟨hbu, X2, ko, kc, b, rfl, hq⟩
 unfold exv
 have HA2 := Lib.hid ((HA.out.but hbu (by have := HN.out; omega)).on_alloc (.cells #[.int .i64 X2.op, .string X2.text, .int .u64 X2.s0, .int .u64 X2.s1, .int .u64 X2.s2, .int .u64 X2.s3, .slice ko X2.kids.length kc] 28))
 have HF2 := Lib.hid ((HF.out.but hbu (by have := HN.out; omega)).on_alloc (.cells #[.int .i64 X2.op, .string X2.text, .int .u64 X2.s0, .int .u64 X2.s1, .int .u64 X2.s2, .int .u64 X2.s3, .slice ko X2.kids.length kc] 28))
 have HB2 := Lib.hid ((HB.out.trans (hbu.below (B := A) (by have := HG.out.1.lt; have := HN.out; omega) (fun j hj => by have := HN.out; omega))).alloc (by have := HG.out.1.lt; have := hbu.size; have := HN.out; omega) (.cells #[.int .i64 X2.op, .string X2.text, .int .u64 X2.s0, .int .u64 X2.s1, .int .u64 X2.s2, .int .u64 X2.s3, .slice ko X2.kids.length kc] 28))
 have HQ2 := Lib.hid (show OutR w1.heap.size g lo lc L 0 r X2 ko b (w2.alloc (.cells #[.int .i64 X2.op, .string X2.text, .int .u64 X2.s0, .int .u64 X2.s1, .int .u64 X2.s2, .int .u64 X2.s3, .slice ko X2.kids.length kc] 28)) from OutR.below hq ((Below.refl _ _).alloc (Nat.le_refl _) _))
 have HE2 := Lib.hid (Own.fresh w2 28 [.int .i64 X2.op, .string X2.text, .int .u64 X2.s0, .int .u64 X2.s1, .int .u64 X2.s2, .int .u64 X2.s3, .slice ko X2.kids.length kc])
 have HS2 := Lib.hid (show g < w1.heap.size ∧ w1.heap.size ≤ w2.heap.size from ⟨HG.out.1.lt, hbu.size⟩)
 clear hbu hq HA HF HG HB HX
 go_upto_region 5 with fail
 generalize w2.alloc _ = w3 at *
 generalize w2.heap.size = E at *
 cases r
 case error f =>
  obtain ⟨rfl, hf, kf, qf, hR⟩ := HQ2.out
  have HD2 := Lib.hid hR
  have HNF := Lib.hid hf
  have HE := Lib.hid (show RES = .error f from HSP.out)
  clear hR hf HQ2 HSP HBD HFT
  obtain ⟨a0, a1, a2, a3, a4, a5, a6, e0, e1, e2, e3, e4, e5, e6⟩ := HA2.out.seven2
  have al := HA2.out.lt
  obtain ⟨b0, b1, b2, b3, d0, d1, d2, d3⟩ := HF2.out.four
  have bl := HF2.out.lt
  have ne1 : ¬ A = g := by have := HN.out; omega
  have ne2 : ¬ g = A := by have := HN.out; omega
  have ne3 : ¬ A = F := by have := HN.out; omega
  have ne4 : ¬ F = A := by have := HN.out; omega
  have ne5 : ¬ F = g := by have := HN.out; omega
  have ne6 : ¬ g = F := by have := HN.out; omega
  obtain ⟨c0, c1, c2, c3, c4, c5, c6⟩ := HD2.out.1.seven
  have cg := HD2.out.1.lt
  simp only [fE, fA] at c3 c4
  have ef : (f.1 == 0) = false := beq_eq_false_iff_ne.2 HNF.out
  have ef2 : ¬ f.1 = 0 := HNF.out
  go_wp2_with fail
  go_region
  go_wp2
  rw [set7t_fold, set4_fold]
  have HFA := ((HA2.out.put7 (u0 := .int .i64 0) (u1 := .string ⟨#[]⟩) (u2 := .int .u64 0) (u3 := .int .u64 0) (u4 := .int .u64 0) (u5 := .int .u64 0) (u6 := .slice none 0 0)).but (But.set4 _ F (.int .i64 f.1) (.int .i64 f.2) (.int .i64 0) (.int .i64 0)) ne3).on_drew
  have HFF := ((HF2.out.but (But.set7 _ A (.int .i64 0) (.string ⟨#[]⟩) (.int .u64 0) (.int .u64 0) (.int .u64 0) (.int .u64 0) (.slice none 0 0)) ne4).put4 (u0 := .int .i64 f.1) (u1 := .int .i64 f.2) (u2 := .int .i64 0) (u3 := .int .i64 0)).on_drew
  have HBB := (below_put4 (below_put7 HB2.out (Nat.le_refl _) (.int .i64 0) (.string ⟨#[]⟩) (.int .u64 0) (.int .u64 0) (.int .u64 0) (.int .u64 0) (.slice none 0 0)) (g := F) (by have := HN.out; omega) (.int .i64 f.1) (.int .i64 f.2) (.int .i64 0) (.int .i64 0)).drew
  have HUU := (((But.refl (fun j => j = A ∨ j = F) w3).trans (But.set7 w3 A (.int .i64 0) (.string ⟨#[]⟩) (.int .u64 0) (.int .u64 0) (.int .u64 0) (.int .u64 0) (.slice none 0 0)) (fun j _ h => .inl h)).trans (But.set4 _ F (.int .i64 f.1) (.int .i64 f.2) (.int .i64 0) (.int .i64 0)) (fun j _ h => .inr h)).drew
  clear a0 a1 a2 a3 a4 a5 a6 e0 e1 e2 e3 e4 e5 e6 al b0 b1 b2 b3 d0 d1 d2 d3 bl c0 c1 c2 c3 c4 c5 c6 cg
  generalize World.drew (set4 (set7t _ _ _ _ _ _ _ _ _) F _ _ _ _) = w9 at *
  obtain ⟨z0, z1, z2, z3, z4, z5, z6⟩ := HFA.seven
  obtain ⟨y0, y1, y2, y3, -⟩ := HFF.four
  refine bodyPost_ret (by simp [results, Try.results18, go_sem, z0, z1, z2, z3, z4, z5, z6, y0, y1, y2, y3]; rfl) rfl ?_
  rw [HE.out, HN.out.2.2]
  exact ⟨⟨rfl, HNF.out⟩, HBB⟩
 case ok pq =>
  obtain ⟨x, m⟩ := pq
  obtain ⟨rfl, hR, hx, n2, hE2⟩ := HQ2.out
  subst hx
  have hml := HBD.out x m rfl
  have hfit : fit 90001 60 x = true := fit_more (HFT.out x m rfl) (by omega)
  have HDE := Lib.hid (deepf_any 90001 (by omega) 60 (by omega) x ko kc w3 hfit (HasK.fit hfit hE2.hask))
  have HD2 := Lib.hid hR
  have HT2 := Lib.hid hE2
  obtain ⟨dz, hdz⟩ : ∃ dz, deepX 60 x = dz := ⟨_, rfl⟩
  have HSQ := Lib.hid (show RES = if 12 < dz then badF L 3 k else .ok (x, m) from by rw [HSP.out, ← hdz]; rfl)
  rw [hdz] at HDE
  obtain ⟨m0, m1, m2, m3, m4, m5, m6, -⟩ := HE2.out.seven2
  have ml := HE2.out.lt
  unfold exv at HDE
  clear hdz hfit hR hE2 HQ2 HSP HBD HFT
  go_wp2_with fail
  refine HDE.out.mono ?_
  rintro e w4 ⟨rfl, hb4⟩
  have HA4 := Lib.hid (HA2.out.under hb4 HA2.out.lt)
  have HF4 := Lib.hid (HF2.out.under hb4 HF2.out.lt)
  have HB4 := Lib.hid (HB2.out.trans (hb4.mono (by have := HA2.out.lt; omega)))
  have HD4 := Lib.hid (HD2.out.below hb4)
  have HE4 := Lib.hid (HE2.out.under hb4 HE2.out.lt)
  have HT4 := Lib.hid (HasE.but (But.of_below (S := fun _ => False) hb4) (fun _ h => h.elim) HT2.out)
  clear hb4 HA2 HF2 HB2 HD2 HE2 HT2 HDE m0 m1 m2 m3 m4 m5 m6 ml
  by_cases h12 : 12 < dz
  ·
   have HE := Lib.hid (show RES = badF L 3 k from HSQ.out.trans (if_pos h12))
   obtain ⟨t, ht⟩ : ∃ t, L[k]? = some t := ⟨_, List.getElem?_eq_getElem (by have := HLN.out; have := HK.out; omega)⟩
   obtain ⟨bb, off, rfl, hbb, t0, t1, t2, t3, t4, t5, t6⟩ := HD4.out.2.1 k t ht
   have HPO := Lib.hid (show ((tkA L k).pos : Int) = (t.pos : Int) from by rw [tkA_in ht])
   have HNF := Lib.hid (show (3 : Int) ≠ 0 by decide)
   have HBL := Lib.hid (show bb < A from HLO.out _ rfl)
   have ne20 : ¬ bb = F := by have := HBL.out; have := HN.out; omega
   have ne21 : ¬ F = bb := fun e => ne20 e.symm
   have ne22 : ¬ bb = A := by have := HBL.out; omega
   have ne23 : ¬ A = bb := fun e => ne22 e.symm
   have k2 : decide ((k : Int) < (n : Int)) = true := decide_eq_true (by have := HK.out; omega)
   have k3 : decide (k < n) = true := decide_eq_true HK.out
   have k4 : (k : Int) < n := by have := HK.out; omega
   clear ht t0 t1 t2 t3 t4 t5 HD4 HE4 HT4
   have HE := Lib.hid (show RES = .error (3, (t.pos : Int)) from by rw [HE.out]; unfold badF; rw [HPO.out])
   generalize (t.pos : Int) = ps at *
   have HA6 := HA4
   have HF6 := HF4
   have HB6 := HB4
   clear HA4 HF4 HB4
   obtain ⟨a0, a1, a2, a3, a4, a5, a6, e0, e1, e2, e3, e4, e5, e6⟩ := HA6.out.seven2
   have al := HA6.out.lt
   obtain ⟨b0, b1, b2, b3, d0, d1, d2, d3⟩ := HF6.out.four
   have bl := HF6.out.lt
   have ne1 : ¬ A = g := by have := HN.out; omega
   have ne2 : ¬ g = A := by have := HN.out; omega
   have ne3 : ¬ A = F := by have := HN.out; omega
   have ne4 : ¬ F = A := by have := HN.out; omega
   have ne5 : ¬ F = g := by have := HN.out; omega
   have ne6 : ¬ g = F := by have := HN.out; omega
   go_wp2_with fail
   go_region
   go_wp2
   rw [set7t_fold, set4_fold]
   have HFA := ((HA6.out.put7 (u0 := .int .i64 0) (u1 := .string ⟨#[]⟩) (u2 := .int .u64 0) (u3 := .int .u64 0) (u4 := .int .u64 0) (u5 := .int .u64 0) (u6 := .slice none 0 0)).but (But.set4 _ F (.int .i64 3) (.int .i64 ps) (.int .i64 0) (.int .i64 0)) ne3).on_drew
   have HFF := ((HF6.out.but (But.set7 _ A (.int .i64 0) (.string ⟨#[]⟩) (.int .u64 0) (.int .u64 0) (.int .u64 0) (.int .u64 0) (.slice none 0 0)) ne4).put4 (u0 := .int .i64 3) (u1 := .int .i64 ps) (u2 := .int .i64 0) (u3 := .int .i64 0)).on_drew
   have HBB := (below_put4 (below_put7 HB6.out (Nat.le_refl _) (.int .i64 0) (.string ⟨#[]⟩) (.int .u64 0) (.int .u64 0) (.int .u64 0) (.int .u64 0) (.slice none 0 0)) (g := F) (by have := HN.out; omega) (.int .i64 3) (.int .i64 ps) (.int .i64 0) (.int .i64 0)).drew
   clear a0 a1 a2 a3 a4 a5 a6 e0 e1 e2 e3 e4 e5 e6 al b0 b1 b2 b3 d0 d1 d2 d3 bl t6 hbb
   generalize World.drew (set4 (set7t _ _ _ _ _ _ _ _ _) F _ _ _ _) = w9 at *
   obtain ⟨z0, z1, z2, z3, z4, z5, z6⟩ := HFA.seven
   obtain ⟨y0, y1, y2, y3, -⟩ := HFF.four
   refine bodyPost_ret (by simp [results, Try.results18, go_sem, z0, z1, z2, z3, z4, z5, z6, y0, y1, y2, y3]; rfl) rfl ?_
   rw [HE.out, HN.out.2.2]
   exact ⟨⟨rfl, HNF.out⟩, HBB⟩
  ·
   have HE := Lib.hid (show RES = .ok (x, m) from HSQ.out.trans (if_neg h12))
   have h12' : decide (12 < dz) = false := decide_eq_false h12
   have ne7 : ¬ A = E := by have := HN.out; have := HS2.out; omega
   have ne8 : ¬ E = A := by have := HN.out; have := HS2.out; omega
   have ne9 : ¬ F = E := by have := HN.out; have := HS2.out; omega
   have neA : ¬ E = F := by have := HN.out; have := HS2.out; omega
   obtain ⟨a0, a1, a2, a3, a4, a5, a6, e0, e1, e2, e3, e4, e5, e6⟩ := HA4.out.seven2
   have al := HA4.out.lt
   obtain ⟨b0, b1, b2, b3, d0, d1, d2, d3⟩ := HF4.out.four
   have bl := HF4.out.lt
   have ne1 : ¬ A = g := by have := HN.out; omega
   have ne2 : ¬ g = A := by have := HN.out; omega
   have ne3 : ¬ A = F := by have := HN.out; omega
   have ne4 : ¬ F = A := by have := HN.out; omega
   have ne5 : ¬ F = g := by have := HN.out; omega
   have ne6 : ¬ g = F := by have := HN.out; omega
   obtain ⟨c0, c1, c2, c3, c4, c5, c6⟩ := HD4.out.1.seven
   have cg := HD4.out.1.lt
   simp only [fE, fA] at c3 c4
   obtain ⟨m0, m1, m2, m3, m4, m5, m6, -⟩ := HE4.out.seven2
   have ml := HE4.out.lt
   go_wp2_with fail
   go_region
   go_wp2
   rw [set7t_fold, set4_fold]
   have HFA := ((HA4.out.put7 (u0 := .int .i64 x.op) (u1 := .string x.text) (u2 := .int .u64 x.s0) (u3 := .int .u64 x.s1) (u4 := .int .u64 x.s2) (u5 := .int .u64 x.s3) (u6 := .slice ko x.kids.length kc)).but (But.set4 _ F (.int .i64 0) (.int .i64 0) (.int .i64 0) (.int .i64 0)) ne3).on_drew
   have HFF := ((HF4.out.but (But.set7 _ A (.int .i64 x.op) (.string x.text) (.int .u64 x.s0) (.int .u64 x.s1) (.int .u64 x.s2) (.int .u64 x.s3) (.slice ko x.kids.length kc)) ne4).put4 (u0 := .int .i64 0) (u1 := .int .i64 0) (u2 := .int .i64 0) (u3 := .int .i64 0)).on_drew
   have HBB := (below_put4 (below_put7 HB4.out (Nat.le_refl _) (.int .i64 x.op) (.string x.text) (.int .u64 x.s0) (.int .u64 x.s1) (.int .u64 x.s2) (.int .u64 x.s3) (.slice ko x.kids.length kc)) (g := F) (by have := HN.out; omega) (.int .i64 0) (.int .i64 0) (.int .i64 0) (.int .i64 0)).drew
   have HUU := (((But.refl (fun j => j = A ∨ j = F) w4).trans (But.set7 w4 A (.int .i64 x.op) (.string x.text) (.int .u64 x.s0) (.int .u64 x.s1) (.int .u64 x.s2) (.int .u64 x.s3) (.slice ko x.kids.length kc)) (fun j _ h => .inl h)).trans (But.set4 _ F (.int .i64 0) (.int .i64 0) (.int .i64 0) (.int .i64 0)) (fun j _ h => .inr h)).drew
   clear a0 a1 a2 a3 a4 a5 a6 e0 e1 e2 e3 e4 e5 e6 al b0 b1 b2 b3 d0 d1 d2 d3 bl c0 c1 c2 c3 c4 c5 c6 cg
   generalize World.drew (set4 (set7t _ _ _ _ _ _ _ _ _) F _ _ _ _) = w9 at *
   obtain ⟨z0, z1, z2, z3, z4, z5, z6⟩ := HFA.seven
   obtain ⟨y0, y1, y2, y3, -⟩ := HFF.four
   refine bodyPost_ret (by simp [results, Try.results18, go_sem, z0, z1, z2, z3, z4, z5, z6, y0, y1, y2, y3]; rfl) rfl ?_
   rw [HE.out, HN.out.2.2]
   exact ⟨⟨ko, kc, n2, rfl, HasE.low (by have := HN.out; have := HS2.out; omega) (HasE.but HUU (fun j hj => by have := HN.out; have := HS2.out; omega) HT4.out)⟩, HBB⟩
end Go.Proofs.Ytonknapfndaalaa

namespace Go.Proofs.Ytonknapfndaalaa
set_option linter.unusedVariables false
set_option maxRecDepth 1000000
open Go.RowKit Go.Sort
/-- What the program's tokens of a text are. -/
def AllOk : Prop := ∀ (s : ByteArray) (hs : s.size ≤ 4000) (w : World), Calls Try.prog 19 #[.string s] w fun e w' => AllE (allO s) (w.heap.size + 1) e w' ∧ Below w.heap.size w w'
set_option maxRecDepth 1000000 in
set_option maxHeartbeats 6400000 in
theorem rq_parse (HW : WordOk) (HALL : AllOk) (s : ByteArray) (hs : s.size ≤ 4000) (w : World) : Calls Try.prog 9 #[.string s] w fun e w' => PsE w.heap.size (psO s) e w' ∧ Below w.heap.size w w' := by
 obtain ⟨OS, hOS⟩ : ∃ OS : List Obj, OS = [.cells #[.int .i64 0, .string ⟨#[]⟩, .int .u64 0, .int .u64 0, .int .u64 0, .int .u64 0, .slice none 0 0] 28, .cells #[.int .i64 0, .int .i64 0, .int .i64 0, .int .i64 0] 31] := ⟨_, rfl⟩
 obtain ⟨A, hA⟩ : ∃ A, w.heap.size = A := ⟨_, rfl⟩
 obtain ⟨F, hF⟩ : ∃ F, A + 1 = F := ⟨_, rfl⟩
 have HN := Lib.hid (show A + 1 = F ∧ w.heap.size = A from ⟨hF, hA⟩)
 have HA := Lib.hid (show Own (made w OS) A 28 [.int .i64 0, .string ⟨#[]⟩, .int .u64 0, .int .u64 0, .int .u64 0, .int .u64 0, .slice none 0 0] by rw [← hA]; exact made_own OS w 0 _ _ (by rw [hOS]; rfl))
 have HF := Lib.hid (show Own (made w OS) F 31 [.int .i64 0, .int .i64 0, .int .i64 0, .int .i64 0] by rw [← hF, ← hA]; exact made_own OS w 1 _ _ (by rw [hOS]; rfl))
 have HB := Lib.hid (show Below A w (made w OS) by rw [← hA]; exact made_below w OS w (Below.refl _ _))
 have HAL := Lib.hid (fun W => HALL s hs W)
 have hW : (w.alloc (.cells #[.int .i64 0, .string ⟨#[]⟩, .int .u64 0, .int .u64 0, .int .u64 0, .int .u64 0, .slice none 0 0] 28)).alloc (.cells #[.int .i64 0, .int .i64 0, .int .i64 0, .int .i64 0] 31) = made w OS := by rw [hOS]; rfl
 have HSP := Lib.hid (show psO s = (match allO s with | .error k => .error (2, (k : Int)) | .ok L => psL L (rdO L 0)) from rfl)
 obtain ⟨ra, hra⟩ : ∃ r, allO s = r := ⟨_, rfl⟩
 have HRA := Lib.hid hra
 rw [hra] at HAL HSP
 generalize psO s = RES at *
 clear hOS hra HALL
 have ne1 : ¬ A = F := by omega
 have ne2 : ¬ F = A := by omega
 go_enter Try.func9, Try.ntmps9
 go_upto_region 1 with fail
 try rw [hA]
 clear hA hF hW
 generalize made w OS = w1 at *
 go_wp2_with fail
 refine (HAL.out _).mono ?_
 rintro e w2 ⟨he, hb⟩
 have HA2 := Lib.hid (HA.out.under hb HA.out.lt)
 have HF2 := Lib.hid (HF.out.under hb HF.out.lt)
 have HB2 := Lib.hid (HB.out.trans (hb.mono (by have := HA.out.lt; omega)))
 have HS2 := Lib.hid (show F < w2.heap.size from HF2.out.lt)
 have HS1 := Lib.hid (show F < w1.heap.size from HF.out.lt)
 clear hb HA HF HB HAL
 cases ra
 case error k =>
  obtain rfl : e = .returned (.tuple #[.slice none 0 0, .agg #[.int .i64 2, .int .i64 (k : Int), .int .i64 0, .int .i64 0]]) := he
  have HE := Lib.hid (show RES = .error (2, (k : Int)) from HSP.out)
  have hbl1 : Below w2.heap.size w2 (w2.alloc (.cells #[.int .i64 2, .int .i64 (k : Int), .int .i64 0, .int .i64 0] 31)) := (Below.refl _ _).alloc (Nat.le_refl _) _
  have HA3 := Lib.hid (HA2.out.under hbl1 HA2.out.lt)
  have HF3 := Lib.hid (HF2.out.under hbl1 HF2.out.lt)
  have HB3 := Lib.hid (HB2.out.trans (hbl1.mono (by have := HS2.out; have := HN.out; omega)))
  have HO3 := Lib.hid (Own.fresh w2 31 [.int .i64 2, .int .i64 (k : Int), .int .i64 0, .int .i64 0])
  clear hbl1 HA2 HF2 HB2
  go_upto_region 2 with fail
  generalize w2.alloc _ = w3 at *
  generalize w2.heap.size = G at *
  obtain ⟨a0, a1, a2, a3, a4, a5, a6, e0, e1, e2, e3, e4, e5, e6⟩ := HA3.out.seven2
  have al := HA3.out.lt
  obtain ⟨b0, b1, b2, b3, d0, d1, d2, d3⟩ := HF3.out.four
  have bl := HF3.out.lt
  obtain ⟨c0, c1, c2, c3, -⟩ := HO3.out.four
  have cl := HO3.out.lt
  have ne3 : ¬ A = G := by have := HS2.out; have := HN.out; omega
  have ne4 : ¬ G = A := fun e => ne3 e.symm
  have ne5 : ¬ F = G := by have := HS2.out; omega
  have ne6 : ¬ G = F := fun e => ne5 e.symm
  go_wp2_with fail
  go_region
  go_wp2
  rw [set7t_fold, set4_fold]
  have HFA := ((HA3.out.put7 (u0 := .int .i64 0) (u1 := .string ⟨#[]⟩) (u2 := .int .u64 0) (u3 := .int .u64 0) (u4 := .int .u64 0) (u5 := .int .u64 0) (u6 := .slice none 0 0)).but (But.set4 _ F (.int .i64 2) (.int .i64 (k : Int)) (.int .i64 0) (.int .i64 0)) ne1).on_drew
  have HFF := ((HF3.out.but (But.set7 _ A (.int .i64 0) (.string ⟨#[]⟩) (.int .u64 0) (.int .u64 0) (.int .u64 0) (.int .u64 0) (.slice none 0 0)) ne2).put4 (u0 := .int .i64 2) (u1 := .int .i64 (k : Int)) (u2 := .int .i64 0) (u3 := .int .i64 0)).on_drew
  have HBB := (below_put4 (below_put7 HB3.out (Nat.le_refl _) (.int .i64 0) (.string ⟨#[]⟩) (.int .u64 0) (.int .u64 0) (.int .u64 0) (.int .u64 0) (.slice none 0 0)) (g := F) (by have := HN.out; omega) (.int .i64 2) (.int .i64 (k : Int)) (.int .i64 0) (.int .i64 0)).drew
  clear a0 a1 a2 a3 a4 a5 a6 e0 e1 e2 e3 e4 e5 e6 al b0 b1 b2 b3 d0 d1 d2 d3 bl c0 c1 c2 c3 cl
  generalize World.drew (set4 (set7t _ _ _ _ _ _ _ _ _) F _ _ _ _) = w9 at *
  obtain ⟨z0, z1, z2, z3, z4, z5, z6⟩ := HFA.seven
  obtain ⟨y0, y1, y2, y3, -⟩ := HFF.four
  refine bodyPost_ret (by simp [results, Try.results9, go_sem, z0, z1, z2, z3, z4, z5, z6, y0, y1, y2, y3]; rfl) rfl ?_
  rw [HE.out, HN.out.2]
  exact ⟨⟨rfl, (by show (2 : Int) ≠ 0; decide)⟩, HBB⟩
 case ok L =>
  obtain ⟨v, rfl, hown⟩ := he
  obtain ⟨lo, lc, rfl⟩ := own7_form hown
  obtain ⟨L', t0, hL', ht0⟩ := allF_last _ _ _ HRA.out
  have hLL : L.length = L'.length + 1 := by rw [hL']; simp
  have HNB := Lib.hid (show ∀ k, (tkA L k).kd ≠ 0 → k < L'.length from by rw [hL']; exact tkA_end ht0)
  have hLn : (L.length : Int) ≤ 90000 := by have := allF_len _ _ _ HRA.out; omega
  have HTX : ∀ t ∈ L, t.tx.size ≤ 1000000 := fun t ht => by have := allF_text _ _ _ (Nat.zero_le _) HRA.out t ht; omega
  clear hL' ht0
  obtain ⟨NN, hNN⟩ : ∃ n, L'.length = n := ⟨_, rfl⟩
  rw [hNN] at HNB hLL
  obtain ⟨n, hnn⟩ : ∃ n, L.length = n := ⟨_, rfl⟩
  have HBE := Lib.hid (fun x m (h : rdO L 0 = .ok (x, m)) => show m ≤ NN from by
   unfold rdO at h
   cases hq : exO L 12 0 with
   | error e => simp [hq] at h
   | ok p =>
    obtain ⟨y, m'⟩ := p
    simp only [hq] at h
    split at h
    ·
     cases h
    ·
     obtain ⟨rfl, rfl⟩ : y = x ∧ m' = m := by simpa using h
     exact (exO_be HNB.out 12 0 y m' hq).2)
  have HRD := Lib.hid (fun W (hT : HasT W lo L) => show Calls Try.prog 18 #[.slice lo n lc, .int .i64 0] W fun e w' => RdE W.heap.size (rdO L 0) e w' ∧ Below W.heap.size W w' from by
   have h := rq_read HW lo lc L 0 hLn (by omega) (fun j h => by have := HNB.out j h; omega) HTX W hT
   rw [hnn] at h
   exact h)
  have HT2 := Lib.hid (own7_has hown)
  have HLO := Lib.hid (fun (a : Addr) (e : lo = some a) => show a.block < w2.heap.size ∧ F < a.block from by
   obtain ⟨g, h1, h2, h3, -⟩ := own7_cell hown (by omega)
   rw [h1] at e
   injection e with e
   subst e
   have := HS1.out
   exact ⟨h3, by show F < g; omega⟩)
  have HLN := Lib.hid (show L.length = n ∧ n = NN + 1 from ⟨hnn, by omega⟩)
  have HSQ := Lib.hid (show RES = psL L (rdO L 0) from HSP.out)
  have hnb : (n : Int) ≤ 90000 := by omega
  rw [hnn] at hown
  rw [hnn]
  clear hnn hLL hNN HTX HSP HNB hLn hown HW
  have hbl1 : Below w2.heap.size w2 (w2.alloc (.cells #[.int .i64 0, .int .i64 0, .int .i64 0, .int .i64 0] 31)) := (Below.refl _ _).alloc (Nat.le_refl _) _
  have HA3 := Lib.hid (HA2.out.under hbl1 HA2.out.lt)
  have HF3 := Lib.hid (HF2.out.under hbl1 HF2.out.lt)
  have HB3 := Lib.hid (HB2.out.trans (hbl1.mono (by have := HS2.out; have := HN.out; omega)))
  have HO3 := Lib.hid (Own.fresh w2 31 [.int .i64 0, .int .i64 0, .int .i64 0, .int .i64 0])
  have HT3 := Lib.hid (HT2.out.below hbl1)
  clear hbl1 HA2 HF2 HB2 HT2
  go_upto_region 2 with fail
  generalize w2.alloc _ = w3 at *
  obtain ⟨G, hG⟩ : ∃ G, w2.heap.size = G := ⟨_, rfl⟩
  rw [hG] at HO3 HS2 HLO
  try rw [hG]
  clear hG
  have ne3 : ¬ A = G := by have := HS2.out; have := HN.out; omega
  have ne4 : ¬ G = A := fun e => ne3 e.symm
  have ne5 : ¬ F = G := by have := HS2.out; omega
  have ne6 : ¬ G = F := fun e => ne5 e.symm
  obtain ⟨c0, c1, c2, c3, h0, h1, h2, h3⟩ := HO3.out.four
  have cl := HO3.out.lt
  go_wp2_with fail
  refine (HRD.out _ HT3.out).mono ?_
  rintro e w4 ⟨he, hb4⟩
  clear c0 c1 c2 c3 h0 h1 h2 h3 cl
  have HA4 := Lib.hid (HA3.out.under hb4 HA3.out.lt)
  have HF4 := Lib.hid (HF3.out.under hb4 HF3.out.lt)
  have HO4 := Lib.hid (HO3.out.under hb4 HO3.out.lt)
  have HB4 := Lib.hid (HB3.out.trans (hb4.mono (by have := HA3.out.lt; omega)))
  have HT4 := Lib.hid (HT3.out.below hb4)
  have HS4 := Lib.hid (show A < w3.heap.size ∧ F < w3.heap.size from ⟨HA3.out.lt, HF3.out.lt⟩)
  have HS3 := Lib.hid (show G < w3.heap.size from HO3.out.lt)
  clear hb4 HA3 HF3 HO3 HB3 HT3 HRD
  obtain ⟨rr, hrr⟩ : ∃ r, rdO L 0 = r := ⟨_, rfl⟩
  rw [hrr] at HBE HSQ he
  clear hrr
  cases rr
  case error f =>
   obtain ⟨rfl, hf⟩ := he
   have HNF := Lib.hid hf
   have HE := Lib.hid (show RES = .error f from HSQ.out)
   clear hf
   have hbl1 : Below w4.heap.size w4 (w4.alloc (.cells #[.int .i64 0, .string ⟨#[]⟩, .int .u64 0, .int .u64 0, .int .u64 0, .int .u64 0, .slice none 0 0] 28)) := (Below.refl _ _).alloc (Nat.le_refl _) _
   have HST := Lib.hid (store4_run (HO4.out.under hbl1 HO4.out.lt) f.1 f.2)
   have hbz : But (fun j => j = G) (w4.alloc (.cells #[.int .i64 0, .string ⟨#[]⟩, .int .u64 0, .int .u64 0, .int .u64 0, .int .u64 0, .slice none 0 0] 28)) (set4 (w4.alloc (.cells #[.int .i64 0, .string ⟨#[]⟩, .int .u64 0, .int .u64 0, .int .u64 0, .int .u64 0, .slice none 0 0] 28)) G (.int .i64 f.1) (.int .i64 f.2) (.int .i64 0) (.int .i64 0)) := But.set4 _ G (.int .i64 f.1) (.int .i64 f.2) (.int .i64 0) (.int .i64 0)
   have HA5 := Lib.hid ((HA4.out.under hbl1 HA4.out.lt).but hbz ne3)
   have HF5 := Lib.hid ((HF4.out.under hbl1 HF4.out.lt).but hbz ne5)
   have HO5 := Lib.hid ((HO4.out.under hbl1 HO4.out.lt).put4 (u0 := .int .i64 f.1) (u1 := .int .i64 f.2) (u2 := .int .i64 0) (u3 := .int .i64 0))
   have HB5 := Lib.hid (below_put4 (HB4.out.trans (hbl1.mono (by have := HA4.out.lt; omega))) (g := G) (by have := HS2.out; have := HN.out; omega) (.int .i64 f.1) (.int .i64 f.2) (.int .i64 0) (.int .i64 0))
   obtain ⟨w5, hw5⟩ : ∃ w5, set4 (w4.alloc (.cells #[.int .i64 0, .string ⟨#[]⟩, .int .u64 0, .int .u64 0, .int .u64 0, .int .u64 0, .slice none 0 0] 28)) G (.int .i64 f.1) (.int .i64 f.2) (.int .i64 0) (.int .i64 0) = w5 := ⟨_, rfl⟩
   rw [hw5] at HST HA5 HF5 HO5 HB5
   unfold exv ex0
   simp only [Ex.op, Ex.text, Ex.s0, Ex.s1, Ex.s2, Ex.s3, Ex.kids, List.length_nil]
   clear hbl1 hbz hw5
   obtain ⟨a0, a1, a2, a3, a4, a5, a6, e0, e1, e2, e3, e4, e5, e6⟩ := HA5.out.seven2
   have al := HA5.out.lt
   obtain ⟨b0, b1, b2, b3, d0, d1, d2, d3⟩ := HF5.out.four
   have bl := HF5.out.lt
   obtain ⟨c0, c1, c2, c3, -⟩ := HO5.out.four
   have cl := HO5.out.lt
   have ef : (f.1 == 0) = false := beq_eq_false_iff_ne.2 HNF.out
   have ef1 : decide (f.1 = 0) = false := decide_eq_false HNF.out
   have ef2 : ¬ f.1 = 0 := HNF.out
   go_wp2_with (with_reducible refine wpList_store_lit (.pointer (some ⟨G, 0, none⟩)) (.agg #[.int .i64 f.1, .int .i64 f.2, .int .i64 0, .int .i64 0]) HST.out ?_ ?_ ?_)
   ·
    rfl
   ·
    rfl
   clear HST
   go_wp2_with fail
   go_region
   go_wp2
   rw [set7t_fold, set4_fold]
   have HFA := ((HA5.out.put7 (u0 := .int .i64 0) (u1 := .string ⟨#[]⟩) (u2 := .int .u64 0) (u3 := .int .u64 0) (u4 := .int .u64 0) (u5 := .int .u64 0) (u6 := .slice none 0 0)).but (But.set4 _ F (.int .i64 f.1) (.int .i64 f.2) (.int .i64 0) (.int .i64 0)) ne1).on_drew
   have HFF := ((HF5.out.but (But.set7 _ A (.int .i64 0) (.string ⟨#[]⟩) (.int .u64 0) (.int .u64 0) (.int .u64 0) (.int .u64 0) (.slice none 0 0)) ne2).put4 (u0 := .int .i64 f.1) (u1 := .int .i64 f.2) (u2 := .int .i64 0) (u3 := .int .i64 0)).on_drew
   have HBB := (below_put4 (below_put7 HB5.out (Nat.le_refl _) (.int .i64 0) (.string ⟨#[]⟩) (.int .u64 0) (.int .u64 0) (.int .u64 0) (.int .u64 0) (.slice none 0 0)) (g := F) (by have := HN.out; omega) (.int .i64 f.1) (.int .i64 f.2) (.int .i64 0) (.int .i64 0)).drew
   clear a0 a1 a2 a3 a4 a5 a6 e0 e1 e2 e3 e4 e5 e6 al b0 b1 b2 b3 d0 d1 d2 d3 bl c0 c1 c2 c3 cl
   generalize World.drew (set4 (set7t _ _ _ _ _ _ _ _ _) F _ _ _ _) = w9 at *
   obtain ⟨z0, z1, z2, z3, z4, z5, z6⟩ := HFA.seven
   obtain ⟨y0, y1, y2, y3, -⟩ := HFF.four
   refine bodyPost_ret (by simp [results, Try.results9, go_sem, z0, z1, z2, z3, z4, z5, z6, y0, y1, y2, y3]; rfl) rfl ?_
   rw [HE.out, HN.out.2]
   exact ⟨⟨rfl, HNF.out⟩, HBB⟩
  case ok p =>
   obtain ⟨x, m⟩ := p
   obtain ⟨ko, kc, n2, rfl, hE⟩ := he
   have hmn : m < n := by have := HBE.out x m rfl; have := HLN.out.2; omega
   have HMN := Lib.hid hmn
   obtain ⟨t, ht⟩ : ∃ t, L[m]? = some t := ⟨_, List.getElem?_eq_getElem (by have := HLN.out.1; omega)⟩
   have HSR := Lib.hid (show RES = if t.kd = 0 then .ok x else .error (2, (t.pos : Int)) from by rw [HSQ.out]; unfold psL; simp only; rw [tkA_in ht])
   obtain ⟨E, hE'⟩ : ∃ E, w4.heap.size = E := ⟨_, rfl⟩
   have ne7 : ¬ E = G := by have := HO4.out.lt; omega
   have ne8 : ¬ G = E := fun e => ne7 e.symm
   have ne9 : ¬ A = E := by have := HA4.out.lt; omega
   have ne10 : ¬ E = A := fun e => ne9 e.symm
   have ne11 : ¬ F = E := by have := HF4.out.lt; omega
   have ne12 : ¬ E = F := fun e => ne11 e.symm
   obtain ⟨o, ho⟩ : ∃ o, x.op = o := ⟨_, rfl⟩
   obtain ⟨tx, htx⟩ : ∃ o, x.text = o := ⟨_, rfl⟩
   obtain ⟨q0, hq0⟩ : ∃ o, x.s0 = o := ⟨_, rfl⟩
   obtain ⟨q1, hq1⟩ : ∃ o, x.s1 = o := ⟨_, rfl⟩
   obtain ⟨q2, hq2⟩ : ∃ o, x.s2 = o := ⟨_, rfl⟩
   obtain ⟨q3, hq3⟩ : ∃ o, x.s3 = o := ⟨_, rfl⟩
   obtain ⟨nk, hnk⟩ : ∃ o, x.kids.length = o := ⟨_, rfl⟩
   have HEX := Lib.hid (show exv x ko kc = .agg #[.int .i64 o, .string tx, .int .u64 q0, .int .u64 q1, .int .u64 q2, .int .u64 q3, .slice ko nk kc] from by unfold exv; rw [ho, htx, hq0, hq1, hq2, hq3, hnk])
   rw [HEX.out]
   have hbl1 : Below w4.heap.size w4 (w4.alloc (.cells #[.int .i64 o, .string tx, .int .u64 q0, .int .u64 q1, .int .u64 q2, .int .u64 q3, .slice ko nk kc] 28)) := (Below.refl _ _).alloc (Nat.le_refl _) _
   have hbz : But (fun j => j = G) (w4.alloc (.cells #[.int .i64 o, .string tx, .int .u64 q0, .int .u64 q1, .int .u64 q2, .int .u64 q3, .slice ko nk kc] 28)) (set4 (w4.alloc (.cells #[.int .i64 o, .string tx, .int .u64 q0, .int .u64 q1, .int .u64 q2, .int .u64 q3, .slice ko nk kc] 28)) G (.int .i64 0) (.int .i64 0) (.int .i64 0) (.int .i64 0)) := But.set4 _ G (.int .i64 0) (.int .i64 0) (.int .i64 0) (.int .i64 0)
   have HA5 := Lib.hid ((HA4.out.under hbl1 HA4.out.lt).but hbz ne3)
   have HF5 := Lib.hid ((HF4.out.under hbl1 HF4.out.lt).but hbz ne5)
   have HX5 := Lib.hid (show Own (set4 (w4.alloc (.cells #[.int .i64 o, .string tx, .int .u64 q0, .int .u64 q1, .int .u64 q2, .int .u64 q3, .slice ko nk kc] 28)) G (.int .i64 0) (.int .i64 0) (.int .i64 0) (.int .i64 0)) E 28 [.int .i64 o, .string tx, .int .u64 q0, .int .u64 q1, .int .u64 q2, .int .u64 q3, .slice ko nk kc] from by
    rw [← hE'] at ne7 ⊢
    exact (Own.fresh w4 28 [.int .i64 o, .string tx, .int .u64 q0, .int .u64 q1, .int .u64 q2, .int .u64 q3, .slice ko nk kc]).but hbz ne7)
   have HO5 := Lib.hid ((HO4.out.under hbl1 HO4.out.lt).put4 (u0 := .int .i64 0) (u1 := .int .i64 0) (u2 := .int .i64 0) (u3 := .int .i64 0))
   have HB5 := Lib.hid (below_put4 (HB4.out.trans (hbl1.mono (by have := HA4.out.lt; omega))) (g := G) (by have := HS2.out; have := HN.out; omega) (.int .i64 0) (.int .i64 0) (.int .i64 0) (.int .i64 0))
   have HK5 := Lib.hid (HasE.but hbz (fun j hj => by have := HS3.out; omega) (HasE.but (But.of_below (S := fun _ => False) hbl1) (fun _ h => h.elim) hE))
   have HT5 := Lib.hid (HasT.but (HT4.out.below hbl1) (fun a e => by have := (HLO.out a e).1; omega) hbz)
   have HST := Lib.hid (store4_run (HO4.out.under hbl1 HO4.out.lt) 0 0)
   obtain ⟨w5, hw5⟩ : ∃ w5, set4 (w4.alloc (.cells #[.int .i64 o, .string tx, .int .u64 q0, .int .u64 q1, .int .u64 q2, .int .u64 q3, .slice ko nk kc] 28)) G (.int .i64 0) (.int .i64 0) (.int .i64 0) (.int .i64 0) = w5 := ⟨_, rfl⟩
   rw [hw5] at HST HA5 HF5 HX5 HO5 HB5 HK5 HT5
   clear hw5
   clear hbl1 hbz ho htx hq0 hq1 hq2 hq3 hE HBE
   have HNK := Lib.hid hnk
   clear hnk
   obtain ⟨bb, off, hlo, hbb, t0, t1, t2, t3, t4, t5, t6⟩ := HT5.out m t ht
   subst hlo
   clear ht HT5 HLO
   obtain ⟨c0, c1, c2, c3, -⟩ := HO5.out.four
   have cl := HO5.out.lt
   have hm1 : decide ((m : Int) < (n : Int)) = true := decide_eq_true (by omega)
   have hm2 : decide (m < n) = true := decide_eq_true hmn
   obtain ⟨pos, hpos⟩ : ∃ z, (t.pos : Int) = z := ⟨_, rfl⟩
   obtain ⟨tt, htt⟩ : ∃ z, t.tx = z := ⟨_, rfl⟩
   obtain ⟨r0, hr0⟩ : ∃ z, (t.st.1 : Int) = z := ⟨_, rfl⟩
   obtain ⟨r1, hr1⟩ : ∃ z, (t.st.2.1 : Int) = z := ⟨_, rfl⟩
   obtain ⟨r2, hr2⟩ : ∃ z, (t.st.2.2.1 : Int) = z := ⟨_, rfl⟩
   obtain ⟨r3, hr3⟩ : ∃ z, (t.st.2.2.2 : Int) = z := ⟨_, rfl⟩
   rw [htt] at t1
   rw [hr0] at t2
   rw [hr1] at t3
   rw [hr2] at t4
   rw [hr3] at t5
   rw [hpos] at t6 HSR
   clear hpos htt hr0 hr1 hr2 hr3
   by_cases hkd : t.kd = 0
   ·
    have HE := Lib.hid (show RES = .ok x from HSR.out.trans (if_pos hkd))
    rw [hkd] at t0
    have t0' : w5.cell? ⟨bb, off + m * 7, none⟩ = some (.int .i64 0) := t0
    clear t0 hkd
    have t0 := t0'
    clear t0'
    have hbl2 : Below w5.heap.size w5 (w5.alloc (.cells #[.int .i64 0, .string tt, .int .u64 r0, .int .u64 r1, .int .u64 r2, .int .u64 r3, .int .i64 pos] 48)) := (Below.refl _ _).alloc (Nat.le_refl _) _
    have HA6 := Lib.hid (HA5.out.under hbl2 HA5.out.lt)
    have HF6 := Lib.hid (HF5.out.under hbl2 HF5.out.lt)
    have HX6 := Lib.hid (HX5.out.under hbl2 HX5.out.lt)
    have HB6 := Lib.hid (HB5.out.trans (hbl2.mono (by have := HA5.out.lt; omega)))
    have HK6 := Lib.hid (HasE.but (But.of_below (S := fun _ => False) hbl2) (fun _ h => h.elim) HK5.out)
    have HT6 := Lib.hid (show Own (w5.alloc (.cells #[.int .i64 0, .string tt, .int .u64 r0, .int .u64 r1, .int .u64 r2, .int .u64 r3, .int .i64 pos] 48)) w5.heap.size 48 [.int .i64 0, .string tt, .int .u64 r0, .int .u64 r1, .int .u64 r2, .int .u64 r3, .int .i64 pos] from Own.fresh w5 _ _)
    have HS6 := Lib.hid (show A < w5.heap.size ∧ F < w5.heap.size ∧ E < w5.heap.size from ⟨HA5.out.lt, HF5.out.lt, HX5.out.lt⟩)
    clear hbl2
    obtain ⟨a0, a1, a2, a3, a4, a5, a6, e0, e1, e2, e3, e4, e5, e6⟩ := HA6.out.seven2
    have al := HA6.out.lt
    obtain ⟨b0, b1, b2, b3, d0, d1, d2, d3⟩ := HF6.out.four
    have bl := HF6.out.lt
    obtain ⟨x0, x1, x2, x3, x4, x5, x6, -⟩ := HX6.out.seven2
    have xl := HX6.out.lt
    go_wp2_with (with_reducible refine wpList_store_lit (.pointer (some ⟨G, 0, none⟩)) (.agg #[.int .i64 0, .int .i64 0, .int .i64 0, .int .i64 0]) HST.out ?_ ?_ ?_)
    ·
     rfl
    ·
     rfl
    try rw [hE']
    clear HST
    go_wp2
    clear a0 a1 a2 a3 a4 a5 a6 e0 e1 e2 e3 e4 e5 e6 al b0 b1 b2 b3 d0 d1 d2 d3 bl x0 x1 x2 x3 x4 x5 x6 xl t0 t1 t2 t3 t4 t5 t6 c0 c1 c2 c3 cl hbb
    generalize w5.alloc _ = w6 at *
    obtain ⟨TT, hTT⟩ : ∃ q, w5.heap.size = q := ⟨_, rfl⟩
    rw [hTT] at HT6 HS6
    try rw [hTT]
    clear hTT HA5 HF5 HX5 HB5 HK5 HO5
    have ne20 : ¬ TT = F := by have := HS6.out; omega
    have ne21 : ¬ F = TT := fun e => ne20 e.symm
    have ne22 : ¬ TT = A := by have := HS6.out; omega
    have ne23 : ¬ A = TT := fun e => ne22 e.symm
    rw [set7t_fold, set4_fold]
    have HFA := ((HA6.out.put7 (u0 := .int .i64 o) (u1 := .string tx) (u2 := .int .u64 q0) (u3 := .int .u64 q1) (u4 := .int .u64 q2) (u5 := .int .u64 q3) (u6 := .slice ko nk kc)).but (But.set4 _ F (.int .i64 0) (.int .i64 0) (.int .i64 0) (.int .i64 0)) ne1)
    have HFF := ((HF6.out.but (But.set7 _ A (.int .i64 o) (.string tx) (.int .u64 q0) (.int .u64 q1) (.int .u64 q2) (.int .u64 q3) (.slice ko nk kc)) ne2).put4 (u0 := .int .i64 0) (u1 := .int .i64 0) (u2 := .int .i64 0) (u3 := .int .i64 0))
    have HBB := (below_put4 (below_put7 HB6.out (Nat.le_refl _) (.int .i64 o) (.string tx) (.int .u64 q0) (.int .u64 q1) (.int .u64 q2) (.int .u64 q3) (.slice ko nk kc)) (g := F) (by have := HN.out; omega) (.int .i64 0) (.int .i64 0) (.int .i64 0) (.int .i64 0))
    have HKK := HasE.but ((((But.refl (fun j => j = A ∨ j = F) w6).trans (But.set7 w6 A (.int .i64 o) (.string tx) (.int .u64 q0) (.int .u64 q1) (.int .u64 q2) (.int .u64 q3) (.slice ko nk kc)) (fun j _ h => .inl h)).trans (But.set4 _ F (.int .i64 0) (.int .i64 0) (.int .i64 0) (.int .i64 0)) (fun j _ h => .inr h))) (fun j hj => by have := HS3.out; have := HS4.out; have := HS2.out; rcases hj with rfl | rfl <;> omega) HK6.out
    generalize set4 (set7t _ _ _ _ _ _ _ _ _) F _ _ _ _ = w9 at *
    obtain ⟨z0, z1, z2, z3, z4, z5, z6⟩ := HFA.seven
    obtain ⟨y0, y1, y2, y3, -⟩ := HFF.four
    refine bodyPost_ret (by simp [results, Try.results9, go_sem, z0, z1, z2, z3, z4, z5, z6, y0, y1, y2, y3]; rfl) rfl ?_
    rw [HE.out]
    refine ⟨⟨ko, kc, n2, by rw [HEX.out], HasE.low (by have := HS3.out; have := HS2.out; have := HN.out; omega) HKK⟩, by rw [HN.out.2]; exact HBB⟩
   ·
    have HE := Lib.hid (show RES = .error (2, pos) from HSR.out.trans (if_neg hkd))
    have kd1 : ((t.kd : Int) == 0) = false := beq_eq_false_iff_ne.2 (by omega)
    have kd2 : decide ((t.kd : Int) = 0) = false := decide_eq_false (by omega)
    have kd3 : ¬ (t.kd : Int) = 0 := by omega
    generalize (t.kd : Int) = kd at *
    clear hkd
    have hbl2 : Below w5.heap.size w5 (w5.alloc (.cells #[.int .i64 kd, .string tt, .int .u64 r0, .int .u64 r1, .int .u64 r2, .int .u64 r3, .int .i64 pos] 48)) := (Below.refl _ _).alloc (Nat.le_refl _) _
    have HA6 := Lib.hid (HA5.out.under hbl2 HA5.out.lt)
    have HF6 := Lib.hid (HF5.out.under hbl2 HF5.out.lt)
    have HX6 := Lib.hid (HX5.out.under hbl2 HX5.out.lt)
    have HB6 := Lib.hid (HB5.out.trans (hbl2.mono (by have := HA5.out.lt; omega)))
    have HK6 := Lib.hid (HasE.but (But.of_below (S := fun _ => False) hbl2) (fun _ h => h.elim) HK5.out)
    have HT6 := Lib.hid (show Own (w5.alloc (.cells #[.int .i64 kd, .string tt, .int .u64 r0, .int .u64 r1, .int .u64 r2, .int .u64 r3, .int .i64 pos] 48)) w5.heap.size 48 [.int .i64 kd, .string tt, .int .u64 r0, .int .u64 r1, .int .u64 r2, .int .u64 r3, .int .i64 pos] from Own.fresh w5 _ _)
    have HS6 := Lib.hid (show A < w5.heap.size ∧ F < w5.heap.size ∧ E < w5.heap.size from ⟨HA5.out.lt, HF5.out.lt, HX5.out.lt⟩)
    clear hbl2
    go_wp2_with (with_reducible refine wpList_store_lit (.pointer (some ⟨G, 0, none⟩)) (.agg #[.int .i64 0, .int .i64 0, .int .i64 0, .int .i64 0]) HST.out ?_ ?_ ?_)
    ·
     rfl
    ·
     rfl
    try rw [hE']
    clear HST
    go_upto_region 9 with fail
    clear t0 t1 t2 t3 t4 t5 t6 c0 c1 c2 c3 cl hbb
    generalize w5.alloc _ = w6 at *
    obtain ⟨TT, hTT⟩ : ∃ q, w5.heap.size = q := ⟨_, rfl⟩
    rw [hTT] at HT6 HS6
    try rw [hTT]
    clear hTT HA5 HF5 HX5 HB5 HK5 HO5
    have ne20 : ¬ TT = F := by have := HS6.out; omega
    have ne21 : ¬ F = TT := fun e => ne20 e.symm
    have ne22 : ¬ TT = A := by have := HS6.out; omega
    have ne23 : ¬ A = TT := fun e => ne22 e.symm
    obtain ⟨t0, t1, t2, t3, t4, t5, t6⟩ := HT6.out.seven
    have tl := HT6.out.lt
    clear t1 t2 t3 t4 t5
    obtain ⟨a0, a1, a2, a3, a4, a5, a6, e0, e1, e2, e3, e4, e5, e6⟩ := HA6.out.seven2
    have al := HA6.out.lt
    obtain ⟨b0, b1, b2, b3, d0, d1, d2, d3⟩ := HF6.out.four
    have bl := HF6.out.lt
    obtain ⟨x0, x1, x2, x3, x4, x5, x6, -⟩ := HX6.out.seven2
    have xl := HX6.out.lt
    go_wp2_with fail
    go_region
    go_wp2
    rw [set7t_fold, set4_fold]
    have HFA := ((HA6.out.put7 (u0 := .int .i64 0) (u1 := .string ⟨#[]⟩) (u2 := .int .u64 0) (u3 := .int .u64 0) (u4 := .int .u64 0) (u5 := .int .u64 0) (u6 := .slice none 0 0)).but (But.set4 _ F (.int .i64 2) (.int .i64 pos) (.int .i64 0) (.int .i64 0)) ne1).on_drew
    have HFF := ((HF6.out.but (But.set7 _ A (.int .i64 0) (.string ⟨#[]⟩) (.int .u64 0) (.int .u64 0) (.int .u64 0) (.int .u64 0) (.slice none 0 0)) ne2).put4 (u0 := .int .i64 2) (u1 := .int .i64 pos) (u2 := .int .i64 0) (u3 := .int .i64 0)).on_drew
    have HBB := (below_put4 (below_put7 HB6.out (Nat.le_refl _) (.int .i64 0) (.string ⟨#[]⟩) (.int .u64 0) (.int .u64 0) (.int .u64 0) (.int .u64 0) (.slice none 0 0)) (g := F) (by have := HN.out; omega) (.int .i64 2) (.int .i64 pos) (.int .i64 0) (.int .i64 0)).drew
    clear a0 a1 a2 a3 a4 a5 a6 e0 e1 e2 e3 e4 e5 e6 al b0 b1 b2 b3 d0 d1 d2 d3 bl x0 x1 x2 x3 x4 x5 x6 xl t0 t6 tl
    generalize World.drew (set4 (set7t _ _ _ _ _ _ _ _ _) F _ _ _ _) = w9 at *
    obtain ⟨z0, z1, z2, z3, z4, z5, z6⟩ := HFA.seven
    obtain ⟨y0, y1, y2, y3, -⟩ := HFF.four
    refine bodyPost_ret (by simp [results, Try.results9, go_sem, z0, z1, z2, z3, z4, z5, z6, y0, y1, y2, y3]; rfl) rfl ?_
    rw [HE.out, HN.out.2]
    exact ⟨⟨rfl, (by show (2 : Int) ≠ 0; decide)⟩, HBB⟩
end Go.Proofs.Ytonknapfndaalaa
