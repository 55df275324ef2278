/- The program's reader: one. The program's reader: how often; what stands behind a part's sign. -/
import Derived.Test.YtonknapfndaalaaKrb
namespace Go.Proofs.Ytonknapfndaalaa
set_option linter.unusedVariables false
set_option maxRecDepth 1000000
open Go.RowKit Go.Sort
theorem OutR.low {w : World} {D D' g : Nat} {lo : Option Addr} {lc : Nat} {L : List Tok} {op : Int} {r : Rs} {X : Ex} {ko : Option Addr} {b : Bool} (hD : D' ≤ D) (h : OutR D g lo lc L op r X ko b w) : OutR D' g lo lc L op r X ko b w := by
 cases r with
 | ok q =>
  obtain ⟨x, m⟩ := q
  obtain ⟨h0, h1, h2, n, h3⟩ := h
  exact ⟨h0, h1, h2, n, HasE.low hD h3⟩
 | error f => exact h
def setE (s : Set4) : Ex := .mk 2 ⟨#[]⟩ (s.1 : Int) (s.2.1 : Int) (s.2.2.1 : Int) (s.2.2.2 : Int) []
def oneP (L : List Tok) (X : Nat → Rs) (op : Int) (k : Nat) : Rs :=
 if (tkA L k).kd = 2 then .ok (leafX 1 (tkA L k).tx, k + 1) else if (tkA L k).kd = 3 then .ok (setE (tkA L k).st, k + 1)
 else if isS L k (⟨#[46]⟩ : ByteArray).data.toList = true then .ok (leafX 3 ⟨#[]⟩, k + 1) else if isS L k (⟨#[40]⟩ : ByteArray).data.toList = true then parP L X op k else refP L k
theorem isS_kd4 {L : List Tok} {k : Nat} {s : List UInt8} (h : isS L k s = true) : (tkA L k).kd = 4 := by
 unfold isS at h
 rw [Bool.and_eq_true, beq_iff_eq] at h
 exact h.1
set_option maxRecDepth 1000000 in
set_option maxHeartbeats 3200000 in
theorem rq_one (HW : WordOk) (g : Nat) (lo : Option Addr) (lc : Nat) (L : List Tok) (k : Nat) (op : Int) (hop : 0 ≤ op ∧ op ≤ 12) (hn : (L.length : Int) ≤ 90000) (hNB : ∀ j, (tkA L j).kd ≠ 0 → j + 1 < L.length) (hk : k < L.length) (htx : ∀ t ∈ L, t.tx.size ≤ 1000000) (X : Nat → Rs) (HXB : ∀ j x m, X j = .ok (x, m) → m < L.length) (HX : op ≠ 12 → ∀ m, m < L.length → ∀ W, Rq W g lo lc L m (op + 1) none → Calls Try.prog 26 #[.pointer (some ⟨g, 0, none⟩)] W fun e w' => OutP W g lo lc L (op + 1) (X m) e w') (w : World) (h : Rq w g lo lc L k op none) :
  Calls Try.prog 103 #[.pointer (some ⟨g, 0, none⟩)] w fun e w' => OutP w g lo lc L op (oneP L X op k) e w' := by
 obtain ⟨RES, hRES⟩ : ∃ r, oneP L X op k = r := ⟨_, rfl⟩
 rw [hRES]
 have HPA := Lib.hid (fun hk1 W hW => rq_par g lo lc L k op hop hn hNB hk hk1 htx X HXB HX W hW)
 have HRF := Lib.hid (fun W hW => rq_ref HW g lo lc L k op hn hNB hk htx W hW)
 have HTK := Lib.hid (fun s W hW => rq_take s g lo lc L k op none (by omega) hk W hW)
 have HCM := Lib.hid (fun s W hW => rq_comes s g lo lc L k op none (by omega) hk W hW)
 have HNW := Lib.hid (fun W hW => rq_now g lo lc L k op none (by omega) hk W hW)
 have HBN := Lib.hid (hNB k)
 unfold oneP at hRES
 have hw1 : IntKind.i64.wrap ((k : Int) + 1) = (k : Int) + 1 := by rw [IntKind.wrap_i64]; omega
 clear HX HXB htx hNB HW
 have HH := Lib.hid h
 have hbl : Below w.heap.size w (w.alloc (.cells #[.int .i64 0, .string ⟨#[]⟩, .int .u64 0, .int .u64 0, .int .u64 0, .int .u64 0, .slice none 0 0] 28)) := (Below.refl _ _).alloc (Nat.le_refl _) _
 have HQ1 := Lib.hid (h.below hbl)
 have HA1 := Lib.hid (Own.fresh w 28 [.int .i64 0, .string ⟨#[]⟩, .int .u64 0, .int .u64 0, .int .u64 0, .int .u64 0, .slice none 0 0])
 have HU1 := Lib.hid (But.of_below (S := fun j => j = g) hbl)
 have hlt := h.1.lt
 obtain ⟨N, hN⟩ : ∃ N, w.heap.size = N := ⟨_, rfl⟩
 have HNN := Lib.hid hN
 have HG := Lib.hid (show g < N by omega)
 have HS1 := Lib.hid (show N + 1 ≤ (w.alloc (.cells #[.int .i64 0, .string ⟨#[]⟩, .int .u64 0, .int .u64 0, .int .u64 0, .int .u64 0, .slice none 0 0] 28)).heap.size by simp; omega)
 rw [hN] at HA1
 clear h hbl hlt
 go_enter Try.func103, Try.ntmps103
 go_upto_region 1 with fail
 generalize World.alloc w _ = w1 at *
 try rw [hN]
 clear hN
 have HK4 := Lib.hid (fun s (h : isS L k s = true) => isS_kd4 h)
 have HSP := Lib.hid hRES
 clear hRES
 go_wp2_with fail
 refine (HNW.out _ HQ1.out).mono ?_
 rintro e w2 ⟨rfl, hb⟩
 have HA2 := Lib.hid (HA1.out.under hb HA1.out.lt)
 have HU2 := Lib.hid (HU1.out.then_below hb)
 have HQ2 := Lib.hid (HQ1.out.below hb)
 have HS2 := Lib.hid (Nat.le_trans HS1.out hb.size)
 clear HA1 HU1 HQ1 HS1
 clear hb HNW
 generalize tkA L k = t at *
 unfold tokV
 obtain ⟨kd, hkd⟩ : ∃ z, t.kd = z := ⟨_, rfl⟩
 obtain ⟨tx, htx⟩ : ∃ z, t.tx = z := ⟨_, rfl⟩
 obtain ⟨⟨s0, s1, s2, s3⟩, hst⟩ : ∃ z, t.st = z := ⟨_, rfl⟩
 obtain ⟨pos, hpos⟩ : ∃ z, (t.pos : Int) = z := ⟨_, rfl⟩
 rw [hkd, htx, hst] at HSP
 rw [hkd] at HK4 HBN
 rw [hkd, htx, hst, hpos]
 clear hkd htx hst hpos
 have hbl : Below w2.heap.size w2 (w2.alloc (.cells #[.int .i64 (kd : Int), .string tx, .int .u64 (s0 : Int), .int .u64 (s1 : Int), .int .u64 (s2 : Int), .int .u64 (s3 : Int), .int .i64 pos] 48)) := (Below.refl _ _).alloc (Nat.le_refl _) _
 have HM3 := Lib.hid (Own.fresh w2 48 [.int .i64 (kd : Int), .string tx, .int .u64 (s0 : Int), .int .u64 (s1 : Int), .int .u64 (s2 : Int), .int .u64 (s3 : Int), .int .i64 pos])
 obtain ⟨M, hM⟩ : ∃ q, w2.heap.size = q := ⟨_, rfl⟩
 have HGM := Lib.hid (show g < M ∧ N < M from ⟨by have := HS2.out; have := HG.out; omega, by have := HS2.out; omega⟩)
 have HA3 := Lib.hid (HA2.out.under hbl HA2.out.lt)
 have HU3 := Lib.hid (HU2.out.then_below hbl)
 have HQ3 := Lib.hid (HQ2.out.below hbl)
 have HS3 := Lib.hid (Nat.le_trans HS2.out hbl.size)
 clear HA2 HU2 HQ2 HS2
 rw [hM] at HM3
 clear hbl
 go_upto_region 2 with fail
 generalize w2.alloc _ = w3 at *
 try rw [hM]
 clear hM
 obtain ⟨m0, m1, m2, m3, m4, m5, m6⟩ := HM3.out.seven
 have ml := HM3.out.lt
 by_cases h2 : kd = 2
 ·
  subst h2
  have HE := Lib.hid (show RES = .ok (leafX 1 tx, k + 1) from HSP.out.symm.trans (if_pos rfl))
  obtain ⟨d0, d1, d2, d3, d4, d5, d6⟩ := HQ3.out.1.seven
  have dg := HQ3.out.1.lt
  have df : w3.frozen? ⟨g, 1, none⟩ = false := HQ3.out.1.thaw 1
  have HQ4 := Lib.hid (HQ3.out.at (k + 1) (.int .i64 ((k : Int) + 1)) rfl)
  have hb : But (fun j => j = g) w3 (w3.setCell ⟨g, 1, none⟩ (.int .i64 ((k : Int) + 1))) := But.put _ _ _ _
  have HA4 := Lib.hid (HA3.out.but hb (by have := HG.out; omega))
  have HU4 := Lib.hid (HU3.out.trans hb (fun _ _ h => h))
  have HS4 := Lib.hid (Nat.le_trans HS3.out hb.size)
  have HM4 := Lib.hid (HM3.out.but hb (by have := HGM.out; omega))
  clear HA3 HU3 HS3 HM3
  go_upto_region 4 with fail
  clear d0 d1 d2 d3 d4 d5 d6 dg df hb m0 m1 m2 m3 m4 m5 m6 ml HQ3
  generalize w3.setCell ⟨g, 1, none⟩ _ = w4 at *
  obtain ⟨m0, m1, m2, m3, m4, m5, m6⟩ := HM4.out.seven
  have ml := HM4.out.lt
  obtain ⟨z0, z1, z2, z3, z4, z5, z6, y0, y1, y2, y3, y4, y5, y6⟩ := HA4.out.seven2
  have zl := HA4.out.lt
  have HRR := Lib.hid (show OutR (N + 1) g lo lc L op RES (leafX 1 tx) none true w4 from by rw [HE.out]; exact ⟨rfl, HQ4.out, rfl, 0, HasE.nil _ _ _⟩)
  go_wp2
  clear z0 z1 z2 z3 z4 z5 z6 y0 y1 y2 y3 y4 y5 y6 zl
  rw [set7t_fold]
  obtain ⟨hU, hR⟩ := OutR.fin (N := N) HH.out (Nat.le_of_eq HNN.out) HU4.out HRR.out (.int .i64 1) (.string tx) (.int .u64 0) (.int .u64 0) (.int .u64 0) (.int .u64 0) (.slice none 0 0)
  have HF := HA4.out.put7 (u0 := .int .i64 1) (u1 := .string tx) (u2 := .int .u64 0) (u3 := .int .u64 0) (u4 := .int .u64 0) (u5 := .int .u64 0) (u6 := .slice none 0 0)
  generalize set7t w4 N _ _ _ _ _ _ _ = w99 at *
  obtain ⟨z0, z1, z2, z3, z4, z5, z6⟩ := HF.seven
  refine bodyPost_ret (by simp [results, Try.results103, go_sem, z0, z1, z2, z3, z4, z5, z6]; rfl) rfl ?_
  exact ⟨hU, leafX 1 tx, none, 0, true, rfl, hR⟩
 by_cases h3 : kd = 3
 ·
  subst h3
  have HE := Lib.hid (show RES = .ok (setE (s0, s1, s2, s3), k + 1) from HSP.out.symm.trans ((if_neg (by decide)).trans (if_pos rfl)))
  obtain ⟨d0, d1, d2, d3, d4, d5, d6⟩ := HQ3.out.1.seven
  have dg := HQ3.out.1.lt
  have df : w3.frozen? ⟨g, 1, none⟩ = false := HQ3.out.1.thaw 1
  have HQ4 := Lib.hid (HQ3.out.at (k + 1) (.int .i64 ((k : Int) + 1)) rfl)
  have hb : But (fun j => j = g) w3 (w3.setCell ⟨g, 1, none⟩ (.int .i64 ((k : Int) + 1))) := But.put _ _ _ _
  have HA4 := Lib.hid (HA3.out.but hb (by have := HG.out; omega))
  have HU4 := Lib.hid (HU3.out.trans hb (fun _ _ h => h))
  have HS4 := Lib.hid (Nat.le_trans HS3.out hb.size)
  have HM4 := Lib.hid (HM3.out.but hb (by have := HGM.out; omega))
  clear HA3 HU3 HS3 HM3
  go_upto_region 7 with fail
  clear d0 d1 d2 d3 d4 d5 d6 dg df hb m0 m1 m2 m3 m4 m5 m6 ml HQ3
  generalize w3.setCell ⟨g, 1, none⟩ _ = w4 at *
  obtain ⟨m0, m1, m2, m3, m4, m5, m6⟩ := HM4.out.seven
  have ml := HM4.out.lt
  obtain ⟨z0, z1, z2, z3, z4, z5, z6, y0, y1, y2, y3, y4, y5, y6⟩ := HA4.out.seven2
  have zl := HA4.out.lt
  have HRR := Lib.hid (show OutR (N + 1) g lo lc L op RES (setE (s0, s1, s2, s3)) none true w4 from by rw [HE.out]; exact ⟨rfl, HQ4.out, rfl, 0, HasE.nil _ _ _⟩)
  go_wp2
  clear z0 z1 z2 z3 z4 z5 z6 y0 y1 y2 y3 y4 y5 y6 zl
  rw [set7t_fold]
  obtain ⟨hU, hR⟩ := OutR.fin (N := N) HH.out (Nat.le_of_eq HNN.out) HU4.out HRR.out (.int .i64 2) (.string ⟨#[]⟩) (.int .u64 (s0 : Int)) (.int .u64 (s1 : Int)) (.int .u64 (s2 : Int)) (.int .u64 (s3 : Int)) (.slice none 0 0)
  have HF := HA4.out.put7 (u0 := .int .i64 2) (u1 := .string ⟨#[]⟩) (u2 := .int .u64 (s0 : Int)) (u3 := .int .u64 (s1 : Int)) (u4 := .int .u64 (s2 : Int)) (u5 := .int .u64 (s3 : Int)) (u6 := .slice none 0 0)
  generalize set7t w4 N _ _ _ _ _ _ _ = w99 at *
  obtain ⟨z0, z1, z2, z3, z4, z5, z6⟩ := HF.seven
  refine bodyPost_ret (by simp [results, Try.results103, go_sem, z0, z1, z2, z3, z4, z5, z6]; rfl) rfl ?_
  exact ⟨hU, setE (s0, s1, s2, s3), none, 0, true, rfl, hR⟩
 have e2 : ((kd : Int) == 2) = false := beq_eq_false_iff_ne.2 (by omega)
 have e3 : ((kd : Int) == 3) = false := beq_eq_false_iff_ne.2 (by omega)
 have HSP2 := Lib.hid (show (if isS L k (⟨#[46]⟩ : ByteArray).data.toList = true then .ok (leafX 3 ⟨#[]⟩, k + 1) else if isS L k (⟨#[40]⟩ : ByteArray).data.toList = true then parP L X op k else refP L k) = RES from ((if_neg h2).trans (if_neg h3)).symm.trans HSP.out)
 clear HSP h2 h3
 go_wp2_with fail
 refine (HTK.out ⟨#[46]⟩ _ HQ3.out).mono ?_
 rintro e w4 ⟨rfl, hb, hq⟩
 have HA4 := Lib.hid (HA3.out.but hb (by have := HG.out; omega))
 have HU4 := Lib.hid (HU3.out.trans hb (fun _ _ h => h))
 have HS4 := Lib.hid (Nat.le_trans HS3.out hb.size)
 have HM4 := Lib.hid (HM3.out.but hb (by have := HGM.out; omega))
 clear HA3 HU3 HS3 HM3
 obtain ⟨z, hz⟩ : ∃ z, isS L k (⟨#[46]⟩ : ByteArray).data.toList = z := ⟨_, rfl⟩
 rw [hz] at hq HSP2 ⊢
 have HQ4 := Lib.hid hq
 clear hb hq HQ3 hz m0 m1 m2 m3 m4 m5 m6 ml
 cases z with
 | true =>
  have HE := Lib.hid (show RES = .ok (leafX 3 ⟨#[]⟩, k + 1) from HSP2.out.symm)
  obtain ⟨z0, z1, z2, z3, z4, z5, z6, y0, y1, y2, y3, y4, y5, y6⟩ := HA4.out.seven2
  have zl := HA4.out.lt
  have HRR := Lib.hid (show OutR (N + 1) g lo lc L op RES (leafX 3 ⟨#[]⟩) none true w4 from by rw [HE.out]; exact ⟨rfl, HQ4.out, rfl, 0, HasE.nil _ _ _⟩)
  go_wp2
  clear z0 z1 z2 z3 z4 z5 z6 y0 y1 y2 y3 y4 y5 y6 zl
  rw [set7t_fold]
  obtain ⟨hU, hR⟩ := OutR.fin (N := N) HH.out (Nat.le_of_eq HNN.out) HU4.out HRR.out (.int .i64 3) (.string ⟨#[]⟩) (.int .u64 0) (.int .u64 0) (.int .u64 0) (.int .u64 0) (.slice none 0 0)
  have HF := HA4.out.put7 (u0 := .int .i64 3) (u1 := .string ⟨#[]⟩) (u2 := .int .u64 0) (u3 := .int .u64 0) (u4 := .int .u64 0) (u5 := .int .u64 0) (u6 := .slice none 0 0)
  generalize set7t w4 N _ _ _ _ _ _ _ = w99 at *
  obtain ⟨z0, z1, z2, z3, z4, z5, z6⟩ := HF.seven
  refine bodyPost_ret (by simp [results, Try.results103, go_sem, z0, z1, z2, z3, z4, z5, z6]; rfl) rfl ?_
  exact ⟨hU, leafX 3 ⟨#[]⟩, none, 0, true, rfl, hR⟩
 | false =>
  go_wp2_with fail
  refine (HCM.out ⟨#[40]⟩ _ HQ4.out).mono ?_
  rintro e w5 ⟨rfl, hb⟩
  have HA5 := Lib.hid (HA4.out.under hb HA4.out.lt)
  have HU5 := Lib.hid (HU4.out.then_below hb)
  have HQ5 := Lib.hid (HQ4.out.below hb)
  have HS5 := Lib.hid (Nat.le_trans HS4.out hb.size)
  have HM5 := Lib.hid (HM4.out.under hb HM4.out.lt)
  clear HA4 HU4 HQ4 HS4 HM4
  obtain ⟨z, hz⟩ : ∃ z, isS L k (⟨#[40]⟩ : ByteArray).data.toList = z := ⟨_, rfl⟩
  rw [hz] at HSP2 ⊢
  clear hb
  cases z with
  | true =>
   have HE := Lib.hid (show RES = parP L X op k from HSP2.out.symm)
   have hk1 := HBN.out (by rw [HK4.out _ hz]; decide)
   go_wp2_with fail
   refine (HPA.out hk1 _ HQ5.out).mono ?_
   rintro e w6 ⟨hb, X2, ko, kc, b, rfl, hr⟩
   have hrl := OutR.low HS5.out hr
   unfold exv
   have HA6 := Lib.hid (HA5.out.but hb (by have := HG.out; omega))
   have HU6 := Lib.hid (HU5.out.trans hb (fun _ _ h => h))
   have HS6 := Lib.hid (Nat.le_trans HS5.out hb.size)
   clear HA5 HU5 HS5
   clear hb hr
   obtain ⟨z0, z1, z2, z3, z4, z5, z6, y0, y1, y2, y3, y4, y5, y6⟩ := HA6.out.seven2
   have zl := HA6.out.lt
   have HRR := Lib.hid (show OutR (N + 1) g lo lc L op RES X2 ko b w6 from by rw [HE.out]; exact hrl)
   go_wp2
   clear z0 z1 z2 z3 z4 z5 z6 y0 y1 y2 y3 y4 y5 y6 zl
   rw [set7t_fold]
   obtain ⟨hU, hR⟩ := OutR.fin (N := N) HH.out (Nat.le_of_eq HNN.out) HU6.out HRR.out (.int .i64 X2.op) (.string X2.text) (.int .u64 X2.s0) (.int .u64 X2.s1) (.int .u64 X2.s2) (.int .u64 X2.s3) (.slice ko X2.kids.length kc)
   have HF := HA6.out.put7 (u0 := .int .i64 X2.op) (u1 := .string X2.text) (u2 := .int .u64 X2.s0) (u3 := .int .u64 X2.s1) (u4 := .int .u64 X2.s2) (u5 := .int .u64 X2.s3) (u6 := .slice ko X2.kids.length kc)
   generalize set7t w6 N _ _ _ _ _ _ _ = w99 at *
   obtain ⟨z0, z1, z2, z3, z4, z5, z6⟩ := HF.seven
   refine bodyPost_ret (by simp [results, Try.results103, go_sem, z0, z1, z2, z3, z4, z5, z6]; rfl) rfl ?_
   exact ⟨hU, X2, ko, kc, b, rfl, hR⟩
  | false =>
   have HE := Lib.hid (show RES = refP L k from HSP2.out.symm)
   go_wp2_with fail
   refine (HRF.out _ HQ5.out).mono ?_
   rintro e w6 ⟨hb, X2, ko, kc, b, rfl, hr⟩
   have hrl := OutR.low HS5.out hr
   unfold exv
   have HA6 := Lib.hid (HA5.out.but hb (by have := HG.out; omega))
   have HU6 := Lib.hid (HU5.out.trans hb (fun _ _ h => h))
   have HS6 := Lib.hid (Nat.le_trans HS5.out hb.size)
   clear HA5 HU5 HS5
   clear hb hr
   obtain ⟨z0, z1, z2, z3, z4, z5, z6, y0, y1, y2, y3, y4, y5, y6⟩ := HA6.out.seven2
   have zl := HA6.out.lt
   have HRR := Lib.hid (show OutR (N + 1) g lo lc L op RES X2 ko b w6 from by rw [HE.out]; exact hrl)
   go_wp2
   clear z0 z1 z2 z3 z4 z5 z6 y0 y1 y2 y3 y4 y5 y6 zl
   rw [set7t_fold]
   obtain ⟨hU, hR⟩ := OutR.fin (N := N) HH.out (Nat.le_of_eq HNN.out) HU6.out HRR.out (.int .i64 X2.op) (.string X2.text) (.int .u64 X2.s0) (.int .u64 X2.s1) (.int .u64 X2.s2) (.int .u64 X2.s3) (.slice ko X2.kids.length kc)
   have HF := HA6.out.put7 (u0 := .int .i64 X2.op) (u1 := .string X2.text) (u2 := .int .u64 X2.s0) (u3 := .int .u64 X2.s1) (u4 := .int .u64 X2.s2) (u5 := .int .u64 X2.s3) (u6 := .slice ko X2.kids.length kc)
   generalize set7t w6 N _ _ _ _ _ _ _ = w99 at *
   obtain ⟨z0, z1, z2, z3, z4, z5, z6⟩ := HF.seven
   refine bodyPost_ret (by simp [results, Try.results103, go_sem, z0, z1, z2, z3, z4, z5, z6]; rfl) rfl ?_
   exact ⟨hU, X2, ko, kc, b, rfl, hR⟩
end Go.Proofs.Ytonknapfndaalaa

namespace Go.Proofs.Ytonknapfndaalaa
set_option linter.unusedVariables false
set_option maxRecDepth 1000000
open Go.RowKit Go.Sort
theorem OutR.kid {w : World} {g m B D : Nat} {lo : Option Addr} {lc : Nat} {L : List Tok} {op : Int} {x : Ex} {ko : Option Addr} {kc n : Nat} (o : Int) (tx : ByteArray) (H : Rq w g lo lc L m op none) (hB : Own w B 28 [.int .i64 x.op, .string x.text, .int .u64 x.s0, .int .u64 x.s1, .int .u64 x.s2, .int .u64 x.s3, .slice ko x.kids.length kc]) (hD : D ≤ B) (hE : HasE w D n ko x.kids) :
  OutR D g lo lc L op (.ok (.mk o tx 0 0 0 0 [x], m)) (.mk o tx 0 0 0 0 [x]) (some ⟨B, 0, none⟩) true w :=
 ⟨rfl, H, rfl, n + 1, fun k y hy => by
  have hk : k = 0 := by
   have := (List.getElem?_eq_some_iff.1 hy).1
   have : k < 1 := this
   omega
  subst hk
  obtain rfl : x = y := by
   have h : ([x] : List Ex)[0]? = some y := hy
   simpa using h
  exact ⟨B, 0, ko, kc, rfl, hB.lt, hD, hB.cell 0, hB.cell 1, hB.cell 2, hB.cell 3, hB.cell 4, hB.cell 5, hB.cell 6, hE⟩⟩
@[go_sem 2000] theorem ebuildKT (k : Int) (t : ByteArray) (A : Option Addr) (n c : Nat) (w : World) : (Instr.build 28 #[(0, .int .i64 k), (1, .string t), (3, .slice A n c)]).run Try.prog w = .ok (.agg #[.int .i64 k, .string t, .int .u64 0, .int .u64 0, .int .u64 0, .int .u64 0, .slice A n c]) w := by kernel_rfl
def oftT (L : List Tok) : Rs → Rs
 | .error e => .error e
 | .ok (e, m) => if isS L m (⟨#[42]⟩ : ByteArray).data.toList = true then .ok (.mk 6 ⟨#[]⟩ 0 0 0 0 [e], m + 1) else if isS L m (⟨#[43]⟩ : ByteArray).data.toList = true then .ok (.mk 7 ⟨#[]⟩ 0 0 0 0 [e], m + 1) else if isS L m (⟨#[63]⟩ : ByteArray).data.toList = true then .ok (.mk 8 ⟨#[]⟩ 0 0 0 0 [e], m + 1) else .ok (e, m)
def oftP (L : List Tok) (X : Nat → Rs) (op : Int) (k : Nat) : Rs := oftT L (oneP L X op k)
def witT (o : Int) (tx : ByteArray) : Rs → Rs
 | .error e => .error e
 | .ok (e, m) => .ok (.mk o tx 0 0 0 0 [e], m)
set_option maxRecDepth 1000000 in
set_option maxHeartbeats 3200000 in
theorem rq_oft (HW : WordOk) (g : Nat) (lo : Option Addr) (lc : Nat) (L : List Tok) (k : Nat) (op : Int) (hop : 0 ≤ op ∧ op ≤ 12) (hn : (L.length : Int) ≤ 90000) (hNB : ∀ j, (tkA L j).kd ≠ 0 → j + 1 < L.length) (hk : k < L.length) (htx : ∀ t ∈ L, t.tx.size ≤ 1000000) (X : Nat → Rs) (HXB : ∀ j x m, X j = .ok (x, m) → m < L.length) (HX : op ≠ 12 → ∀ m, m < L.length → ∀ W, Rq W g lo lc L m (op + 1) none → Calls Try.prog 26 #[.pointer (some ⟨g, 0, none⟩)] W fun e w' => OutP W g lo lc L (op + 1) (X m) e w') (HB1 : ∀ x m, oneP L X op k = .ok (x, m) → m < L.length) (w : World) (h : Rq w g lo lc L k op none) :
  Calls Try.prog 86 #[.pointer (some ⟨g, 0, none⟩)] w fun e w' => OutP w g lo lc L op (oftP L X op k) e w' := by
 obtain ⟨RES, hRES⟩ : ∃ r, oftP L X op k = r := ⟨_, rfl⟩
 rw [hRES]
 unfold oftP at hRES
 have HON := Lib.hid (fun W hW => rq_one HW g lo lc L k op hop hn hNB hk htx X HXB HX W hW)
 have HTK := Lib.hid (fun s j (hj : j < L.length) W hW => rq_take s g lo lc L j op none (by omega) hj W hW)
 have HBB1 := Lib.hid HB1
 clear HX HXB htx hNB HW HB1
 have HH := Lib.hid h
 have hbl : Below w.heap.size w (w.alloc (.cells #[.int .i64 0, .string ⟨#[]⟩, .int .u64 0, .int .u64 0, .int .u64 0, .int .u64 0, .slice none 0 0] 28)) := (Below.refl _ _).alloc (Nat.le_refl _) _
 have HQ1 := Lib.hid (h.below hbl)
 have HA1 := Lib.hid (Own.fresh w 28 [.int .i64 0, .string ⟨#[]⟩, .int .u64 0, .int .u64 0, .int .u64 0, .int .u64 0, .slice none 0 0])
 have HU1 := Lib.hid (But.of_below (S := fun j => j = g) hbl)
 have hlt := h.1.lt
 obtain ⟨N, hN⟩ : ∃ N, w.heap.size = N := ⟨_, rfl⟩
 have HNN := Lib.hid hN
 have HG := Lib.hid (show g < N by omega)
 have HS1 := Lib.hid (show N + 1 ≤ (w.alloc (.cells #[.int .i64 0, .string ⟨#[]⟩, .int .u64 0, .int .u64 0, .int .u64 0, .int .u64 0, .slice none 0 0] 28)).heap.size by simp; omega)
 rw [hN] at HA1
 clear h hbl hlt
 go_enter Try.func86, Try.ntmps86
 go_upto_region 1 with fail
 generalize World.alloc w _ = w1 at *
 try rw [hN]
 clear hN
 obtain ⟨r, hrr⟩ : ∃ r, oneP L X op k = r := ⟨_, rfl⟩
 rw [hrr] at HON HBB1 hRES
 have HSP := Lib.hid hRES
 clear hrr hRES
 go_wp2_with fail
 refine (HON.out _ HQ1.out).mono ?_
 rintro e w2 ⟨hb, X2, ko, kc, b, rfl, hr⟩
 have hr := OutR.low HS1.out hr
 unfold exv
 have HA2 := Lib.hid (HA1.out.but hb (by have := HG.out; omega))
 have HU2 := Lib.hid (HU1.out.trans hb (fun _ _ h => h))
 have HS2 := Lib.hid (Nat.le_trans HS1.out hb.size)
 clear HA1 HU1 HS1
 clear hb HQ1 HON
 have hbl : Below w2.heap.size w2 (w2.alloc (.cells #[.int .i64 X2.op, .string X2.text, .int .u64 X2.s0, .int .u64 X2.s1, .int .u64 X2.s2, .int .u64 X2.s3, .slice ko X2.kids.length kc] 28)) := (Below.refl _ _).alloc (Nat.le_refl _) _
 have HM3 := Lib.hid (Own.fresh w2 28 [.int .i64 X2.op, .string X2.text, .int .u64 X2.s0, .int .u64 X2.s1, .int .u64 X2.s2, .int .u64 X2.s3, .slice ko X2.kids.length kc])
 have HA3 := Lib.hid (HA2.out.under hbl HA2.out.lt)
 have HU3 := Lib.hid (HU2.out.then_below hbl)
 have HS3 := Lib.hid (Nat.le_trans HS2.out hbl.size)
 have hr3 := OutR.below hr hbl
 obtain ⟨M, hM⟩ : ∃ q, w2.heap.size = q := ⟨_, rfl⟩
 have HGM := Lib.hid (show g < M ∧ N < M from ⟨by have := HS2.out; have := HG.out; omega, by have := HS2.out; omega⟩)
 rw [hM] at HM3
 clear hbl HA2 HU2 HS2 hr
 go_upto_region 2 with fail
 generalize w2.alloc _ = w3 at *
 try rw [hM]
 clear hM
 cases r with
 | error f =>
  obtain ⟨rfl, hf, k', q, hq⟩ := hr3
  have HE := Lib.hid (show RES = .error f from HSP.out.symm)
  obtain ⟨m0, m1, m2, m3, m4, m5, m6⟩ := HM3.out.seven
  have ml := HM3.out.lt
  obtain ⟨z0, z1, z2, z3, z4, z5, z6, y0, y1, y2, y3, y4, y5, y6⟩ := HA3.out.seven2
  have zl := HA3.out.lt
  have HRR := Lib.hid (show OutR (N + 1) g lo lc L op RES X2 ko false w3 from by rw [HE.out]; exact ⟨rfl, hf, _, _, hq⟩)
  go_wp2
  clear z0 z1 z2 z3 z4 z5 z6 y0 y1 y2 y3 y4 y5 y6 zl
  rw [set7t_fold]
  obtain ⟨hU, hR⟩ := OutR.fin (N := N) HH.out (Nat.le_of_eq HNN.out) HU3.out HRR.out (.int .i64 X2.op) (.string X2.text) (.int .u64 X2.s0) (.int .u64 X2.s1) (.int .u64 X2.s2) (.int .u64 X2.s3) (.slice ko X2.kids.length kc)
  have HF := HA3.out.put7 (u0 := .int .i64 X2.op) (u1 := .string X2.text) (u2 := .int .u64 X2.s0) (u3 := .int .u64 X2.s1) (u4 := .int .u64 X2.s2) (u5 := .int .u64 X2.s3) (u6 := .slice ko X2.kids.length kc)
  generalize set7t w3 N _ _ _ _ _ _ _ = w99 at *
  obtain ⟨z0, z1, z2, z3, z4, z5, z6⟩ := HF.seven
  refine bodyPost_ret (by simp [results, Try.results86, go_sem, z0, z1, z2, z3, z4, z5, z6]; rfl) rfl ?_
  exact ⟨hU, X2, ko, kc, false, rfl, hR⟩
 | ok p =>
  obtain ⟨x, m⟩ := p
  obtain ⟨rfl, hq, rfl, n2, hE⟩ := hr3
  have HQ3 := Lib.hid hq
  have HT3 := Lib.hid hE
  have HMn := Lib.hid (HBB1.out x m rfl)
  clear hq hE HBB1
  go_wp2_with fail
  refine (HTK.out ⟨#[42]⟩ m HMn.out _ HQ3.out).mono ?_
  rintro e w4 ⟨rfl, hb, hq⟩
  have HA4 := Lib.hid (HA3.out.but hb (by have := HG.out; omega))
  have HU4 := Lib.hid (HU3.out.trans hb (fun _ _ h => h))
  have HS4 := Lib.hid (Nat.le_trans HS3.out hb.size)
  have HM4 := Lib.hid (HM3.out.but hb (by have := HGM.out; omega))
  clear HA3 HU3 HS3 HM3
  have HT4 := Lib.hid (HasE.but hb (fun j hj => by have := HG.out; omega) HT3.out)
  obtain ⟨z, hz4⟩ : ∃ z, isS L m (⟨#[42]⟩ : ByteArray).data.toList = z := ⟨_, rfl⟩
  rw [hz4] at hq ⊢
  have HQ4 := Lib.hid hq
  clear hb hq HQ3 HT3
  cases z with
  | true =>
   have HE := Lib.hid (show RES = .ok (.mk 6 ⟨#[]⟩ 0 0 0 0 [x], m + 1) from HSP.out.symm.trans (if_pos hz4))
   obtain ⟨m0, m1, m2, m3, m4, m5, m6⟩ := HM4.out.seven
   have ml := HM4.out.lt
   have HRA := Lib.hid (HA4.out.on_alloc (.cells #[.int .i64 x.op, .string x.text, .int .u64 x.s0, .int .u64 x.s1, .int .u64 x.s2, .int .u64 x.s3, .slice ko x.kids.length kc] 28))
   have HBB := Lib.hid (Own.fresh w4 28 [.int .i64 x.op, .string x.text, .int .u64 x.s0, .int .u64 x.s1, .int .u64 x.s2, .int .u64 x.s3, .slice ko x.kids.length kc])
   have HB0 := Lib.hid (show N + 1 ≤ w4.heap.size from HS4.out)
   have hbl : Below w4.heap.size w4 (w4.alloc (.cells #[.int .i64 x.op, .string x.text, .int .u64 x.s0, .int .u64 x.s1, .int .u64 x.s2, .int .u64 x.s3, .slice ko x.kids.length kc] 28)) := (Below.refl _ _).alloc (Nat.le_refl _) _
   have HUA := Lib.hid (HU4.out.then_below hbl)
   have HRR := Lib.hid (show OutR (N + 1) g lo lc L op RES (.mk 6 ⟨#[]⟩ 0 0 0 0 [x]) (some ⟨w4.heap.size, 0, none⟩) true (w4.alloc (.cells #[.int .i64 x.op, .string x.text, .int .u64 x.s0, .int .u64 x.s1, .int .u64 x.s2, .int .u64 x.s3, .slice ko x.kids.length kc] 28)) from by rw [HE.out]; exact OutR.kid 6 ⟨#[]⟩ (HQ4.out.below hbl) HBB.out HB0.out (HasE.but (But.of_below (S := fun _ => False) hbl) (fun _ h => h.elim) HT4.out))
   clear hbl
   go_upto_region 12 with fail
   have HST := Lib.hid (store7_run HRA.out 6 ⟨#[]⟩ 0 0 0 0 (some ⟨w4.heap.size, 0, none⟩) 1 1)
   have HF := Lib.hid (HRA.out.put7 (u0 := .int .i64 6) (u1 := .string ⟨#[]⟩) (u2 := .int .u64 0) (u3 := .int .u64 0) (u4 := .int .u64 0) (u5 := .int .u64 0) (u6 := .slice (some ⟨w4.heap.size, 0, none⟩) 1 1))
   have HZ := Lib.hid (OutR.fin (N := N) HH.out (Nat.le_of_eq HNN.out) HUA.out HRR.out (.int .i64 6) (.string ⟨#[]⟩) (.int .u64 0) (.int .u64 0) (.int .u64 0) (.int .u64 0) (.slice (some ⟨w4.heap.size, 0, none⟩) 1 1))
   obtain ⟨w99, hw9⟩ : ∃ w9, set7t (w4.alloc (.cells #[.int .i64 x.op, .string x.text, .int .u64 x.s0, .int .u64 x.s1, .int .u64 x.s2, .int .u64 x.s3, .slice ko x.kids.length kc] 28)) N (.int .i64 6) (.string ⟨#[]⟩) (.int .u64 0) (.int .u64 0) (.int .u64 0) (.int .u64 0) (.slice (some ⟨w4.heap.size, 0, none⟩) 1 1) = w9 := ⟨_, rfl⟩
   rw [hw9] at HST HF HZ
   clear hw9 HRA HBB HUA HRR
   obtain ⟨z0, z1, z2, z3, z4, z5, z6⟩ := HF.out.seven
   go_wp2_with (with_reducible refine wpList_store_lit (.pointer (some ⟨N, 0, none⟩)) (.agg #[.int .i64 6, .string ⟨#[]⟩, .int .u64 0, .int .u64 0, .int .u64 0, .int .u64 0, .slice (some ⟨w4.heap.size, 0, none⟩) 1 1]) HST.out ?_ ?_ ?_)
   ·
    rfl
   ·
    rfl
   refine bodyPost_ret (by simp [results, Try.results86, go_sem, z0, z1, z2, z3, z4, z5, z6]; rfl) rfl ?_
   exact ⟨HZ.out.1, (.mk 6 ⟨#[]⟩ 0 0 0 0 [x]), some ⟨w4.heap.size, 0, none⟩, 1, true, rfl, HZ.out.2⟩
  | false =>
   go_wp2_with fail
   refine (HTK.out ⟨#[43]⟩ m HMn.out _ HQ4.out).mono ?_
   rintro e w5 ⟨rfl, hb, hq⟩
   have HA5 := Lib.hid (HA4.out.but hb (by have := HG.out; omega))
   have HU5 := Lib.hid (HU4.out.trans hb (fun _ _ h => h))
   have HS5 := Lib.hid (Nat.le_trans HS4.out hb.size)
   have HM5 := Lib.hid (HM4.out.but hb (by have := HGM.out; omega))
   clear HA4 HU4 HS4 HM4
   have HT5 := Lib.hid (HasE.but hb (fun j hj => by have := HG.out; omega) HT4.out)
   obtain ⟨z, hz5⟩ : ∃ z, isS L m (⟨#[43]⟩ : ByteArray).data.toList = z := ⟨_, rfl⟩
   rw [hz5] at hq ⊢
   have HQ5 := Lib.hid hq
   clear hb hq HQ4 HT4
   cases z with
   | true =>
    have HE := Lib.hid (show RES = .ok (.mk 7 ⟨#[]⟩ 0 0 0 0 [x], m + 1) from HSP.out.symm.trans ((if_neg (by rw [hz4]; decide)).trans (if_pos hz5)))
    obtain ⟨m0, m1, m2, m3, m4, m5, m6⟩ := HM5.out.seven
    have ml := HM5.out.lt
    have HRA := Lib.hid (HA5.out.on_alloc (.cells #[.int .i64 x.op, .string x.text, .int .u64 x.s0, .int .u64 x.s1, .int .u64 x.s2, .int .u64 x.s3, .slice ko x.kids.length kc] 28))
    have HBB := Lib.hid (Own.fresh w5 28 [.int .i64 x.op, .string x.text, .int .u64 x.s0, .int .u64 x.s1, .int .u64 x.s2, .int .u64 x.s3, .slice ko x.kids.length kc])
    have HB0 := Lib.hid (show N + 1 ≤ w5.heap.size from HS5.out)
    have hbl : Below w5.heap.size w5 (w5.alloc (.cells #[.int .i64 x.op, .string x.text, .int .u64 x.s0, .int .u64 x.s1, .int .u64 x.s2, .int .u64 x.s3, .slice ko x.kids.length kc] 28)) := (Below.refl _ _).alloc (Nat.le_refl _) _
    have HUA := Lib.hid (HU5.out.then_below hbl)
    have HRR := Lib.hid (show OutR (N + 1) g lo lc L op RES (.mk 7 ⟨#[]⟩ 0 0 0 0 [x]) (some ⟨w5.heap.size, 0, none⟩) true (w5.alloc (.cells #[.int .i64 x.op, .string x.text, .int .u64 x.s0, .int .u64 x.s1, .int .u64 x.s2, .int .u64 x.s3, .slice ko x.kids.length kc] 28)) from by rw [HE.out]; exact OutR.kid 7 ⟨#[]⟩ (HQ5.out.below hbl) HBB.out HB0.out (HasE.but (But.of_below (S := fun _ => False) hbl) (fun _ h => h.elim) HT5.out))
    clear hbl
    go_upto_region 12 with fail
    have HST := Lib.hid (store7_run HRA.out 7 ⟨#[]⟩ 0 0 0 0 (some ⟨w5.heap.size, 0, none⟩) 1 1)
    have HF := Lib.hid (HRA.out.put7 (u0 := .int .i64 7) (u1 := .string ⟨#[]⟩) (u2 := .int .u64 0) (u3 := .int .u64 0) (u4 := .int .u64 0) (u5 := .int .u64 0) (u6 := .slice (some ⟨w5.heap.size, 0, none⟩) 1 1))
    have HZ := Lib.hid (OutR.fin (N := N) HH.out (Nat.le_of_eq HNN.out) HUA.out HRR.out (.int .i64 7) (.string ⟨#[]⟩) (.int .u64 0) (.int .u64 0) (.int .u64 0) (.int .u64 0) (.slice (some ⟨w5.heap.size, 0, none⟩) 1 1))
    obtain ⟨w99, hw9⟩ : ∃ w9, set7t (w5.alloc (.cells #[.int .i64 x.op, .string x.text, .int .u64 x.s0, .int .u64 x.s1, .int .u64 x.s2, .int .u64 x.s3, .slice ko x.kids.length kc] 28)) N (.int .i64 7) (.string ⟨#[]⟩) (.int .u64 0) (.int .u64 0) (.int .u64 0) (.int .u64 0) (.slice (some ⟨w5.heap.size, 0, none⟩) 1 1) = w9 := ⟨_, rfl⟩
    rw [hw9] at HST HF HZ
    clear hw9 HRA HBB HUA HRR
    obtain ⟨z0, z1, z2, z3, z4, z5, z6⟩ := HF.out.seven
    go_wp2_with (with_reducible refine wpList_store_lit (.pointer (some ⟨N, 0, none⟩)) (.agg #[.int .i64 7, .string ⟨#[]⟩, .int .u64 0, .int .u64 0, .int .u64 0, .int .u64 0, .slice (some ⟨w5.heap.size, 0, none⟩) 1 1]) HST.out ?_ ?_ ?_)
    ·
     rfl
    ·
     rfl
    refine bodyPost_ret (by simp [results, Try.results86, go_sem, z0, z1, z2, z3, z4, z5, z6]; rfl) rfl ?_
    exact ⟨HZ.out.1, (.mk 7 ⟨#[]⟩ 0 0 0 0 [x]), some ⟨w5.heap.size, 0, none⟩, 1, true, rfl, HZ.out.2⟩
   | false =>
    go_wp2_with fail
    refine (HTK.out ⟨#[63]⟩ m HMn.out _ HQ5.out).mono ?_
    rintro e w6 ⟨rfl, hb, hq⟩
    have HA6 := Lib.hid (HA5.out.but hb (by have := HG.out; omega))
    have HU6 := Lib.hid (HU5.out.trans hb (fun _ _ h => h))
    have HS6 := Lib.hid (Nat.le_trans HS5.out hb.size)
    have HM6 := Lib.hid (HM5.out.but hb (by have := HGM.out; omega))
    clear HA5 HU5 HS5 HM5
    have HT6 := Lib.hid (HasE.but hb (fun j hj => by have := HG.out; omega) HT5.out)
    obtain ⟨z, hz6⟩ : ∃ z, isS L m (⟨#[63]⟩ : ByteArray).data.toList = z := ⟨_, rfl⟩
    rw [hz6] at hq ⊢
    have HQ6 := Lib.hid hq
    clear hb hq HQ5 HT5
    cases z with
    | true =>
     have HE := Lib.hid (show RES = .ok (.mk 8 ⟨#[]⟩ 0 0 0 0 [x], m + 1) from HSP.out.symm.trans ((if_neg (by rw [hz4]; decide)).trans ((if_neg (by rw [hz5]; decide)).trans (if_pos hz6))))
     obtain ⟨m0, m1, m2, m3, m4, m5, m6⟩ := HM6.out.seven
     have ml := HM6.out.lt
     have HRA := Lib.hid (HA6.out.on_alloc (.cells #[.int .i64 x.op, .string x.text, .int .u64 x.s0, .int .u64 x.s1, .int .u64 x.s2, .int .u64 x.s3, .slice ko x.kids.length kc] 28))
     have HBB := Lib.hid (Own.fresh w6 28 [.int .i64 x.op, .string x.text, .int .u64 x.s0, .int .u64 x.s1, .int .u64 x.s2, .int .u64 x.s3, .slice ko x.kids.length kc])
     have HB0 := Lib.hid (show N + 1 ≤ w6.heap.size from HS6.out)
     have hbl : Below w6.heap.size w6 (w6.alloc (.cells #[.int .i64 x.op, .string x.text, .int .u64 x.s0, .int .u64 x.s1, .int .u64 x.s2, .int .u64 x.s3, .slice ko x.kids.length kc] 28)) := (Below.refl _ _).alloc (Nat.le_refl _) _
     have HUA := Lib.hid (HU6.out.then_below hbl)
     have HRR := Lib.hid (show OutR (N + 1) g lo lc L op RES (.mk 8 ⟨#[]⟩ 0 0 0 0 [x]) (some ⟨w6.heap.size, 0, none⟩) true (w6.alloc (.cells #[.int .i64 x.op, .string x.text, .int .u64 x.s0, .int .u64 x.s1, .int .u64 x.s2, .int .u64 x.s3, .slice ko x.kids.length kc] 28)) from by rw [HE.out]; exact OutR.kid 8 ⟨#[]⟩ (HQ6.out.below hbl) HBB.out HB0.out (HasE.but (But.of_below (S := fun _ => False) hbl) (fun _ h => h.elim) HT6.out))
     clear hbl
     go_upto_region 12 with fail
     have HST := Lib.hid (store7_run HRA.out 8 ⟨#[]⟩ 0 0 0 0 (some ⟨w6.heap.size, 0, none⟩) 1 1)
     have HF := Lib.hid (HRA.out.put7 (u0 := .int .i64 8) (u1 := .string ⟨#[]⟩) (u2 := .int .u64 0) (u3 := .int .u64 0) (u4 := .int .u64 0) (u5 := .int .u64 0) (u6 := .slice (some ⟨w6.heap.size, 0, none⟩) 1 1))
     have HZ := Lib.hid (OutR.fin (N := N) HH.out (Nat.le_of_eq HNN.out) HUA.out HRR.out (.int .i64 8) (.string ⟨#[]⟩) (.int .u64 0) (.int .u64 0) (.int .u64 0) (.int .u64 0) (.slice (some ⟨w6.heap.size, 0, none⟩) 1 1))
     obtain ⟨w99, hw9⟩ : ∃ w9, set7t (w6.alloc (.cells #[.int .i64 x.op, .string x.text, .int .u64 x.s0, .int .u64 x.s1, .int .u64 x.s2, .int .u64 x.s3, .slice ko x.kids.length kc] 28)) N (.int .i64 8) (.string ⟨#[]⟩) (.int .u64 0) (.int .u64 0) (.int .u64 0) (.int .u64 0) (.slice (some ⟨w6.heap.size, 0, none⟩) 1 1) = w9 := ⟨_, rfl⟩
     rw [hw9] at HST HF HZ
     clear hw9 HRA HBB HUA HRR
     obtain ⟨z0, z1, z2, z3, z4, z5, z6⟩ := HF.out.seven
     go_wp2_with (with_reducible refine wpList_store_lit (.pointer (some ⟨N, 0, none⟩)) (.agg #[.int .i64 8, .string ⟨#[]⟩, .int .u64 0, .int .u64 0, .int .u64 0, .int .u64 0, .slice (some ⟨w6.heap.size, 0, none⟩) 1 1]) HST.out ?_ ?_ ?_)
     ·
      rfl
     ·
      rfl
     refine bodyPost_ret (by simp [results, Try.results86, go_sem, z0, z1, z2, z3, z4, z5, z6]; rfl) rfl ?_
     exact ⟨HZ.out.1, (.mk 8 ⟨#[]⟩ 0 0 0 0 [x]), some ⟨w6.heap.size, 0, none⟩, 1, true, rfl, HZ.out.2⟩
    | false =>
     have HE := Lib.hid (show RES = .ok (x, m) from HSP.out.symm.trans ((if_neg (by rw [hz4]; decide)).trans ((if_neg (by rw [hz5]; decide)).trans (if_neg (by rw [hz6]; decide)))))
     obtain ⟨m0, m1, m2, m3, m4, m5, m6⟩ := HM6.out.seven
     have ml := HM6.out.lt
     obtain ⟨z0, z1, z2, z3, z4, z5, z6, y0, y1, y2, y3, y4, y5, y6⟩ := HA6.out.seven2
     have zl := HA6.out.lt
     have HRR := Lib.hid (show OutR (N + 1) g lo lc L op RES x ko true w6 from by rw [HE.out]; exact ⟨rfl, HQ6.out, rfl, n2, HT6.out⟩)
     go_wp2
     clear z0 z1 z2 z3 z4 z5 z6 y0 y1 y2 y3 y4 y5 y6 zl
     rw [set7t_fold]
     obtain ⟨hU, hR⟩ := OutR.fin (N := N) HH.out (Nat.le_of_eq HNN.out) HU6.out HRR.out (.int .i64 x.op) (.string x.text) (.int .u64 x.s0) (.int .u64 x.s1) (.int .u64 x.s2) (.int .u64 x.s3) (.slice ko x.kids.length kc)
     have HF := HA6.out.put7 (u0 := .int .i64 x.op) (u1 := .string x.text) (u2 := .int .u64 x.s0) (u3 := .int .u64 x.s1) (u4 := .int .u64 x.s2) (u5 := .int .u64 x.s3) (u6 := .slice ko x.kids.length kc)
     generalize set7t w6 N _ _ _ _ _ _ _ = w99 at *
     obtain ⟨z0, z1, z2, z3, z4, z5, z6⟩ := HF.seven
     refine bodyPost_ret (by simp [results, Try.results86, go_sem, z0, z1, z2, z3, z4, z5, z6]; rfl) rfl ?_
     exact ⟨hU, x, ko, kc, true, rfl, hR⟩
set_option maxRecDepth 1000000 in
set_option maxHeartbeats 3200000 in
theorem rq_wit (HW : WordOk) (o : Int) (tx : ByteArray) (g : Nat) (lo : Option Addr) (lc : Nat) (L : List Tok) (k : Nat) (op : Int) (hop : 0 ≤ op ∧ op ≤ 12) (hn : (L.length : Int) ≤ 90000) (hNB : ∀ j, (tkA L j).kd ≠ 0 → j + 1 < L.length) (hk : k < L.length) (htx : ∀ t ∈ L, t.tx.size ≤ 1000000) (X : Nat → Rs) (HXB : ∀ j x m, X j = .ok (x, m) → m < L.length) (HX : op ≠ 12 → ∀ m, m < L.length → ∀ W, Rq W g lo lc L m (op + 1) none → Calls Try.prog 26 #[.pointer (some ⟨g, 0, none⟩)] W fun e w' => OutP W g lo lc L (op + 1) (X m) e w') (HB1 : ∀ x m, oneP L X op k = .ok (x, m) → m < L.length) (w : World) (h : Rq w g lo lc L k op none) :
  Calls Try.prog 82 #[.pointer (some ⟨g, 0, none⟩), .int .i64 o, .string tx] w fun e w' => OutP w g lo lc L op (witT o tx (oftP L X op k)) e w' := by
 obtain ⟨RES, hRES⟩ : ∃ r, witT o tx (oftP L X op k) = r := ⟨_, rfl⟩
 rw [hRES]
 have HON := Lib.hid (fun W hW => rq_oft HW g lo lc L k op hop hn hNB hk htx X HXB HX HB1 W hW)
 clear HX HXB htx hNB HW HB1
 have HH := Lib.hid h
 have hbl : Below w.heap.size w (w.alloc (.cells #[.int .i64 0, .string ⟨#[]⟩, .int .u64 0, .int .u64 0, .int .u64 0, .int .u64 0, .slice none 0 0] 28)) := (Below.refl _ _).alloc (Nat.le_refl _) _
 have HQ1 := Lib.hid (h.below hbl)
 have HA1 := Lib.hid (Own.fresh w 28 [.int .i64 0, .string ⟨#[]⟩, .int .u64 0, .int .u64 0, .int .u64 0, .int .u64 0, .slice none 0 0])
 have HU1 := Lib.hid (But.of_below (S := fun j => j = g) hbl)
 have hlt := h.1.lt
 obtain ⟨N, hN⟩ : ∃ N, w.heap.size = N := ⟨_, rfl⟩
 have HNN := Lib.hid hN
 have HG := Lib.hid (show g < N by omega)
 have HS1 := Lib.hid (show N + 1 ≤ (w.alloc (.cells #[.int .i64 0, .string ⟨#[]⟩, .int .u64 0, .int .u64 0, .int .u64 0, .int .u64 0, .slice none 0 0] 28)).heap.size by simp; omega)
 rw [hN] at HA1
 clear h hbl hlt
 go_enter Try.func82, Try.ntmps82
 go_upto_region 1 with fail
 generalize World.alloc w _ = w1 at *
 try rw [hN]
 clear hN
 obtain ⟨r, hrr⟩ : ∃ r, oftP L X op k = r := ⟨_, rfl⟩
 rw [hrr] at HON hRES
 have HSP := Lib.hid hRES
 clear hrr hRES
 go_wp2_with fail
 refine (HON.out _ HQ1.out).mono ?_
 rintro e w2 ⟨hb, X2, ko, kc, b, rfl, hr⟩
 have hr := OutR.low HS1.out hr
 unfold exv
 have HA2 := Lib.hid (HA1.out.but hb (by have := HG.out; omega))
 have HU2 := Lib.hid (HU1.out.trans hb (fun _ _ h => h))
 have HS2 := Lib.hid (Nat.le_trans HS1.out hb.size)
 clear HA1 HU1 HS1
 clear hb HQ1 HON
 have hbl : Below w2.heap.size w2 (w2.alloc (.cells #[.int .i64 X2.op, .string X2.text, .int .u64 X2.s0, .int .u64 X2.s1, .int .u64 X2.s2, .int .u64 X2.s3, .slice ko X2.kids.length kc] 28)) := (Below.refl _ _).alloc (Nat.le_refl _) _
 have HM3 := Lib.hid (Own.fresh w2 28 [.int .i64 X2.op, .string X2.text, .int .u64 X2.s0, .int .u64 X2.s1, .int .u64 X2.s2, .int .u64 X2.s3, .slice ko X2.kids.length kc])
 have HA3 := Lib.hid (HA2.out.under hbl HA2.out.lt)
 have HU3 := Lib.hid (HU2.out.then_below hbl)
 have HS3 := Lib.hid (Nat.le_trans HS2.out hbl.size)
 have hr3 := OutR.below hr hbl
 obtain ⟨M, hM⟩ : ∃ q, w2.heap.size = q := ⟨_, rfl⟩
 have HGM := Lib.hid (show g < M ∧ N < M from ⟨by have := HS2.out; have := HG.out; omega, by have := HS2.out; omega⟩)
 rw [hM] at HM3
 clear hbl HA2 HU2 HS2 hr
 go_upto_region 2 with fail
 generalize w2.alloc _ = w3 at *
 try rw [hM]
 clear hM
 cases r with
 | error f =>
  obtain ⟨rfl, hf, k', q, hq⟩ := hr3
  have HE := Lib.hid (show RES = .error f from HSP.out.symm)
  have HF0 := Lib.hid hf
  have HQF := Lib.hid hq
  clear hf hq
  obtain ⟨m0, m1, m2, m3, m4, m5, m6⟩ := HM3.out.seven
  have ml := HM3.out.lt
  have HRA := Lib.hid (HA3.out.on_alloc (.cells #[.int .i64 X2.op, .string X2.text, .int .u64 X2.s0, .int .u64 X2.s1, .int .u64 X2.s2, .int .u64 X2.s3, .slice ko X2.kids.length kc] 28))
  have HBB := Lib.hid (Own.fresh w3 28 [.int .i64 X2.op, .string X2.text, .int .u64 X2.s0, .int .u64 X2.s1, .int .u64 X2.s2, .int .u64 X2.s3, .slice ko X2.kids.length kc])
  have HB0 := Lib.hid (show N + 1 ≤ w3.heap.size from HS3.out)
  have hbl : Below w3.heap.size w3 (w3.alloc (.cells #[.int .i64 X2.op, .string X2.text, .int .u64 X2.s0, .int .u64 X2.s1, .int .u64 X2.s2, .int .u64 X2.s3, .slice ko X2.kids.length kc] 28)) := (Below.refl _ _).alloc (Nat.le_refl _) _
  have HUA := Lib.hid (HU3.out.then_below hbl)
  have HRR := Lib.hid (show OutR (N + 1) g lo lc L op RES (.mk o tx 0 0 0 0 [X2]) (some ⟨w3.heap.size, 0, none⟩) false (w3.alloc (.cells #[.int .i64 X2.op, .string X2.text, .int .u64 X2.s0, .int .u64 X2.s1, .int .u64 X2.s2, .int .u64 X2.s3, .slice ko X2.kids.length kc] 28)) from by rw [HE.out]; exact ⟨rfl, HF0.out, _, _, HQF.out.below hbl⟩)
  clear hbl
  go_upto_region 2 with fail
  have HST := Lib.hid (store7_run HRA.out o tx 0 0 0 0 (some ⟨w3.heap.size, 0, none⟩) 1 1)
  have HF := Lib.hid (HRA.out.put7 (u0 := .int .i64 o) (u1 := .string tx) (u2 := .int .u64 0) (u3 := .int .u64 0) (u4 := .int .u64 0) (u5 := .int .u64 0) (u6 := .slice (some ⟨w3.heap.size, 0, none⟩) 1 1))
  have HZ := Lib.hid (OutR.fin (N := N) HH.out (Nat.le_of_eq HNN.out) HUA.out HRR.out (.int .i64 o) (.string tx) (.int .u64 0) (.int .u64 0) (.int .u64 0) (.int .u64 0) (.slice (some ⟨w3.heap.size, 0, none⟩) 1 1))
  obtain ⟨w99, hw9⟩ : ∃ w9, set7t (w3.alloc (.cells #[.int .i64 X2.op, .string X2.text, .int .u64 X2.s0, .int .u64 X2.s1, .int .u64 X2.s2, .int .u64 X2.s3, .slice ko X2.kids.length kc] 28)) N (.int .i64 o) (.string tx) (.int .u64 0) (.int .u64 0) (.int .u64 0) (.int .u64 0) (.slice (some ⟨w3.heap.size, 0, none⟩) 1 1) = w9 := ⟨_, rfl⟩
  rw [hw9] at HST HF HZ
  clear hw9 HRA HBB HUA HRR
  obtain ⟨z0, z1, z2, z3, z4, z5, z6⟩ := HF.out.seven
  go_wp2_with (with_reducible refine wpList_store_lit (.pointer (some ⟨N, 0, none⟩)) (.agg #[.int .i64 o, .string tx, .int .u64 0, .int .u64 0, .int .u64 0, .int .u64 0, .slice (some ⟨w3.heap.size, 0, none⟩) 1 1]) HST.out ?_ ?_ ?_)
  ·
   rfl
  ·
   rfl
  refine bodyPost_ret (by simp [results, Try.results82, go_sem, z0, z1, z2, z3, z4, z5, z6]; rfl) rfl ?_
  exact ⟨HZ.out.1, (.mk o tx 0 0 0 0 [X2]), some ⟨w3.heap.size, 0, none⟩, 1, false, rfl, HZ.out.2⟩
 | ok p =>
  obtain ⟨x, m⟩ := p
  obtain ⟨rfl, hq, rfl, n2, hE⟩ := hr3
  have HQ3 := Lib.hid hq
  have HT3 := Lib.hid hE
  clear hq hE
  have HE := Lib.hid (show RES = .ok (.mk o tx 0 0 0 0 [x], m) from HSP.out.symm)
  obtain ⟨m0, m1, m2, m3, m4, m5, m6⟩ := HM3.out.seven
  have ml := HM3.out.lt
  have HRA := Lib.hid (HA3.out.on_alloc (.cells #[.int .i64 x.op, .string x.text, .int .u64 x.s0, .int .u64 x.s1, .int .u64 x.s2, .int .u64 x.s3, .slice ko x.kids.length kc] 28))
  have HBB := Lib.hid (Own.fresh w3 28 [.int .i64 x.op, .string x.text, .int .u64 x.s0, .int .u64 x.s1, .int .u64 x.s2, .int .u64 x.s3, .slice ko x.kids.length kc])
  have HB0 := Lib.hid (show N + 1 ≤ w3.heap.size from HS3.out)
  have hbl : Below w3.heap.size w3 (w3.alloc (.cells #[.int .i64 x.op, .string x.text, .int .u64 x.s0, .int .u64 x.s1, .int .u64 x.s2, .int .u64 x.s3, .slice ko x.kids.length kc] 28)) := (Below.refl _ _).alloc (Nat.le_refl _) _
  have HUA := Lib.hid (HU3.out.then_below hbl)
  have HRR := Lib.hid (show OutR (N + 1) g lo lc L op RES (.mk o tx 0 0 0 0 [x]) (some ⟨w3.heap.size, 0, none⟩) true (w3.alloc (.cells #[.int .i64 x.op, .string x.text, .int .u64 x.s0, .int .u64 x.s1, .int .u64 x.s2, .int .u64 x.s3, .slice ko x.kids.length kc] 28)) from by rw [HE.out]; exact OutR.kid o tx (HQ3.out.below hbl) HBB.out HB0.out (HasE.but (But.of_below (S := fun _ => False) hbl) (fun _ h => h.elim) HT3.out))
  clear hbl
  go_upto_region 2 with fail
  have HST := Lib.hid (store7_run HRA.out o tx 0 0 0 0 (some ⟨w3.heap.size, 0, none⟩) 1 1)
  have HF := Lib.hid (HRA.out.put7 (u0 := .int .i64 o) (u1 := .string tx) (u2 := .int .u64 0) (u3 := .int .u64 0) (u4 := .int .u64 0) (u5 := .int .u64 0) (u6 := .slice (some ⟨w3.heap.size, 0, none⟩) 1 1))
  have HZ := Lib.hid (OutR.fin (N := N) HH.out (Nat.le_of_eq HNN.out) HUA.out HRR.out (.int .i64 o) (.string tx) (.int .u64 0) (.int .u64 0) (.int .u64 0) (.int .u64 0) (.slice (some ⟨w3.heap.size, 0, none⟩) 1 1))
  obtain ⟨w99, hw9⟩ : ∃ w9, set7t (w3.alloc (.cells #[.int .i64 x.op, .string x.text, .int .u64 x.s0, .int .u64 x.s1, .int .u64 x.s2, .int .u64 x.s3, .slice ko x.kids.length kc] 28)) N (.int .i64 o) (.string tx) (.int .u64 0) (.int .u64 0) (.int .u64 0) (.int .u64 0) (.slice (some ⟨w3.heap.size, 0, none⟩) 1 1) = w9 := ⟨_, rfl⟩
  rw [hw9] at HST HF HZ
  clear hw9 HRA HBB HUA HRR
  obtain ⟨z0, z1, z2, z3, z4, z5, z6⟩ := HF.out.seven
  go_wp2_with (with_reducible refine wpList_store_lit (.pointer (some ⟨N, 0, none⟩)) (.agg #[.int .i64 o, .string tx, .int .u64 0, .int .u64 0, .int .u64 0, .int .u64 0, .slice (some ⟨w3.heap.size, 0, none⟩) 1 1]) HST.out ?_ ?_ ?_)
  ·
   rfl
  ·
   rfl
  refine bodyPost_ret (by simp [results, Try.results82, go_sem, z0, z1, z2, z3, z4, z5, z6]; rfl) rfl ?_
  exact ⟨HZ.out.1, (.mk o tx 0 0 0 0 [x]), some ⟨w3.heap.size, 0, none⟩, 1, true, rfl, HZ.out.2⟩
end Go.Proofs.Ytonknapfndaalaa
