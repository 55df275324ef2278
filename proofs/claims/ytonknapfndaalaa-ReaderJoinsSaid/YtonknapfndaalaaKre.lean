/- The program's reader: a row; an expression. The program's reader: what it reads is what the document says, parenthesis by parenthesis. -/
import Derived.Test.YtonknapfndaalaaKrd
import Derived.Test.YtonknapfndaalaaRdQ
namespace Go.Proofs.Ytonknapfndaalaa
set_option linter.unusedVariables false
set_option maxRecDepth 1000000
open Go.RowKit Go.Sort
theorem startsO_lt1 {L : List Tok} (hNB : ∀ j, (tkA L j).kd ≠ 0 → j + 1 < L.length) {k : Nat} (h : startsO L k = true) : k + 1 < L.length := by
 refine hNB k fun e => ?_
 unfold startsO isS at h
 rw [e] at h
 simp at h
theorem OutR.put7 {w wt w4 : World} {g M k0 : Nat} {lo : Option Addr} {lc : Nat} {L : List Tok} {p q : Int} {r : Rs} {X : Ex} {ko : Option Addr} {b : Bool} {u0 u1 u2 u3 u4 u5 u6 : Value} (hb : But (fun j => j = M) w4 (set7t w4 M u0 u1 u2 u3 u4 u5 u6)) (hg : g < M) (hM : M < wt.heap.size)
  (H0 : Rq w g lo lc L k0 p none) (HU : But (fun j => j = g) w (set7t w4 M u0 u1 u2 u3 u4 u5 u6)) (h : OutR wt.heap.size g lo lc L q r X ko b w4) : OutR wt.heap.size g lo lc L q r X ko b (set7t w4 M u0 u1 u2 u3 u4 u5 u6) := by
 have hR : ∀ m z F, Rq w4 g lo lc L m z F → Rq (set7t w4 M u0 u1 u2 u3 u4 u5 u6) g lo lc L m z F := fun m z F h => ⟨h.1.but hb (by omega), H0.2.1.but H0.2.2 HU, H0.2.2⟩
 cases r with
 | ok y =>
  obtain ⟨x, m⟩ := y
  obtain ⟨h0, h1, h2, n, h3⟩ := h
  exact ⟨h0, hR _ _ _ h1, h2, n, HasE.but hb (fun j hj => by omega) h3⟩
 | error f =>
  obtain ⟨h0, h1, k, z, h2⟩ := h
  exact ⟨h0, h1, k, z, hR _ _ _ h2⟩
set_option maxRecDepth 1000000 in
set_option maxHeartbeats 3200000 in
theorem rq_row (sub : Nat → Rs) (g : Nat) (lo : Option Addr) (lc : Nat) (L : List Tok) (k : Nat) (op : Int) (hn : (L.length : Int) ≤ 90000) (hNB : ∀ j, (tkA L j).kd ≠ 0 → j + 1 < L.length) (hk : k < L.length) (HPT : ∀ m, m < L.length → ∀ W, Rq W g lo lc L m op none → Calls Try.prog 62 #[.pointer (some ⟨g, 0, none⟩)] W fun e w' => OutP W g lo lc L op (sub m) e w') (HPB : ∀ j x m, sub j = .ok (x, m) → j < m ∧ m < L.length)  (w : World) (h : Rq w g lo lc L k op none) :
  Calls Try.prog 45 #[.pointer (some ⟨g, 0, none⟩)] w fun e w' => OutP w g lo lc L op (seqO L sub k) e w' := by
 have HPP := Lib.hid HPT
 have HBD := Lib.hid HPB
 have HSV := Lib.hid rq_sev
 have HCO := Lib.hid (fun (m : Nat) (hm : m < L.length) (W : World) (hW : Rq W g lo lc L m op none) => rq_pc g lo lc L m op none (by omega) hm W hW)
 obtain ⟨c, hc⟩ : ∃ c : Nat → Bool, c = startsO L := ⟨_, rfl⟩
 have HC := Lib.hid hc
 obtain ⟨nx, hnx⟩ : ∃ nx : Nat → Rs, nx = sub := ⟨_, rfl⟩
 have HNX := Lib.hid hnx
 obtain ⟨RS, hRS⟩ : ∃ r, lsO c (L.length + 1) nx (sub k) = r := ⟨_, rfl⟩
 obtain ⟨RES, hRE⟩ : ∃ r, seqO L sub k = r := ⟨_, rfl⟩
 have HSP := Lib.hid (show RES = endX 4 RS from by rw [← hRE, seqO_ls, ← hRS, hc, hnx])
 have HRS := Lib.hid hRS
 have HCL := Lib.hid (show ∀ j, c j = true → j + 1 < L.length from fun j h => by rw [hc] at h; exact startsO_lt1 hNB h)
 rw [hRE]
 clear HPT HPB hRS hc hnx hRE hNB
 have HH := Lib.hid h
 have hbl : Below w.heap.size w (w.alloc (.cells #[.int .i64 0, .string ⟨#[]⟩, .int .u64 0, .int .u64 0, .int .u64 0, .int .u64 0, .slice none 0 0] 28)) := (Below.refl _ _).alloc (Nat.le_refl _) _
 have HQ1 := Lib.hid (h.below hbl)
 have HA1 := Lib.hid (Own.fresh w 28 [.int .i64 0, .string ⟨#[]⟩, .int .u64 0, .int .u64 0, .int .u64 0, .int .u64 0, .slice none 0 0])
 have HU1 := Lib.hid (But.of_below (S := fun j => j = g) hbl)
 have hlt := h.1.lt
 obtain ⟨N, hN⟩ : ∃ N, w.heap.size = N := ⟨_, rfl⟩
 have HNN := Lib.hid hN
 have HG := Lib.hid (show g < N by omega)
 have HS1 := Lib.hid (show N + 1 ≤ (w.alloc (.cells #[.int .i64 0, .string ⟨#[]⟩, .int .u64 0, .int .u64 0, .int .u64 0, .int .u64 0, .slice none 0 0] 28)).heap.size by simp; omega)
 rw [hN] at HA1
 clear h hbl hlt
 go_enter Try.func45, Try.ntmps45
 go_upto_region 1 with fail
 generalize World.alloc w _ = w1 at *
 try rw [hN]
 clear hN
 go_wp2_with fail
 refine (HPP.out k hk _ HQ1.out).mono ?_
 rintro e w2 ⟨hb, X2, ko, kc, b, rfl, hr⟩
 unfold exv
 have HBR := Lib.hid (HBD.out k)
 obtain ⟨r, hrr⟩ : ∃ r, sub k = r := ⟨_, rfl⟩
 rw [hrr] at hr HBR HRS
 clear hrr
 have HKP := Lib.hid (show ∀ x m, r = .ok (x, m) → ∃ n, HasP w2 (fun j => N + 1 ≤ j ∧ j < w2.heap.size) n ko X2.kids from fun x m e => by subst e; obtain ⟨_, _, rfl, n, hE⟩ := hr; exact ⟨n, (HasP.ofE hE).mono (fun j _ h => ⟨Nat.le_trans HS1.out h.1, h.2⟩)⟩)
 have hr := OutR.low HS1.out hr
 have HA2 := Lib.hid (HA1.out.but hb (by have := HG.out; omega))
 have HU2 := Lib.hid (HU1.out.trans hb (fun _ _ h => h))
 have HS2 := Lib.hid (Nat.le_trans HS1.out hb.size)
 clear HA1 HU1 HS1
 clear hb HQ1
 have hbl : Below w2.heap.size w2 (w2.alloc (.cells #[.int .i64 X2.op, .string X2.text, .int .u64 X2.s0, .int .u64 X2.s1, .int .u64 X2.s2, .int .u64 X2.s3, .slice ko X2.kids.length kc] 28)) := (Below.refl _ _).alloc (Nat.le_refl _) _
 have HM3 := Lib.hid (Own.fresh w2 28 [.int .i64 X2.op, .string X2.text, .int .u64 X2.s0, .int .u64 X2.s1, .int .u64 X2.s2, .int .u64 X2.s3, .slice ko X2.kids.length kc])
 have HA3 := Lib.hid (HA2.out.under hbl HA2.out.lt)
 have HU3 := Lib.hid (HU2.out.then_below hbl)
 have HS3 := Lib.hid (Nat.le_trans HS2.out hbl.size)
 have HR3 := Lib.hid (OutR.below hr hbl)
 have HK3 := Lib.hid (show ∀ x m, r = .ok (x, m) → ∃ n, HasP (w2.alloc (.cells #[.int .i64 X2.op, .string X2.text, .int .u64 X2.s0, .int .u64 X2.s1, .int .u64 X2.s2, .int .u64 X2.s3, .slice ko X2.kids.length kc] 28)) (fun j => N + 1 ≤ j ∧ j < w2.heap.size) n ko X2.kids from fun x m e => by obtain ⟨n, h⟩ := HKP.out x m e; exact ⟨n, h.but (But.of_below (S := fun _ => False) hbl) (fun _ _ _ h => h)⟩)
 obtain ⟨M, hM⟩ : ∃ q, w2.heap.size = q := ⟨_, rfl⟩
 have HGM := Lib.hid (show g < M ∧ N < M ∧ w.heap.size ≤ M from ⟨by have := HS2.out; have := HG.out; omega, by have := HS2.out; omega, by have := HS2.out; have := HNN.out; omega⟩)
 rw [hM] at HM3 HK3
 clear hbl HA2 HU2 HS2 HKP hr
 go_upto_region 2 with fail
 generalize w2.alloc _ = w3 at *
 try rw [hM]
 clear hM
 obtain ⟨m0, m1, m2, m3, m4, m5, m6⟩ := HM3.out.seven
 have ml := HM3.out.lt
 go_wp2_with fail
 clear m0 m1 m2 m3 m4 m5 m6 ml
 have hbl : Below w3.heap.size w3 (w3.alloc (.cells #[.int .i64 X2.op, .string X2.text, .int .u64 X2.s0, .int .u64 X2.s1, .int .u64 X2.s2, .int .u64 X2.s3, .slice ko X2.kids.length kc] 28)) := (Below.refl _ _).alloc (Nat.le_refl _) _
 have HX4 := Lib.hid (show Own (w3.alloc (.cells #[.int .i64 X2.op, .string X2.text, .int .u64 X2.s0, .int .u64 X2.s1, .int .u64 X2.s2, .int .u64 X2.s3, .slice ko X2.kids.length kc] 28)) w3.heap.size 28 (xrow (X2, ko, kc)) from Own.fresh w3 28 (xrow (X2, ko, kc)))
 have HM4 := Lib.hid (HM3.out.under hbl HM3.out.lt)
 have HL3 := Lib.hid HM3.out.lt
 have HA4 := Lib.hid (HA3.out.under hbl HA3.out.lt)
 have HU4 := Lib.hid (HU3.out.then_below hbl)
 have HS4 := Lib.hid (Nat.le_trans HS3.out hbl.size)
 have HR4 := Lib.hid (OutR.below HR3.out hbl)
 have HK4 := Lib.hid (show ∀ x m, r = .ok (x, m) → ∃ n, HasP (w3.alloc (.cells #[.int .i64 X2.op, .string X2.text, .int .u64 X2.s0, .int .u64 X2.s1, .int .u64 X2.s2, .int .u64 X2.s3, .slice ko X2.kids.length kc] 28)) (fun j => N + 1 ≤ j ∧ j < M) n ko X2.kids from fun x m e => by obtain ⟨n, h⟩ := HK3.out x m e; exact ⟨n, h.but (But.of_below (S := fun _ => False) hbl) (fun _ _ _ h => h)⟩)
 clear hbl HA3 HU3 HS3 HR3 HK3 HM3
 generalize w3.alloc _ = w4 at *
 obtain ⟨B0, hB0⟩ : ∃ q, w3.heap.size = q := ⟨_, rfl⟩
 rw [hB0] at HX4 HL3
 rw [hB0]
 clear hB0
 have H0 : ∃ (kk : Nat) (F : Option (Int × Int)) (q : Int), Rq w4 g lo lc L kk q F ∧ XT (fun j => N + 1 ≤ j ∧ j ≠ M) (F = none) w4 (.slice (some ⟨B0, 0, none⟩) [X2].length 1) [X2] ∧ LsQ L c nx RS [X2] kk F ∧ (F = none → q = op ∧ kk < L.length) ∧ b = F.isNone := by
  have hT : N + 1 ≤ B0 ∧ B0 ≠ M := by have := HL3.out; have := HGM.out; omega
  have hTR : ∀ j, (N + 1 ≤ j ∧ j < M) → (N + 1 ≤ j ∧ j ≠ M) ∧ j < B0 := fun j hj => by have := HL3.out; omega
  cases r with
  | error f =>
   obtain ⟨rfl, h1, kk, q, h2⟩ := HR4.out
   exact ⟨kk, some f, q, h2, XT.first (n := 0) HX4.out hT hTR (fun h => by cases h), ⟨h1, HRS.out.symm⟩, (fun h => by cases h), rfl⟩
  | ok p =>
   obtain ⟨x, m⟩ := p
   obtain ⟨rfl, h1, rfl, n, h2⟩ := HR4.out
   obtain ⟨b1, b2⟩ := HBR.out x m rfl
   obtain ⟨n', h3⟩ := HK4.out x m rfl
   exact ⟨m, none, op, h1, XT.first (n := n') HX4.out hT hTR (fun _ => h3), ⟨by show 1 ≤ m; omega, by omega, _, HRS.out, by omega⟩, (fun _ => ⟨rfl, b2⟩), rfl⟩
 obtain ⟨kk0, F0, q0, r1, r2, r3, r4, rfl⟩ := H0
 have H10 := Lib.hid r1
 have H20 := Lib.hid r2
 have H30 := Lib.hid r3
 have H40 := Lib.hid r4
 clear r1 r2 r3 r4 HX4 HR4 HK4 HBR HRS HL3
 go_loopw [5, 6] (fun v5 v6 wr => ∃ (K : List Ex) (ao : Option Addr) (cap kk : Nat) (q : Int) (F : Option (Int × Int)), v5 = .bool F.isNone ∧ v6 = .slice ao K.length cap ∧ Hid (Rq wr g lo lc L kk q F) ∧ Hid (XT (fun j => N + 1 ≤ j ∧ j ≠ M) (F = none) wr (.slice ao K.length cap) K) ∧ Hid (LsQ L c nx RS K kk F) ∧ Hid (F = none → q = op ∧ kk < L.length) ∧ Hid (1 ≤ K.length ∧ K.length ≤ 90002) ∧
   Hid (Own wr N 28 [.int .i64 0, .string ⟨#[]⟩, .int .u64 0, .int .u64 0, .int .u64 0, .int .u64 0, .slice none 0 0]) ∧ Hid (∃ (Y : Ex) (yo : Option Addr) (yc : Nat), Own wr M 28 [.int .i64 Y.op, .string Y.text, .int .u64 Y.s0, .int .u64 Y.s1, .int .u64 Y.s2, .int .u64 Y.s3, .slice yo Y.kids.length yc]) ∧ Hid (But (fun j => j = g) w wr) ∧ Hid (N + 1 ≤ wr.heap.size)) (fun _ v6 _ => L.length + 2 - sliceLen v6)
 case atStart => exact ⟨[X2], _, _, kk0, q0, F0, rfl, rfl, H10, H20, H30, H40, ⟨by show 1 ≤ 1; omega, by show 1 ≤ 90002; omega⟩, HA4, ⟨X2, ko, kc, HM4.out⟩, HU4, HS4⟩
 case round =>
  obtain ⟨K, ao, cap, kk, q, F, rfl, rfl, HD, HXS, HLQ, HQO, HKL, HA, HM, HU, HS⟩ := hrel
  clear H10 H20 H30 H40 HA4 HM4 HU4 HS4
  cases F with
  | some f =>
   have HFE := Lib.hid (show LsEnd RS K kk (some f) from HLQ.out)
   clear HLQ
   have HXD := Lib.hid (HXS.out.toS (D := N + 1) (fun j h => h.1))
   go_wp2_with fail
   refine (HSV.out 4 (N + 1) cap _ ao K (by have := HKL.out; omega) _ HXD.out).mono ?_
   rintro e w8 ⟨hb, ko8, kc8, rfl, hK8⟩
   have HA8 := Lib.hid (HA.out.under hb HA.out.lt)
   have HU8 := Lib.hid (HU.out.then_below hb)
   have HR8 := Lib.hid (show OutR (N + 1) g lo lc L op RES (oneX 4 K) ko8 false w8 from by rw [HSP.out]; exact OutR.ends (HD.out.below hb) (fun e => by cases e) HFE.out (fun e => hK8 (by first | trivial | exact e)) rfl)
   unfold exv
   generalize oneX 4 K = X8 at *
   clear hb hK8 HXD HXS HD HA HU HFE HS
   obtain ⟨z0, z1, z2, z3, z4, z5, z6, y0, y1, y2, y3, y4, y5, y6⟩ := HA8.out.seven2
   have zl := HA8.out.lt
   have HRR := Lib.hid (HR8.out)
   go_wp2
   clear z0 z1 z2 z3 z4 z5 z6 y0 y1 y2 y3 y4 y5 y6 zl
   rw [set7t_fold]
   obtain ⟨hU, hR⟩ := OutR.fin (N := N) HH.out (Nat.le_of_eq HNN.out) HU8.out HRR.out (.int .i64 X8.op) (.string X8.text) (.int .u64 X8.s0) (.int .u64 X8.s1) (.int .u64 X8.s2) (.int .u64 X8.s3) (.slice ko8 X8.kids.length kc8)
   have HF := HA8.out.put7 (u0 := .int .i64 X8.op) (u1 := .string X8.text) (u2 := .int .u64 X8.s0) (u3 := .int .u64 X8.s1) (u4 := .int .u64 X8.s2) (u5 := .int .u64 X8.s3) (u6 := .slice ko8 X8.kids.length kc8)
   generalize set7t w8 N _ _ _ _ _ _ _ = w99 at *
   obtain ⟨z0, z1, z2, z3, z4, z5, z6⟩ := HF.seven
   refine bodyPost_ret (by simp [results, Try.results45, go_sem, z0, z1, z2, z3, z4, z5, z6]; rfl) rfl ?_
   exact ⟨hU, X8, ko8, kc8, false, rfl, hR⟩
  | none =>
   obtain ⟨rfl, hkL⟩ := HQO.out rfl
   obtain ⟨f, hf, hff⟩ := HLQ.out.2.2
   have hkl : K.length ≤ kk := HLQ.out.1
   have HGO := Lib.hid (show RS = _ from by rw [← hf, lsL_go (by omega)])
   have HFF := Lib.hid hff
   clear hf hff HLQ
   obtain ⟨z, hz⟩ : ∃ z, c kk = z := ⟨_, rfl⟩
   have HCT := Lib.hid (HCO.out kk hkL)
   have HZL := Lib.hid (show z = true → kk + 1 < L.length from fun h => HCL.out kk (hz.trans h))
   have hcz : startsO L kk = z := by rw [← hz, HC.out]
   rw [hz] at HGO
   rw [hcz] at HCT
   clear hz hcz
   go_wp2_with fail
   refine (HCT.out _ HD.out).mono ?_
   rintro e wt ⟨rfl, hbl⟩
   have hbt : But (fun j => j = g) wr wt := But.of_below hbl
   have HD2 := Lib.hid (HD.out.below hbl)
   have HXS2 := Lib.hid (HXS.out.keep hbt (fun j h e => by have := HG.out; omega))
   have HA2 := Lib.hid (HA.out.but hbt (by have := HG.out; omega))
   have HM2 := Lib.hid (show ∃ (Y : Ex) (yo : Option Addr) (yc : Nat), Own wt M 28 [.int .i64 Y.op, .string Y.text, .int .u64 Y.s0, .int .u64 Y.s1, .int .u64 Y.s2, .int .u64 Y.s3, .slice yo Y.kids.length yc] from by obtain ⟨Y, yo, yc, h⟩ := HM.out; exact ⟨Y, yo, yc, h.but hbt (by have := HGM.out; omega)⟩)
   have HU2 := Lib.hid (HU.out.trans hbt (fun _ _ h => h))
   have HS2 := Lib.hid (Nat.le_trans HS.out hbt.size)
   clear hbt hbl HCT HD HXS HA HM HU HS
   have HD := HD2
   have HXS := HXS2
   have HA := HA2
   have HM := HM2
   have HU := HU2
   have HS := HS2
   clear HD2 HXS2 HA2 HM2 HU2 HS2
   cases z
   case false =>
    have HFE := Lib.hid (show LsEnd RS K kk none from HGO.out.trans (if_neg (by decide)))
    clear HGO HZL
    have HXD := Lib.hid (HXS.out.toS (D := N + 1) (fun j h => h.1))
    go_wp2_with fail
    refine (HSV.out 4 (N + 1) cap _ ao K (by have := HKL.out; omega) _ HXD.out).mono ?_
    rintro e w8 ⟨hb, ko8, kc8, rfl, hK8⟩
    have HA8 := Lib.hid (HA.out.under hb HA.out.lt)
    have HU8 := Lib.hid (HU.out.then_below hb)
    have HR8 := Lib.hid (show OutR (N + 1) g lo lc L q RES (oneX 4 K) ko8 true w8 from by rw [HSP.out]; exact OutR.ends (HD.out.below hb) (fun e => rfl) HFE.out (fun e => hK8 (by first | trivial | exact e)) rfl)
    unfold exv
    generalize oneX 4 K = X8 at *
    clear hb hK8 HXD HXS HD HA HU HFE HS
    obtain ⟨z0, z1, z2, z3, z4, z5, z6, y0, y1, y2, y3, y4, y5, y6⟩ := HA8.out.seven2
    have zl := HA8.out.lt
    have HRR := Lib.hid (HR8.out)
    go_wp2
    clear z0 z1 z2 z3 z4 z5 z6 y0 y1 y2 y3 y4 y5 y6 zl
    rw [set7t_fold]
    obtain ⟨hU, hR⟩ := OutR.fin (N := N) HH.out (Nat.le_of_eq HNN.out) HU8.out HRR.out (.int .i64 X8.op) (.string X8.text) (.int .u64 X8.s0) (.int .u64 X8.s1) (.int .u64 X8.s2) (.int .u64 X8.s3) (.slice ko8 X8.kids.length kc8)
    have HF := HA8.out.put7 (u0 := .int .i64 X8.op) (u1 := .string X8.text) (u2 := .int .u64 X8.s0) (u3 := .int .u64 X8.s1) (u4 := .int .u64 X8.s2) (u5 := .int .u64 X8.s3) (u6 := .slice ko8 X8.kids.length kc8)
    generalize set7t w8 N _ _ _ _ _ _ _ = w99 at *
    obtain ⟨z0, z1, z2, z3, z4, z5, z6⟩ := HF.seven
    refine bodyPost_ret (by simp [results, Try.results45, go_sem, z0, z1, z2, z3, z4, z5, z6]; rfl) rfl ?_
    exact ⟨hU, X8, ko8, kc8, true, rfl, hR⟩
   case true =>
    have hkl2 := HZL.out rfl
    have HGT := Lib.hid (HGO.out.trans (if_pos rfl))
    obtain ⟨k2, hk2e⟩ : ∃ k2, k2 = kk := ⟨_, rfl⟩
    have HD3 := Lib.hid (show Rq wt g lo lc L k2 q none from by rw [hk2e]; exact HD.out)
    have HNK := Lib.hid (show nx kk = sub k2 from by rw [HNX.out, hk2e])
    have hk2l : k2 < L.length := by omega
    have HKK := Lib.hid (show kk ≤ k2 by omega)
    clear hk2e HD HGO HZL
    rw [HNK.out] at HGT
    go_wp2_with fail
    refine (HPP.out k2 hk2l _ HD3.out).mono ?_
    rintro e w4 ⟨hbu, X2, ko, kc, b, rfl, hq⟩
    unfold exv
    have HBR := Lib.hid (HBD.out k2)
    obtain ⟨r, hr⟩ : ∃ r, sub k2 = r := ⟨_, rfl⟩
    rw [hr] at hq HBR HGT
    clear hr HNK
    obtain ⟨Y, yo, yc, hm⟩ := HM.out
    have hm4 := hm.but hbu (by have := HGM.out; omega)
    obtain ⟨m0, m1, m2, m3, m4, m5, m6, n0, n1, n2, n3, n4, n5, n6⟩ := hm4.seven2
    have ml := hm4.lt
    have HMT := Lib.hid hm.lt
    clear hm HM
    go_upto_region 5 with fail
    rw [set7t_fold]
    have HM5 := Lib.hid (hm4.put7 (u0 := .int .i64 X2.op) (u1 := .string X2.text) (u2 := .int .u64 X2.s0) (u3 := .int .u64 X2.s1) (u4 := .int .u64 X2.s2) (u5 := .int .u64 X2.s3) (u6 := .slice ko X2.kids.length kc))
    have HB5 := Lib.hid (But.set7 w4 M (.int .i64 X2.op) (.string X2.text) (.int .u64 X2.s0) (.int .u64 X2.s1) (.int .u64 X2.s2) (.int .u64 X2.s3) (.slice ko X2.kids.length kc))
    clear m0 m1 m2 m3 m4 m5 m6 n0 n1 n2 n3 n4 n5 n6 ml hm4
    have HBU := Lib.hid (show But (fun j => j = g ∨ j = M) wt _ from (hbu.mono (fun _ _ h => .inl h)).trans HB5.out (fun _ _ h => .inr h))
    have HA5 := Lib.hid ((HA.out.but hbu (by have := HG.out; omega)).but HB5.out (by have := HGM.out; omega))
    have HU5 := Lib.hid ((HU.out.trans hbu (fun _ _ h => h)).trans HB5.out (fun j hj h => by have := HGM.out; omega))
    have HR5 := Lib.hid (show OutR wt.heap.size g lo lc L q r X2 ko b _ from OutR.put7 HB5.out (by have := HGM.out; omega) HMT.out HH.out HU5.out hq)
    have HS5 := Lib.hid (Nat.le_trans hbu.size HB5.out.size)
    clear hbu hq HB5 HA HU HD3
    generalize set7t w4 M _ _ _ _ _ _ _ = w5 at *
    obtain ⟨m0, m1, m2, m3, m4, m5, m6⟩ := HM5.out.seven
    have ml := HM5.out.lt
    have HXT := HXS
    obtain ⟨R, S, Z, n, s1, s2, s3, s4, s5⟩ := HXS.out
    have HLZ := Lib.hid (show Z.length = K.length from by rw [← s3, List.length_map])
    have HS1 := Lib.hid s1
    have HS2 := Lib.hid s2
    have HS3 := Lib.hid s3
    have HS6 := Lib.hid s5
    have HB6 := Lib.hid (show Below w5.heap.size w5 (w5.alloc (.cells #[.int .i64 X2.op, .string X2.text, .int .u64 X2.s0, .int .u64 X2.s1, .int .u64 X2.s2, .int .u64 X2.s3, .slice ko X2.kids.length kc] 28)) from (Below.refl _ _).alloc (Nat.le_refl _) _)
    have HWN := Lib.hid ((s4.keep HBU.out (fun j hj hs e => by have := (s1 j (.inr hs)).1; have := HG.out; omega)).below HB6.out)
    have HA6 := Lib.hid (HA5.out.under HB6.out HA5.out.lt)
    have HM6 := Lib.hid (HM5.out.under HB6.out HM5.out.lt)
    have HU6 := Lib.hid (HU5.out.then_below HB6.out)
    have HR6 := Lib.hid (OutR.below HR5.out HB6.out)
    have HS7 := Lib.hid (show wt.heap.size ≤ w5.heap.size ∧ w5.heap.size < (w5.alloc (.cells #[.int .i64 X2.op, .string X2.text, .int .u64 X2.s0, .int .u64 X2.s1, .int .u64 X2.s2, .int .u64 X2.s3, .slice ko X2.kids.length kc] 28)).heap.size from ⟨HS5.out, by simp⟩)
    clear s1 s2 s3 s4 s5 HXS HA5 HM5 HU5 HS5
    obtain ⟨i0, hi, hz0, hz1, hz2⟩ := info_parts7 info_expr
    have HNEW := Lib.hid (fun W => fresh_news W 28 (xrow (X2, ko, kc)))
    have HCEL := Lib.hid (show ∀ u ∈ xrow (X2, ko, kc), u.oneCell' = true by intro u hu; simp [xrow] at hu; rcases hu with rfl | rfl | rfl | rfl | rfl | rfl | rfl <;> rfl)
    obtain ⟨nK, hnK⟩ : ∃ n, K.length = n := ⟨_, rfl⟩
    rw [hnK] at HWN HLZ hkl HKL
    rw [HLZ.out] at HWN
    rw [hnK]
    have HKN := Lib.hid hnK
    clear hnK
    go_wp2_with (first
     | (at_builtin; refine wpList_append_win _ rfl _ _ 26 rfl S 28 i0 _ 7 80 Try.underlying26 hi hz0 hz1 hz2 rfl (by decide) _ nK (Z.flatMap xrow) rfl HWN.out ⟨w5.heap.size, 0, none⟩ 1 1 (xrow (X2, ko, kc)) rfl rfl (HNEW.out w5) HCEL.out (by unfold maxLen; omega) (by omega) ?_))
    intro v' w7 hw7 hb7
    clear m0 m1 m2 m3 m4 m5 m6 ml
    have HW7 := Lib.hid hw7
    have HB7 := Lib.hid hb7
    have HSG := Lib.hid (show ∀ j, S j → N < j ∧ j ≠ M from fun j hj => by have := (HS1.out j (.inr hj)).1; omega)
    have HA7 := Lib.hid (HA6.out.but hb7 (fun h => by have := HSG.out _ h; omega))
    have HM7 := Lib.hid (HM6.out.but hb7 (fun h => (HSG.out _ h).2 rfl))
    have HU7 := Lib.hid (HU6.out.trans hb7 (fun j hj hs => by have := HSG.out _ hs; have := HNN.out; omega))
    have HZ7 := Lib.hid (show N + 1 ≤ w7.heap.size from by have := HS.out; have := HS7.out; have := hb7.size; omega)
    have H0 : ∃ (kk : Nat) (F : Option (Int × Int)) (p : Int), Rq w7 g lo lc L kk p F ∧ XT (fun j => N + 1 ≤ j ∧ j ≠ M) (F = none) w7 v' (K ++ [X2]) ∧ LsQ L c nx RS (K ++ [X2]) kk F ∧ (F = none → p = q ∧ kk < L.length) ∧ b = F.isNone := by
     rw [← HS3.out]
     have hw7' : Win (fun j => S j ∨ (w5.alloc (.cells #[.int .i64 X2.op, .string X2.text, .int .u64 X2.s0, .int .u64 X2.s1, .int .u64 X2.s2, .int .u64 X2.s3, .slice ko X2.kids.length kc] 28)).heap.size ≤ j) 28 7 w7 v' (Z.length + 1) (Z.flatMap xrow ++ xrow (X2, ko, kc)) := by rw [HLZ.out]; exact HW7.out.mono (fun b _ h => by simpa using h)
     have hgS : ¬ S g := fun h => by have := HSG.out _ h; have := HG.out; omega
     have hRd : ∀ m p F, Rq (w5.alloc (.cells #[.int .i64 X2.op, .string X2.text, .int .u64 X2.s0, .int .u64 X2.s1, .int .u64 X2.s2, .int .u64 X2.s3, .slice ko X2.kids.length kc] 28)) g lo lc L m p F → Rq w7 g lo lc L m p F := fun m p F h => ⟨h.1.but HB7.out hgS, HH.out.2.1.but HH.out.2.2 HU7.out, HH.out.2.2⟩
     have hTN : ∀ j, wt.heap.size ≤ j → N + 1 ≤ j ∧ j ≠ M := fun j hj => by have := HS.out; have := HMT.out; omega
     have hTU : ∀ j, (N + 1 ≤ j ∧ j ≠ M) → ¬ (j = g ∨ j = M) := fun j hj e => by have := HG.out; omega
     cases r with
     | error f =>
      obtain ⟨rfl, h1, k3, p, h2⟩ := HR6.out
      exact ⟨k3, some f, p, hRd _ _ _ h2, XT.snoc (G := some f = none) (n := 0) (n' := 0) hTN hTU HS1.out HS2.out (fun h => by cases h) HBU.out (fun h => by cases h) HB6.out hw7' HB7.out, ⟨h1, HGT.out⟩, (fun h => by cases h), rfl⟩
     | ok p =>
      obtain ⟨x, m⟩ := p
      obtain ⟨rfl, h1, rfl, n1, h2⟩ := HR6.out
      obtain ⟨b1, b2⟩ := HBR.out x m rfl
      obtain ⟨_, _, _, n', h3⟩ := HR5.out
      exact ⟨m, none, q, hRd _ _ _ h1, XT.snoc (G := (none : Option (Int × Int)) = none) (n' := n') hTN hTU HS1.out HS2.out (fun h => HS6.out (by first | trivial | exact rfl)) HBU.out (fun _ => h3) HB6.out hw7' HB7.out, ⟨by rw [HS3.out, List.length_append, HKN.out]; show nK + 1 ≤ m; have := HKK.out; omega, by omega, f - 1, by rw [HS3.out]; exact HGT.out.symm, by have := HKK.out; have := HFF.out; omega⟩, (fun _ => ⟨rfl, b2⟩), rfl⟩
    obtain ⟨k9, F9, p9, r1, r2, r3, r4, rfl⟩ := H0
    obtain ⟨ao', cap', hv⟩ := r2.form
    have hv2 : v' = .slice ao' (nK + 1) cap' := by rw [hv, List.length_append, HKN.out]; rfl
    have hln : (K ++ [X2]).length = nK + 1 := by rw [List.length_append, HKN.out]; rfl
    subst hv2
    have H19 := Lib.hid r1
    have H29 := Lib.hid (show XT (fun j => N + 1 ≤ j ∧ j ≠ M) (F9 = none) w7 (.slice ao' (K ++ [X2]).length cap') (K ++ [X2]) from by rw [hln]; exact r2)
    have H39 := Lib.hid r3
    have H49 := Lib.hid r4
    have HLN := Lib.hid hln
    have HKM := Lib.hid (show 1 ≤ (K ++ [X2]).length ∧ (K ++ [X2]).length ≤ 90002 from by rw [hln]; omega)
    clear r1 r2 r3 r4 hw7 hb7 hv hln
    go_wp2
    go_roundw
    case rel => exact ⟨K ++ [X2], ao', cap', k9, p9, F9, rfl, by rw [HLN.out], H19, H29, H39, H49, HKM, HA7, ⟨X2, ko, kc, HM7.out⟩, HU7, HZ7⟩
    case measure => have := HKN.out; simp [sliceLen]; omega
set_option maxRecDepth 1000000 in
set_option maxHeartbeats 3200000 in
theorem rq_exp (sub : Nat → Rs) (g : Nat) (lo : Option Addr) (lc : Nat) (L : List Tok) (k : Nat) (op : Int) (hn : (L.length : Int) ≤ 90000) (hNB : ∀ j, (tkA L j).kd ≠ 0 → j + 1 < L.length) (hk : k < L.length) (HPT : ∀ m, m < L.length → ∀ W, Rq W g lo lc L m op none → Calls Try.prog 45 #[.pointer (some ⟨g, 0, none⟩)] W fun e w' => OutP W g lo lc L op (sub m) e w') (HPB : ∀ j x m, sub j = .ok (x, m) → j < m ∧ m < L.length)  (w : World) (h : Rq w g lo lc L k op none) :
  Calls Try.prog 26 #[.pointer (some ⟨g, 0, none⟩)] w fun e w' => OutP w g lo lc L op (chO L sub k) e w' := by
 have HPP := Lib.hid HPT
 have HBD := Lib.hid HPB
 have HSV := Lib.hid rq_sev
 have HCO := Lib.hid (fun (m : Nat) (hm : m < L.length) (W : World) (hW : Rq W g lo lc L m op none) => rq_take ⟨#[47]⟩ g lo lc L m op none (by omega) hm W hW)
 obtain ⟨c, hc⟩ : ∃ c : Nat → Bool, c = fun k => isS L k [47] := ⟨_, rfl⟩
 have HC := Lib.hid hc
 obtain ⟨nx, hnx⟩ : ∃ nx : Nat → Rs, nx = fun k => sub (k + 1) := ⟨_, rfl⟩
 have HNX := Lib.hid hnx
 obtain ⟨RS, hRS⟩ : ∃ r, lsO c (L.length + 1) nx (sub k) = r := ⟨_, rfl⟩
 obtain ⟨RES, hRE⟩ : ∃ r, chO L sub k = r := ⟨_, rfl⟩
 have HSP := Lib.hid (show RES = endX 5 RS from by rw [← hRE, chO_ls, ← hRS, hc, hnx])
 have HRS := Lib.hid hRS
 have HCL := Lib.hid (show ∀ j, c j = true → j + 1 < L.length from fun j h => by rw [hc] at h; exact hNB j (by rw [isS_kd4 h]; decide))
 rw [hRE]
 clear HPT HPB hRS hc hnx hRE hNB
 have HH := Lib.hid h
 have hbl : Below w.heap.size w (w.alloc (.cells #[.int .i64 0, .string ⟨#[]⟩, .int .u64 0, .int .u64 0, .int .u64 0, .int .u64 0, .slice none 0 0] 28)) := (Below.refl _ _).alloc (Nat.le_refl _) _
 have HQ1 := Lib.hid (h.below hbl)
 have HA1 := Lib.hid (Own.fresh w 28 [.int .i64 0, .string ⟨#[]⟩, .int .u64 0, .int .u64 0, .int .u64 0, .int .u64 0, .slice none 0 0])
 have HU1 := Lib.hid (But.of_below (S := fun j => j = g) hbl)
 have hlt := h.1.lt
 obtain ⟨N, hN⟩ : ∃ N, w.heap.size = N := ⟨_, rfl⟩
 have HNN := Lib.hid hN
 have HG := Lib.hid (show g < N by omega)
 have HS1 := Lib.hid (show N + 1 ≤ (w.alloc (.cells #[.int .i64 0, .string ⟨#[]⟩, .int .u64 0, .int .u64 0, .int .u64 0, .int .u64 0, .slice none 0 0] 28)).heap.size by simp; omega)
 rw [hN] at HA1
 clear h hbl hlt
 go_enter Try.func26, Try.ntmps26
 go_upto_region 1 with fail
 generalize World.alloc w _ = w1 at *
 try rw [hN]
 clear hN
 go_wp2_with fail
 refine (HPP.out k hk _ HQ1.out).mono ?_
 rintro e w2 ⟨hb, X2, ko, kc, b, rfl, hr⟩
 unfold exv
 have HBR := Lib.hid (HBD.out k)
 obtain ⟨r, hrr⟩ : ∃ r, sub k = r := ⟨_, rfl⟩
 rw [hrr] at hr HBR HRS
 clear hrr
 have HKP := Lib.hid (show ∀ x m, r = .ok (x, m) → ∃ n, HasP w2 (fun j => N + 1 ≤ j ∧ j < w2.heap.size) n ko X2.kids from fun x m e => by subst e; obtain ⟨_, _, rfl, n, hE⟩ := hr; exact ⟨n, (HasP.ofE hE).mono (fun j _ h => ⟨Nat.le_trans HS1.out h.1, h.2⟩)⟩)
 have hr := OutR.low HS1.out hr
 have HA2 := Lib.hid (HA1.out.but hb (by have := HG.out; omega))
 have HU2 := Lib.hid (HU1.out.trans hb (fun _ _ h => h))
 have HS2 := Lib.hid (Nat.le_trans HS1.out hb.size)
 clear HA1 HU1 HS1
 clear hb HQ1
 have hbl : Below w2.heap.size w2 (w2.alloc (.cells #[.int .i64 X2.op, .string X2.text, .int .u64 X2.s0, .int .u64 X2.s1, .int .u64 X2.s2, .int .u64 X2.s3, .slice ko X2.kids.length kc] 28)) := (Below.refl _ _).alloc (Nat.le_refl _) _
 have HM3 := Lib.hid (Own.fresh w2 28 [.int .i64 X2.op, .string X2.text, .int .u64 X2.s0, .int .u64 X2.s1, .int .u64 X2.s2, .int .u64 X2.s3, .slice ko X2.kids.length kc])
 have HA3 := Lib.hid (HA2.out.under hbl HA2.out.lt)
 have HU3 := Lib.hid (HU2.out.then_below hbl)
 have HS3 := Lib.hid (Nat.le_trans HS2.out hbl.size)
 have HR3 := Lib.hid (OutR.below hr hbl)
 have HK3 := Lib.hid (show ∀ x m, r = .ok (x, m) → ∃ n, HasP (w2.alloc (.cells #[.int .i64 X2.op, .string X2.text, .int .u64 X2.s0, .int .u64 X2.s1, .int .u64 X2.s2, .int .u64 X2.s3, .slice ko X2.kids.length kc] 28)) (fun j => N + 1 ≤ j ∧ j < w2.heap.size) n ko X2.kids from fun x m e => by obtain ⟨n, h⟩ := HKP.out x m e; exact ⟨n, h.but (But.of_below (S := fun _ => False) hbl) (fun _ _ _ h => h)⟩)
 obtain ⟨M, hM⟩ : ∃ q, w2.heap.size = q := ⟨_, rfl⟩
 have HGM := Lib.hid (show g < M ∧ N < M ∧ w.heap.size ≤ M from ⟨by have := HS2.out; have := HG.out; omega, by have := HS2.out; omega, by have := HS2.out; have := HNN.out; omega⟩)
 rw [hM] at HM3 HK3
 clear hbl HA2 HU2 HS2 HKP hr
 go_upto_region 2 with fail
 generalize w2.alloc _ = w3 at *
 try rw [hM]
 clear hM
 obtain ⟨m0, m1, m2, m3, m4, m5, m6⟩ := HM3.out.seven
 have ml := HM3.out.lt
 go_wp2_with fail
 clear m0 m1 m2 m3 m4 m5 m6 ml
 have hbl : Below w3.heap.size w3 (w3.alloc (.cells #[.int .i64 X2.op, .string X2.text, .int .u64 X2.s0, .int .u64 X2.s1, .int .u64 X2.s2, .int .u64 X2.s3, .slice ko X2.kids.length kc] 28)) := (Below.refl _ _).alloc (Nat.le_refl _) _
 have HX4 := Lib.hid (show Own (w3.alloc (.cells #[.int .i64 X2.op, .string X2.text, .int .u64 X2.s0, .int .u64 X2.s1, .int .u64 X2.s2, .int .u64 X2.s3, .slice ko X2.kids.length kc] 28)) w3.heap.size 28 (xrow (X2, ko, kc)) from Own.fresh w3 28 (xrow (X2, ko, kc)))
 have HM4 := Lib.hid (HM3.out.under hbl HM3.out.lt)
 have HL3 := Lib.hid HM3.out.lt
 have HA4 := Lib.hid (HA3.out.under hbl HA3.out.lt)
 have HU4 := Lib.hid (HU3.out.then_below hbl)
 have HS4 := Lib.hid (Nat.le_trans HS3.out hbl.size)
 have HR4 := Lib.hid (OutR.below HR3.out hbl)
 have HK4 := Lib.hid (show ∀ x m, r = .ok (x, m) → ∃ n, HasP (w3.alloc (.cells #[.int .i64 X2.op, .string X2.text, .int .u64 X2.s0, .int .u64 X2.s1, .int .u64 X2.s2, .int .u64 X2.s3, .slice ko X2.kids.length kc] 28)) (fun j => N + 1 ≤ j ∧ j < M) n ko X2.kids from fun x m e => by obtain ⟨n, h⟩ := HK3.out x m e; exact ⟨n, h.but (But.of_below (S := fun _ => False) hbl) (fun _ _ _ h => h)⟩)
 clear hbl HA3 HU3 HS3 HR3 HK3 HM3
 generalize w3.alloc _ = w4 at *
 obtain ⟨B0, hB0⟩ : ∃ q, w3.heap.size = q := ⟨_, rfl⟩
 rw [hB0] at HX4 HL3
 rw [hB0]
 clear hB0
 have H0 : ∃ (kk : Nat) (F : Option (Int × Int)) (q : Int), Rq w4 g lo lc L kk q F ∧ XT (fun j => N + 1 ≤ j ∧ j ≠ M) (F = none) w4 (.slice (some ⟨B0, 0, none⟩) [X2].length 1) [X2] ∧ LsQ L c nx RS [X2] kk F ∧ (F = none → q = op ∧ kk < L.length) ∧ b = F.isNone := by
  have hT : N + 1 ≤ B0 ∧ B0 ≠ M := by have := HL3.out; have := HGM.out; omega
  have hTR : ∀ j, (N + 1 ≤ j ∧ j < M) → (N + 1 ≤ j ∧ j ≠ M) ∧ j < B0 := fun j hj => by have := HL3.out; omega
  cases r with
  | error f =>
   obtain ⟨rfl, h1, kk, q, h2⟩ := HR4.out
   exact ⟨kk, some f, q, h2, XT.first (n := 0) HX4.out hT hTR (fun h => by cases h), ⟨h1, HRS.out.symm⟩, (fun h => by cases h), rfl⟩
  | ok p =>
   obtain ⟨x, m⟩ := p
   obtain ⟨rfl, h1, rfl, n, h2⟩ := HR4.out
   obtain ⟨b1, b2⟩ := HBR.out x m rfl
   obtain ⟨n', h3⟩ := HK4.out x m rfl
   exact ⟨m, none, op, h1, XT.first (n := n') HX4.out hT hTR (fun _ => h3), ⟨by show 1 ≤ m; omega, by omega, _, HRS.out, by omega⟩, (fun _ => ⟨rfl, b2⟩), rfl⟩
 obtain ⟨kk0, F0, q0, r1, r2, r3, r4, rfl⟩ := H0
 have H10 := Lib.hid r1
 have H20 := Lib.hid r2
 have H30 := Lib.hid r3
 have H40 := Lib.hid r4
 clear r1 r2 r3 r4 HX4 HR4 HK4 HBR HRS HL3
 go_loopw [5, 6] (fun v5 v6 wr => ∃ (K : List Ex) (ao : Option Addr) (cap kk : Nat) (q : Int) (F : Option (Int × Int)), v5 = .bool F.isNone ∧ v6 = .slice ao K.length cap ∧ Hid (Rq wr g lo lc L kk q F) ∧ Hid (XT (fun j => N + 1 ≤ j ∧ j ≠ M) (F = none) wr (.slice ao K.length cap) K) ∧ Hid (LsQ L c nx RS K kk F) ∧ Hid (F = none → q = op ∧ kk < L.length) ∧ Hid (1 ≤ K.length ∧ K.length ≤ 90002) ∧
   Hid (Own wr N 28 [.int .i64 0, .string ⟨#[]⟩, .int .u64 0, .int .u64 0, .int .u64 0, .int .u64 0, .slice none 0 0]) ∧ Hid (∃ (Y : Ex) (yo : Option Addr) (yc : Nat), Own wr M 28 [.int .i64 Y.op, .string Y.text, .int .u64 Y.s0, .int .u64 Y.s1, .int .u64 Y.s2, .int .u64 Y.s3, .slice yo Y.kids.length yc]) ∧ Hid (But (fun j => j = g) w wr) ∧ Hid (N + 1 ≤ wr.heap.size)) (fun _ v6 _ => L.length + 2 - sliceLen v6)
 case atStart => exact ⟨[X2], _, _, kk0, q0, F0, rfl, rfl, H10, H20, H30, H40, ⟨by show 1 ≤ 1; omega, by show 1 ≤ 90002; omega⟩, HA4, ⟨X2, ko, kc, HM4.out⟩, HU4, HS4⟩
 case round =>
  obtain ⟨K, ao, cap, kk, q, F, rfl, rfl, HD, HXS, HLQ, HQO, HKL, HA, HM, HU, HS⟩ := hrel
  clear H10 H20 H30 H40 HA4 HM4 HU4 HS4
  cases F with
  | some f =>
   have HFE := Lib.hid (show LsEnd RS K kk (some f) from HLQ.out)
   clear HLQ
   have HXD := Lib.hid (HXS.out.toS (D := N + 1) (fun j h => h.1))
   go_wp2_with fail
   refine (HSV.out 5 (N + 1) cap _ ao K (by have := HKL.out; omega) _ HXD.out).mono ?_
   rintro e w8 ⟨hb, ko8, kc8, rfl, hK8⟩
   have HA8 := Lib.hid (HA.out.under hb HA.out.lt)
   have HU8 := Lib.hid (HU.out.then_below hb)
   have HR8 := Lib.hid (show OutR (N + 1) g lo lc L op RES (oneX 5 K) ko8 false w8 from by rw [HSP.out]; exact OutR.ends (HD.out.below hb) (fun e => by cases e) HFE.out (fun e => hK8 (by first | trivial | exact e)) rfl)
   unfold exv
   generalize oneX 5 K = X8 at *
   clear hb hK8 HXD HXS HD HA HU HFE HS
   obtain ⟨z0, z1, z2, z3, z4, z5, z6, y0, y1, y2, y3, y4, y5, y6⟩ := HA8.out.seven2
   have zl := HA8.out.lt
   have HRR := Lib.hid (HR8.out)
   go_wp2
   clear z0 z1 z2 z3 z4 z5 z6 y0 y1 y2 y3 y4 y5 y6 zl
   rw [set7t_fold]
   obtain ⟨hU, hR⟩ := OutR.fin (N := N) HH.out (Nat.le_of_eq HNN.out) HU8.out HRR.out (.int .i64 X8.op) (.string X8.text) (.int .u64 X8.s0) (.int .u64 X8.s1) (.int .u64 X8.s2) (.int .u64 X8.s3) (.slice ko8 X8.kids.length kc8)
   have HF := HA8.out.put7 (u0 := .int .i64 X8.op) (u1 := .string X8.text) (u2 := .int .u64 X8.s0) (u3 := .int .u64 X8.s1) (u4 := .int .u64 X8.s2) (u5 := .int .u64 X8.s3) (u6 := .slice ko8 X8.kids.length kc8)
   generalize set7t w8 N _ _ _ _ _ _ _ = w99 at *
   obtain ⟨z0, z1, z2, z3, z4, z5, z6⟩ := HF.seven
   refine bodyPost_ret (by simp [results, Try.results26, go_sem, z0, z1, z2, z3, z4, z5, z6]; rfl) rfl ?_
   exact ⟨hU, X8, ko8, kc8, false, rfl, hR⟩
  | none =>
   obtain ⟨rfl, hkL⟩ := HQO.out rfl
   obtain ⟨f, hf, hff⟩ := HLQ.out.2.2
   have hkl : K.length ≤ kk := HLQ.out.1
   have HGO := Lib.hid (show RS = _ from by rw [← hf, lsL_go (by omega)])
   have HFF := Lib.hid hff
   clear hf hff HLQ
   obtain ⟨z, hz⟩ : ∃ z, c kk = z := ⟨_, rfl⟩
   have HCT := Lib.hid (HCO.out kk hkL)
   have HZL := Lib.hid (show z = true → kk + 1 < L.length from fun h => HCL.out kk (hz.trans h))
   have hcz : isS L kk (⟨#[47]⟩ : ByteArray).data.toList = z := by rw [← hz, HC.out]
   rw [hz] at HGO
   rw [hcz] at HCT
   clear hz hcz
   go_wp2_with fail
   refine (HCT.out _ HD.out).mono ?_
   rintro e wt ⟨rfl, hbt, hd2⟩
   have HD2 := Lib.hid hd2
   clear hd2
   have HXS2 := Lib.hid (HXS.out.keep hbt (fun j h e => by have := HG.out; omega))
   have HA2 := Lib.hid (HA.out.but hbt (by have := HG.out; omega))
   have HM2 := Lib.hid (show ∃ (Y : Ex) (yo : Option Addr) (yc : Nat), Own wt M 28 [.int .i64 Y.op, .string Y.text, .int .u64 Y.s0, .int .u64 Y.s1, .int .u64 Y.s2, .int .u64 Y.s3, .slice yo Y.kids.length yc] from by obtain ⟨Y, yo, yc, h⟩ := HM.out; exact ⟨Y, yo, yc, h.but hbt (by have := HGM.out; omega)⟩)
   have HU2 := Lib.hid (HU.out.trans hbt (fun _ _ h => h))
   have HS2 := Lib.hid (Nat.le_trans HS.out hbt.size)
   clear hbt  HCT HD HXS HA HM HU HS
   have HD := HD2
   have HXS := HXS2
   have HA := HA2
   have HM := HM2
   have HU := HU2
   have HS := HS2
   clear HD2 HXS2 HA2 HM2 HU2 HS2
   cases z
   case false =>
    have HFE := Lib.hid (show LsEnd RS K kk none from HGO.out.trans (if_neg (by decide)))
    clear HGO HZL
    have HD2 := Lib.hid (show Rq wt g lo lc L kk q none from HD.out)
    clear HD
    have HD := HD2
    clear HD2
    have HXD := Lib.hid (HXS.out.toS (D := N + 1) (fun j h => h.1))
    go_wp2_with fail
    refine (HSV.out 5 (N + 1) cap _ ao K (by have := HKL.out; omega) _ HXD.out).mono ?_
    rintro e w8 ⟨hb, ko8, kc8, rfl, hK8⟩
    have HA8 := Lib.hid (HA.out.under hb HA.out.lt)
    have HU8 := Lib.hid (HU.out.then_below hb)
    have HR8 := Lib.hid (show OutR (N + 1) g lo lc L q RES (oneX 5 K) ko8 true w8 from by rw [HSP.out]; exact OutR.ends (HD.out.below hb) (fun e => rfl) HFE.out (fun e => hK8 (by first | trivial | exact e)) rfl)
    unfold exv
    generalize oneX 5 K = X8 at *
    clear hb hK8 HXD HXS HD HA HU HFE HS
    obtain ⟨z0, z1, z2, z3, z4, z5, z6, y0, y1, y2, y3, y4, y5, y6⟩ := HA8.out.seven2
    have zl := HA8.out.lt
    have HRR := Lib.hid (HR8.out)
    go_wp2
    clear z0 z1 z2 z3 z4 z5 z6 y0 y1 y2 y3 y4 y5 y6 zl
    rw [set7t_fold]
    obtain ⟨hU, hR⟩ := OutR.fin (N := N) HH.out (Nat.le_of_eq HNN.out) HU8.out HRR.out (.int .i64 X8.op) (.string X8.text) (.int .u64 X8.s0) (.int .u64 X8.s1) (.int .u64 X8.s2) (.int .u64 X8.s3) (.slice ko8 X8.kids.length kc8)
    have HF := HA8.out.put7 (u0 := .int .i64 X8.op) (u1 := .string X8.text) (u2 := .int .u64 X8.s0) (u3 := .int .u64 X8.s1) (u4 := .int .u64 X8.s2) (u5 := .int .u64 X8.s3) (u6 := .slice ko8 X8.kids.length kc8)
    generalize set7t w8 N _ _ _ _ _ _ _ = w99 at *
    obtain ⟨z0, z1, z2, z3, z4, z5, z6⟩ := HF.seven
    refine bodyPost_ret (by simp [results, Try.results26, go_sem, z0, z1, z2, z3, z4, z5, z6]; rfl) rfl ?_
    exact ⟨hU, X8, ko8, kc8, true, rfl, hR⟩
   case true =>
    have hkl2 := HZL.out rfl
    have HGT := Lib.hid (HGO.out.trans (if_pos rfl))
    obtain ⟨k2, hk2e⟩ : ∃ k2, k2 = kk + 1 := ⟨_, rfl⟩
    have HD3 := Lib.hid (show Rq wt g lo lc L k2 q none from by rw [hk2e]; exact HD.out)
    have HNK := Lib.hid (show nx kk = sub k2 from by rw [HNX.out, hk2e])
    have hk2l : k2 < L.length := by omega
    have HKK := Lib.hid (show kk ≤ k2 by omega)
    clear hk2e HD HGO HZL
    rw [HNK.out] at HGT
    go_wp2_with fail
    refine (HPP.out k2 hk2l _ HD3.out).mono ?_
    rintro e w4 ⟨hbu, X2, ko, kc, b, rfl, hq⟩
    unfold exv
    have HBR := Lib.hid (HBD.out k2)
    obtain ⟨r, hr⟩ : ∃ r, sub k2 = r := ⟨_, rfl⟩
    rw [hr] at hq HBR HGT
    clear hr HNK
    obtain ⟨Y, yo, yc, hm⟩ := HM.out
    have hm4 := hm.but hbu (by have := HGM.out; omega)
    obtain ⟨m0, m1, m2, m3, m4, m5, m6, n0, n1, n2, n3, n4, n5, n6⟩ := hm4.seven2
    have ml := hm4.lt
    have HMT := Lib.hid hm.lt
    clear hm HM
    go_upto_region 5 with fail
    rw [set7t_fold]
    have HM5 := Lib.hid (hm4.put7 (u0 := .int .i64 X2.op) (u1 := .string X2.text) (u2 := .int .u64 X2.s0) (u3 := .int .u64 X2.s1) (u4 := .int .u64 X2.s2) (u5 := .int .u64 X2.s3) (u6 := .slice ko X2.kids.length kc))
    have HB5 := Lib.hid (But.set7 w4 M (.int .i64 X2.op) (.string X2.text) (.int .u64 X2.s0) (.int .u64 X2.s1) (.int .u64 X2.s2) (.int .u64 X2.s3) (.slice ko X2.kids.length kc))
    clear m0 m1 m2 m3 m4 m5 m6 n0 n1 n2 n3 n4 n5 n6 ml hm4
    have HBU := Lib.hid (show But (fun j => j = g ∨ j = M) wt _ from (hbu.mono (fun _ _ h => .inl h)).trans HB5.out (fun _ _ h => .inr h))
    have HA5 := Lib.hid ((HA.out.but hbu (by have := HG.out; omega)).but HB5.out (by have := HGM.out; omega))
    have HU5 := Lib.hid ((HU.out.trans hbu (fun _ _ h => h)).trans HB5.out (fun j hj h => by have := HGM.out; omega))
    have HR5 := Lib.hid (show OutR wt.heap.size g lo lc L q r X2 ko b _ from OutR.put7 HB5.out (by have := HGM.out; omega) HMT.out HH.out HU5.out hq)
    have HS5 := Lib.hid (Nat.le_trans hbu.size HB5.out.size)
    clear hbu hq HB5 HA HU HD3
    generalize set7t w4 M _ _ _ _ _ _ _ = w5 at *
    obtain ⟨m0, m1, m2, m3, m4, m5, m6⟩ := HM5.out.seven
    have ml := HM5.out.lt
    have HXT := HXS
    obtain ⟨R, S, Z, n, s1, s2, s3, s4, s5⟩ := HXS.out
    have HLZ := Lib.hid (show Z.length = K.length from by rw [← s3, List.length_map])
    have HS1 := Lib.hid s1
    have HS2 := Lib.hid s2
    have HS3 := Lib.hid s3
    have HS6 := Lib.hid s5
    have HB6 := Lib.hid (show Below w5.heap.size w5 (w5.alloc (.cells #[.int .i64 X2.op, .string X2.text, .int .u64 X2.s0, .int .u64 X2.s1, .int .u64 X2.s2, .int .u64 X2.s3, .slice ko X2.kids.length kc] 28)) from (Below.refl _ _).alloc (Nat.le_refl _) _)
    have HWN := Lib.hid ((s4.keep HBU.out (fun j hj hs e => by have := (s1 j (.inr hs)).1; have := HG.out; omega)).below HB6.out)
    have HA6 := Lib.hid (HA5.out.under HB6.out HA5.out.lt)
    have HM6 := Lib.hid (HM5.out.under HB6.out HM5.out.lt)
    have HU6 := Lib.hid (HU5.out.then_below HB6.out)
    have HR6 := Lib.hid (OutR.below HR5.out HB6.out)
    have HS7 := Lib.hid (show wt.heap.size ≤ w5.heap.size ∧ w5.heap.size < (w5.alloc (.cells #[.int .i64 X2.op, .string X2.text, .int .u64 X2.s0, .int .u64 X2.s1, .int .u64 X2.s2, .int .u64 X2.s3, .slice ko X2.kids.length kc] 28)).heap.size from ⟨HS5.out, by simp⟩)
    clear s1 s2 s3 s4 s5 HXS HA5 HM5 HU5 HS5
    obtain ⟨i0, hi, hz0, hz1, hz2⟩ := info_parts7 info_expr
    have HNEW := Lib.hid (fun W => fresh_news W 28 (xrow (X2, ko, kc)))
    have HCEL := Lib.hid (show ∀ u ∈ xrow (X2, ko, kc), u.oneCell' = true by intro u hu; simp [xrow] at hu; rcases hu with rfl | rfl | rfl | rfl | rfl | rfl | rfl <;> rfl)
    obtain ⟨nK, hnK⟩ : ∃ n, K.length = n := ⟨_, rfl⟩
    rw [hnK] at HWN HLZ hkl HKL
    rw [HLZ.out] at HWN
    rw [hnK]
    have HKN := Lib.hid hnK
    clear hnK
    go_wp2_with (first
     | (at_builtin; refine wpList_append_win _ rfl _ _ 26 rfl S 28 i0 _ 7 80 Try.underlying26 hi hz0 hz1 hz2 rfl (by decide) _ nK (Z.flatMap xrow) rfl HWN.out ⟨w5.heap.size, 0, none⟩ 1 1 (xrow (X2, ko, kc)) rfl rfl (HNEW.out w5) HCEL.out (by unfold maxLen; omega) (by omega) ?_))
    intro v' w7 hw7 hb7
    clear m0 m1 m2 m3 m4 m5 m6 ml
    have HW7 := Lib.hid hw7
    have HB7 := Lib.hid hb7
    have HSG := Lib.hid (show ∀ j, S j → N < j ∧ j ≠ M from fun j hj => by have := (HS1.out j (.inr hj)).1; omega)
    have HA7 := Lib.hid (HA6.out.but hb7 (fun h => by have := HSG.out _ h; omega))
    have HM7 := Lib.hid (HM6.out.but hb7 (fun h => (HSG.out _ h).2 rfl))
    have HU7 := Lib.hid (HU6.out.trans hb7 (fun j hj hs => by have := HSG.out _ hs; have := HNN.out; omega))
    have HZ7 := Lib.hid (show N + 1 ≤ w7.heap.size from by have := HS.out; have := HS7.out; have := hb7.size; omega)
    have H0 : ∃ (kk : Nat) (F : Option (Int × Int)) (p : Int), Rq w7 g lo lc L kk p F ∧ XT (fun j => N + 1 ≤ j ∧ j ≠ M) (F = none) w7 v' (K ++ [X2]) ∧ LsQ L c nx RS (K ++ [X2]) kk F ∧ (F = none → p = q ∧ kk < L.length) ∧ b = F.isNone := by
     rw [← HS3.out]
     have hw7' : Win (fun j => S j ∨ (w5.alloc (.cells #[.int .i64 X2.op, .string X2.text, .int .u64 X2.s0, .int .u64 X2.s1, .int .u64 X2.s2, .int .u64 X2.s3, .slice ko X2.kids.length kc] 28)).heap.size ≤ j) 28 7 w7 v' (Z.length + 1) (Z.flatMap xrow ++ xrow (X2, ko, kc)) := by rw [HLZ.out]; exact HW7.out.mono (fun b _ h => by simpa using h)
     have hgS : ¬ S g := fun h => by have := HSG.out _ h; have := HG.out; omega
     have hRd : ∀ m p F, Rq (w5.alloc (.cells #[.int .i64 X2.op, .string X2.text, .int .u64 X2.s0, .int .u64 X2.s1, .int .u64 X2.s2, .int .u64 X2.s3, .slice ko X2.kids.length kc] 28)) g lo lc L m p F → Rq w7 g lo lc L m p F := fun m p F h => ⟨h.1.but HB7.out hgS, HH.out.2.1.but HH.out.2.2 HU7.out, HH.out.2.2⟩
     have hTN : ∀ j, wt.heap.size ≤ j → N + 1 ≤ j ∧ j ≠ M := fun j hj => by have := HS.out; have := HMT.out; omega
     have hTU : ∀ j, (N + 1 ≤ j ∧ j ≠ M) → ¬ (j = g ∨ j = M) := fun j hj e => by have := HG.out; omega
     cases r with
     | error f =>
      obtain ⟨rfl, h1, k3, p, h2⟩ := HR6.out
      exact ⟨k3, some f, p, hRd _ _ _ h2, XT.snoc (G := some f = none) (n := 0) (n' := 0) hTN hTU HS1.out HS2.out (fun h => by cases h) HBU.out (fun h => by cases h) HB6.out hw7' HB7.out, ⟨h1, HGT.out⟩, (fun h => by cases h), rfl⟩
     | ok p =>
      obtain ⟨x, m⟩ := p
      obtain ⟨rfl, h1, rfl, n1, h2⟩ := HR6.out
      obtain ⟨b1, b2⟩ := HBR.out x m rfl
      obtain ⟨_, _, _, n', h3⟩ := HR5.out
      exact ⟨m, none, q, hRd _ _ _ h1, XT.snoc (G := (none : Option (Int × Int)) = none) (n' := n') hTN hTU HS1.out HS2.out (fun h => HS6.out (by first | trivial | exact rfl)) HBU.out (fun _ => h3) HB6.out hw7' HB7.out, ⟨by rw [HS3.out, List.length_append, HKN.out]; show nK + 1 ≤ m; have := HKK.out; omega, by omega, f - 1, by rw [HS3.out]; exact HGT.out.symm, by have := HKK.out; have := HFF.out; omega⟩, (fun _ => ⟨rfl, b2⟩), rfl⟩
    obtain ⟨k9, F9, p9, r1, r2, r3, r4, rfl⟩ := H0
    obtain ⟨ao', cap', hv⟩ := r2.form
    have hv2 : v' = .slice ao' (nK + 1) cap' := by rw [hv, List.length_append, HKN.out]; rfl
    have hln : (K ++ [X2]).length = nK + 1 := by rw [List.length_append, HKN.out]; rfl
    subst hv2
    have H19 := Lib.hid r1
    have H29 := Lib.hid (show XT (fun j => N + 1 ≤ j ∧ j ≠ M) (F9 = none) w7 (.slice ao' (K ++ [X2]).length cap') (K ++ [X2]) from by rw [hln]; exact r2)
    have H39 := Lib.hid r3
    have H49 := Lib.hid r4
    have HLN := Lib.hid hln
    have HKM := Lib.hid (show 1 ≤ (K ++ [X2]).length ∧ (K ++ [X2]).length ≤ 90002 from by rw [hln]; omega)
    clear r1 r2 r3 r4 hw7 hb7 hv hln
    go_wp2
    go_roundw
    case rel => exact ⟨K ++ [X2], ao', cap', k9, p9, F9, rfl, by rw [HLN.out], H19, H29, H39, H49, HKM, HA7, ⟨X2, ko, kc, HM7.out⟩, HU7, HZ7⟩
    case measure => have := HKN.out; simp [sliceLen]; omega
end Go.Proofs.Ytonknapfndaalaa

namespace Go.Proofs.Ytonknapfndaalaa
set_option linter.unusedVariables false
set_option maxRecDepth 1000000
open Go.RowKit Go.Sort
theorem one_prim (L : List Tok) (X : Nat → Rs) (op : Int) (k : Nat) : oneP L X op k = primO L X (decide (op = 12)) k := by
 unfold oneP primO refP parP
 by_cases h2 : (tkA L k).kd = 2
 ·
  rw [if_pos h2, if_pos h2]
 rw [if_neg h2, if_neg h2]
 by_cases h3 : (tkA L k).kd = 3
 ·
  rw [if_pos h3, if_pos h3]; rfl
 rw [if_neg h3, if_neg h3]
 by_cases h1 : (tkA L k).kd = 1
 ·
  have hn : ∀ s, ¬ isS L k s = true := fun s h => by rw [isS_kd4 h] at h1; cases h1
  rw [if_neg (hn _), if_neg (hn _), if_pos h1, if_pos h1]
 rw [if_neg h1, if_neg h1]
 show (if isS L k [46] = true then _ else if isS L k [40] = true then _ else _) = _
 by_cases h4 : isS L k [46] = true
 ·
  rw [if_pos h4, if_pos h4]
 rw [if_neg h4, if_neg h4]
 by_cases h5 : isS L k [40] = true
 ·
  rw [if_pos h5, if_pos h5]
  by_cases h6 : op = 12
  ·
   rw [if_pos h6, if_pos (decide_eq_true h6)]
  ·
   rw [if_neg h6, if_neg (by rw [decide_eq_false h6]; decide)]
   unfold parQ
   cases X (k + 1) with
   | error e => rfl
   | ok p => rfl
 ·
  rw [if_neg h5, if_neg h5]
theorem oft_suf (L : List Tok) (X : Nat → Rs) (op : Int) (k : Nat) : oftP L X op k = sufO L X (decide (op = 12)) k := by
 unfold oftP sufO oftT
 rw [one_prim]
 cases primO L X (decide (op = 12)) k with
 | error e => rfl
 | ok p => rfl
theorem part_pre (L : List Tok) (X : Nat → Rs) (op : Int) (k : Nat) : partP L X op k = preO L X (decide (op = 12)) k := by
 unfold partP preO seaP labP
 rw [oft_suf, oft_suf]
 have hw : ∀ (o : Int) (tx : ByteArray) (r : Rs), witT o tx r = mapX (fun e => .mk o tx 0 0 0 0 [e]) r := fun o tx r => by cases r <;> rfl
 show (if isS L k [38] = true then _ else if isS L k [33] = true then _ else if isS L k [126] = true then _ else _) = _
 by_cases h1 : isS L k [38] = true
 ·
  rw [if_pos h1, if_pos h1, hw]; rfl
 rw [if_neg h1, if_neg h1]
 by_cases h2 : isS L k [33] = true
 ·
  rw [if_pos h2, if_pos h2, hw]; rfl
 rw [if_neg h2, if_neg h2]
 by_cases h3 : isS L k [126] = true
 ·
  rw [if_pos h3, if_pos h3]
  cases sufO L X (decide (op = 12)) (k + 1) with
  | error e => rfl
  | ok p => rfl
 rw [if_neg h3, if_neg h3]
 show (if labO L k = true then _ else _) = if labO L k = true then _ else _
 by_cases h4 : labO L k = true
 ·
  rw [if_pos h4, if_pos h4]
  have hk : ((tkA L k).kd == 1) = true := by
   unfold labO at h4
   rw [Bool.and_eq_true, Bool.and_eq_true] at h4
   exact h4.1.1
  unfold nmeP
  rw [hk, Bool.true_and]
  by_cases h5 : wordB (tkA L k).tx = true
  ·
   rw [if_pos h5, if_pos h5]
   show witT 12 _ (oftP L X op (k + 2)) = _
   rw [hw, oft_suf]
  ·
   rw [if_neg h5, if_neg h5]; rfl
 ·
  rw [if_neg h4, if_neg h4]
/-- expr, when so many parentheses are open. -/
theorem rq_all (HW : WordOk) (g : Nat) (lo : Option Addr) (lc : Nat) (L : List Tok) (hn : (L.length : Int) ≤ 90000) (hNB : ∀ j, (tkA L j).kd ≠ 0 → j + 1 < L.length) (htx : ∀ t ∈ L, t.tx.size ≤ 1000000) :
  ∀ (d : Nat) (op : Int), op + d = 12 → 0 ≤ op → ∀ m, m < L.length → ∀ W, Rq W g lo lc L m op none → Calls Try.prog 26 #[.pointer (some ⟨g, 0, none⟩)] W fun e w' => OutP W g lo lc L op (exO L d m) e w' := by
 have HN : ∀ j, (tkA L j).kd ≠ 0 → j < L.length - 1 := fun j h => by have := hNB j h; omega
 have hst : ∀ (X : Nat → Rs) (op : Int), 0 ≤ op ∧ op ≤ 12 → (∀ j, Be (L.length - 1) j (X j)) → (op ≠ 12 → ∀ m, m < L.length → ∀ W, Rq W g lo lc L m (op + 1) none → Calls Try.prog 26 #[.pointer (some ⟨g, 0, none⟩)] W fun e w' => OutP W g lo lc L (op + 1) (X m) e w') →
   ∀ m, m < L.length → ∀ W, Rq W g lo lc L m op none → Calls Try.prog 26 #[.pointer (some ⟨g, 0, none⟩)] W fun e w' => OutP W g lo lc L op (chO L (seqO L (preO L X (decide (op = 12)))) m) e w' := fun X op hop hX HX m hm W hW => by
  have hp : ∀ j, Be (L.length - 1) j (preO L X (decide (op = 12)) j) := preO_be HN hX
  have hs : ∀ j, Be (L.length - 1) j (seqO L (preO L X (decide (op = 12))) j) := seqO_be HN hp
  have lt : ∀ {r : Rs} {j : Nat}, Be (L.length - 1) j r → ∀ x m, r = .ok (x, m) → j < m ∧ m < L.length := fun h x m e => by have := h x m e; omega
  refine rq_exp _ g lo lc L m op hn hNB hm (fun j hj W2 hW2 => ?_) (fun j => lt (hs j)) W hW
  refine rq_row _ g lo lc L j op hn hNB hj (fun i hi W3 hW3 => ?_) (fun j => lt (hp j)) W2 hW2
  rw [← part_pre]
  exact rq_part HW g lo lc L i op hop hn hNB hi htx X (fun j x m e => (lt (hX j) x m e).2) HX (fun j x m e => by
   rw [one_prim] at e
   exact (lt (primO_be HN hX j) x m e).2) W3 hW3
 intro d
 induction d with
 | zero =>
  intro op ho h0 m hm W hW
  obtain rfl : op = 12 := by omega
  exact hst (fun _ => .error (0, 0)) 12 (by omega) (fun j => Be.err _) (fun h => absurd rfl h) m hm W hW
 | succ d ih =>
  intro op ho h0 m hm W hW
  have h := hst (exO L d) op (by omega) (exO_be HN d) (fun _ m hm W hW => ih (op + 1) (by omega) (by omega) m hm W hW) m hm W hW
  rw [decide_eq_false (by omega)] at h
  exact h
end Go.Proofs.Ytonknapfndaalaa
