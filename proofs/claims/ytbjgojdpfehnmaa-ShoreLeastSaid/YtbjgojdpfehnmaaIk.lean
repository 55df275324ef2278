import Derived.Test.YtbjgojdpfehnmaaJnM
import Derived.Test.YtbjgojdpfehnmaaIa
import Derived.Test.YtbjgojdpfehnmaaJnL
namespace Go.Proofs.Ytbjgojdpfehnmaa
set_option linter.unusedVariables false
set_option maxHeartbeats 3200000
set_option maxRecDepth 1000000
open Go.RowKit Go.Sort
theorem parsed14_any (l : List ByteArray) (ao : Option Addr) (cap : Nat) (w : World) (hl : HasN w ao l) : Calls Try.prog 36 #[.slice ao l.length cap] w fun e w' => PrE w.heap.size (prsO l) e w' ∧ Below w.heap.size w w' := by
 have HL := aH hl
 have HPC := aH (fun (t : ByteArray) (ht : t.size ≤ 1000) W => parse9_any t (by omega) W)
 obtain ⟨n, hnn⟩ : ∃ n, l.length = n := ⟨_, rfl⟩
 have HN := aH hnn
 obtain ⟨big, hbig⟩ : ∃ b, decide (5 < l.length) = b := ⟨_, rfl⟩
 have HBIG := aH (show big = decide (5 < n) from by rw [← hbig, hnn])
 obtain ⟨RES, hres⟩ : ∃ r, prsO l = r := ⟨_, rfl⟩
 have HS0 := aH (show RES = (prsF big (l.drop 0)).map (([] : List Md) ++ ·) from by rw [← hres, List.drop_zero]; unfold prsO; rw [hbig]; cases prsF big l <;> rfl)
 have HB0 := aH (Below.refl w.heap.size w)
 have HM0 := aH (MB.start w w.heap.size)
 rw [hres, hnn]
 clear hl hnn hbig hres
 go_enter Try.func36, Try.ntmps36
 go_wp2_with fail
 go_loopw [4, 5] (fun v4 v5 wr => ∃ (k : Nat) (ML : List Md) (mo : Option Addr) (mc : Nat), v4 = .slice mo ML.length mc ∧ v5 = .int .i64 (k : Int) ∧ (k : Int) ≤ n ∧ aQ (RES = (prsF big (l.drop k)).map (ML ++ ·)) ∧ aQ (ML.length = k) ∧
   aQ (MB wr w.heap.size (.slice mo ML.length mc) ML) ∧ aQ (Below w.heap.size w wr)) (fun _ v5 _ => n - (intOf v5).toNat)
 case atStart => exact ⟨0, [], none, 0, rfl, rfl, by omega, HS0, aH rfl, HM0, HB0⟩
 case round =>
  obtain ⟨k, ML, mo, mc, rfl, rfl, hk, HS, HKL, HM, HB⟩ := hrel
  clear HS0 HM0 HB0
  obtain ⟨nm, hnm⟩ : ∃ z, ML.length = z := ⟨_, rfl⟩
  have HNM := aH hnm
  rw [hnm] at HM
  rw [hnm]
  clear hnm
  by_cases hlt : (k : Int) < n
  ·
   obtain ⟨t, ht⟩ : ∃ t, l[k]? = some t := ⟨_, aG (by have := HN.o; omega)⟩
   have HD := aH (show l.drop k = t :: l.drop (k + 1) from by
    obtain ⟨h1, h2⟩ := aS.1 ht
    rw [List.drop_eq_getElem_cons h1, h2])
   obtain ⟨b, off, hao, hb, c0⟩ := HL.o k t ht
   have hbw : b < wr.heap.size := aL hb HB.o.size
   have c0' := keepc c0 HB.o
   rw [hao]
   clear ht c0 hb
   by_cases h5 : (5 : Int) < n
   ·
    have g5 : decide ((5 : Int) < n) = true := aT h5
    have HE := aH (show RES = none from by rw [HS.o, HD.o]; exact prsF_none (by rw [HBIG.o, aT (by omega)]; rfl))
    clear hao
    go_wp2
    go_ret2
    exact ⟨by rw [HE.o]; rfl, HB.o⟩
   ·
    have g5 : decide ((5 : Int) < n) = false := aF h5
    have HBF := aH (show big = false from by rw [HBIG.o]; exact aF (by omega))
    by_cases hs : (1000 : Int) < t.size
    ·
     have gs : decide ((1000 : Int) < t.size) = true := aT hs
     have HE := aH (show RES = none from by rw [HS.o, HD.o]; exact prsF_none (by rw [HBF.o, aT (by omega)]; rfl))
     clear hao
     go_wp2
     go_ret2
     exact ⟨by rw [HE.o]; rfl, HB.o⟩
    ·
     have gs : decide ((1000 : Int) < t.size) = false := aF hs
     have HTS := aH (show (big || decide (1000 < t.size)) = false from by rw [HBF.o, aF (by omega)]; rfl)
     have HC := aH (HPC.o t (by omega) wr)
     have hw1 : IntKind.i64.wrap ((k : Int) + 1) = (k : Int) + 1 := wI
     obtain ⟨r, hr⟩ : ∃ r, modO t = r := ⟨_, rfl⟩
     have HR := aH hr
     rw [hr] at HC
     clear hao hr
     go_wp2_with fail
     refine HC.o.mono ?_
     rintro e w1 ⟨he, hb1⟩
     cases r
     case error f =>
      obtain ⟨rfl, hf⟩ := he
      have HE := aH (show RES = none from by rw [HS.o, HD.o]; exact prsF_err HR.o)
      have ef : (f.1 != 0) = true := bne_iff_ne.2 hf
      have HB1 := aH (((HB.o.trans (hb1.mono HB.o.size)).alloc (by have := HB.o.size; have := hb1.size; omega) (.cells #[.string ⟨#[]⟩, .slice none 0 0, .bool false, .int .i64 0, .string ⟨#[]⟩, .int .u64 0, .int .u64 0, .int .u64 0, .int .u64 0, .slice none 0 0, .slice none 0 0] 82)).alloc (by have := HB.o.size; have := hb1.size; simp; omega) (.cells #[.int .i64 f.1, .int .i64 f.2, .int .i64 0, .int .i64 0] 57))
      have HO1 := aH (Own.fresh (w1.alloc (.cells #[.string ⟨#[]⟩, .slice none 0 0, .bool false, .int .i64 0, .string ⟨#[]⟩, .int .u64 0, .int .u64 0, .int .u64 0, .int .u64 0, .slice none 0 0, .slice none 0 0] 82)) 57 [.int .i64 f.1, .int .i64 f.2, .int .i64 0, .int .i64 0])
      clear hb1 hf c0' hbw
      go_upto_region 8 with fail
      have HG1 := aH (show (w1.alloc (.cells #[.string ⟨#[]⟩, .slice none 0 0, .bool false, .int .i64 0, .string ⟨#[]⟩, .int .u64 0, .int .u64 0, .int .u64 0, .int .u64 0, .slice none 0 0, .slice none 0 0] 82)).heap.size = w1.heap.size + 1 from by simp)
      rw [HG1.o] at HO1
      generalize (w1.alloc (.cells #[.string ⟨#[]⟩, .slice none 0 0, .bool false, .int .i64 0, .string ⟨#[]⟩, .int .u64 0, .int .u64 0, .int .u64 0, .int .u64 0, .slice none 0 0, .slice none 0 0] 82)).alloc _ = w2 at *
      obtain ⟨z0, z1, z2, z3, -⟩ := HO1.o.four
      have zl := HO1.o.lt
      go_wp2
      go_ret2
      exact ⟨by rw [HE.o]; rfl, HB1.o⟩
     case ok m =>
      obtain ⟨io, ic, ko, kc, ro, rc, n1, rfl, qi, qr, q1, q2, q3⟩ := he
      have HSN := aH (show RES = (prsF big (l.drop (k + 1))).map ((ML ++ [m]) ++ ·) from by rw [HS.o, HD.o]; exact prsF_add _ _ _ _ HTS.o HR.o)
      have HMI := aH (show MIn w1 (fun b => wr.heap.size ≤ b ∧ b < w1.heap.size) n1 ⟨m, io, ic, ko, kc, ro, rc⟩ from ⟨q1.mono fun b hb hb2 => ⟨hb2, hb⟩, HasP.ofE q2, HasRuR.of q3, qi, qr⟩)
      have hbl2 : Below w1.heap.size w1 ((w1.alloc (.cells #[.string m.nm, .slice io m.im.length ic, .bool m.wet, .int .i64 m.wa.op, .string m.wa.text, .int .u64 m.wa.s0, .int .u64 m.wa.s1, .int .u64 m.wa.s2, .int .u64 m.wa.s3, .slice ko m.wa.kids.length kc, .slice ro m.ru.length rc] 82)).alloc (.cells #[.int .i64 0, .int .i64 0, .int .i64 0, .int .i64 0] 57)) := (bA _).alloc (by simp) _
      have HB2 := aH ((HB.o.trans (hb1.mono HB.o.size)).trans (hbl2.mono (by have := HB.o.size; have := hb1.size; omega)))
      have HX2 := aH ((Own.fresh w1 82 [.string m.nm, .slice io m.im.length ic, .bool m.wet, .int .i64 m.wa.op, .string m.wa.text, .int .u64 m.wa.s0, .int .u64 m.wa.s1, .int .u64 m.wa.s2, .int .u64 m.wa.s3, .slice ko m.wa.kids.length kc, .slice ro m.ru.length rc]).on_alloc (.cells #[.int .i64 0, .int .i64 0, .int .i64 0, .int .i64 0] 57))
      have HO2 := aH (Own.fresh (w1.alloc (.cells #[.string m.nm, .slice io m.im.length ic, .bool m.wet, .int .i64 m.wa.op, .string m.wa.text, .int .u64 m.wa.s0, .int .u64 m.wa.s1, .int .u64 m.wa.s2, .int .u64 m.wa.s3, .slice ko m.wa.kids.length kc, .slice ro m.ru.length rc] 82)) 57 [.int .i64 0, .int .i64 0, .int .i64 0, .int .i64 0])
      have HB1 := aH hb1
      have HBL := aH hbl2
      clear hbl2 hb1 q1 q2 q3 c0' hbw
      go_upto_region 8 with fail
      have HG1 := aH (show (w1.alloc (.cells #[.string m.nm, .slice io m.im.length ic, .bool m.wet, .int .i64 m.wa.op, .string m.wa.text, .int .u64 m.wa.s0, .int .u64 m.wa.s1, .int .u64 m.wa.s2, .int .u64 m.wa.s3, .slice ko m.wa.kids.length kc, .slice ro m.ru.length rc] 82)).heap.size = w1.heap.size + 1 from by simp)
      rw [HG1.o] at HO2
      generalize (w1.alloc (.cells #[.string m.nm, .slice io m.im.length ic, .bool m.wet, .int .i64 m.wa.op, .string m.wa.text, .int .u64 m.wa.s0, .int .u64 m.wa.s1, .int .u64 m.wa.s2, .int .u64 m.wa.s3, .slice ko m.wa.kids.length kc, .slice ro m.ru.length rc] 82)).alloc _ = w2 at *
      obtain ⟨y0, y1, y2, y3, -⟩ := HO2.o.four
      have yl := HO2.o.lt
      obtain ⟨z0, z1, z2, z3, z4, z5, z6, z7, z8, z9, zA⟩ := HX2.o.elev
      have zl := HX2.o.lt
      obtain ⟨S, R, Z, nz, s1, s2, s3, s4, s5⟩ := HM.o
      have HLZ := aH (show Z.length = nm from by rw [← HNM.o, ← s3, List.length_map])
      have HS1 := aH s1
      have HS2 := aH s2
      have HS3 := aH s3
      have HS5 := aH s5
      have HW := aH ((s4.below HB1.o).below HBL.o)
      rw [HLZ.o] at HW
      clear s1 s2 s3 s4 s5
      obtain ⟨i0, hi, hz0, hz1, hz2⟩ := info_parts7 info_mod
      have HNEW := aH (fun W => fresh_news W 82 (mzrow ⟨m, io, ic, ko, kc, ro, rc⟩))
      have HCEL := aH (show ∀ u ∈ mzrow ⟨m, io, ic, ko, kc, ro, rc⟩, u.oneCell' = true by intro u hu; simp [mzrow] at hu; rcases hu with rfl | rfl | rfl | rfl | rfl | rfl | rfl | rfl | rfl | rfl | rfl <;> rfl)
      have hnm5 : nm ≤ 5 := by have := HNM.o; have := HKL.o; omega
      go_wp2_with (first
       | (at_builtin; refine wpList_append_win _ rfl _ _ 52 rfl S 82 i0 _ 11 152 Try.underlying52 hi hz0 hz1 hz2 rfl (by decide) _ nm (Z.flatMap mzrow) rfl (HW.o.below (bA _)) ⟨w2.heap.size, 0, none⟩ 1 1 (mzrow ⟨m, io, ic, ko, kc, ro, rc⟩) rfl rfl (HNEW.o w2) HCEL.o (by unfold maxLen; omega) (by omega) ?_))
      intro v' w4 hw4 hb4
      have hblx : Below w2.heap.size w2 (w2.alloc (.cells #[.string m.nm, .slice io m.im.length ic, .bool m.wet, .int .i64 m.wa.op, .string m.wa.text, .int .u64 m.wa.s0, .int .u64 m.wa.s1, .int .u64 m.wa.s2, .int .u64 m.wa.s3, .slice ko m.wa.kids.length kc, .slice ro m.ru.length rc] 82)) := bA _
      have HMN := aH (show MB w4 w.heap.size v' (ML ++ [m]) from by
       rw [← HS3.o]
       exact MB.add (z := ⟨m, io, ic, ko, kc, ro, rc⟩) HB.o.size HS1.o HS2.o HS5.o HB1.o HMI.o (HBL.o.trans (hblx.mono HBL.o.size)) (by rw [HLZ.o]; exact hw4.mono (fun j _ h => by simpa using h)) hb4)
      have HB4 := aH ((HB2.o.trans (hblx.mono HB2.o.size)).trans (hb4.below (B := w.heap.size) (by have := HB2.o.size; have := hblx.size; omega) (fun j hs => (HS1.o j (.inr hs)).1)))
      obtain ⟨mo', mc', hv⟩ := HMN.o.form
      have HLN := aH (show (ML ++ [m]).length = nm + 1 from by rw [List.length_append, HNM.o]; rfl)
      rw [HLN.o] at hv
      subst hv
      clear hw4 hb4 hblx y0 y1 y2 y3 yl z0 z1 z2 z3 z4 z5 z6 z7 z8 z9 zA zl
      go_wp2
      go_roundw
      case rel => exact ⟨k + 1, ML ++ [m], mo', mc', by rw [HLN.o], by go_num, by omega, HSN, aH (by rw [HLN.o]; have := HNM.o; have := HKL.o; omega), by rw [HLN.o]; exact HMN, HB4⟩
      case measure => simp [intOf]; omega
  ·
   have HE := aH (show RES = some ML from by rw [HS.o, List.drop_eq_nil_of_le (by have := HN.o; omega)]; unfold prsF; simp)
   have hlt' : decide ((k : Int) < n) = false := aF hlt
   go_wp2
   go_ret2
   refine ⟨?_, HB.o⟩
   rw [HE.o]
   exact ⟨mo, mc, (by rw [HNM.o]; rfl), HM.o.has⟩
theorem joined14_any (l : List ByteArray) (ao : Option Addr) (cap : Nat) (s : ByteArray) (w : World) (hl : HasN w ao l) : Calls Try.prog 18 #[.slice ao l.length cap, .string s] w fun e w' => GjE (jndO l s) e w' ∧ Below w.heap.size w w' := by
 have HB1 := aH (show Below w.heap.size w (w.alloc (.cells #[.slice none 0 0, .slice none 0 0, .slice none 0 0, .slice none 0 0, .int .i64 0] 27)) from bA _)
 have HG1 := aH (Own.fresh w 27 [.slice none 0 0, .slice none 0 0, .slice none 0 0, .slice none 0 0, .int .i64 0])
 have HPA := aH (parsed14_any l ao cap (w.alloc (.cells #[.slice none 0 0, .slice none 0 0, .slice none 0 0, .slice none 0 0, .int .i64 0] 27)) (hl.below HB1.o))
 obtain ⟨PO, hPO⟩ : ∃ r, prsO l = r := ⟨_, rfl⟩
 have HPO := aH hPO
 have HJD := aH (jndO_q l s)
 rw [hPO] at HPA HJD
 obtain ⟨RES, hRES⟩ : ∃ r, jndO l s = r := ⟨_, rfl⟩
 rw [hRES] at HJD
 rw [hRES]
 obtain ⟨nl, hnl⟩ : ∃ n, l.length = n := ⟨_, rfl⟩
 rw [hnl] at HPA
 rw [hnl]
 obtain ⟨A, hA⟩ : ∃ A, w.heap.size = A := ⟨_, rfl⟩
 have HA := aH hA
 rw [hA] at HG1
 clear hl hPO hRES hnl
 go_enter Try.func18, Try.ntmps18
 go_upto_region 1 with fail
 generalize w.alloc (.cells #[.slice none 0 0, .slice none 0 0, .slice none 0 0, .slice none 0 0, .int .i64 0] 27) = w1 at *
 try rw [hA]
 clear hA
 go_wp2_with fail
 refine HPA.o.mono ?_
 rintro e w2 ⟨hP, hb2⟩
 have HB2 := aH (HB1.o.trans (hb2.mono HB1.o.size))
 have HG2 := aH (HG1.o.under hb2 HG1.o.lt)
 clear hb2 HPA HB1 HG1
 cases PO with
 | none =>
  have hP' : e = .returned (.tuple #[.slice none 0 0, .bool false]) := hP
  subst hP'
  have HE := aH (show RES = none from HJD.o)
  obtain ⟨x0, x1, x2, x3, x4⟩ : w2.cell? ⟨A, 0, none⟩ = some (.slice none 0 0) ∧ w2.cell? ⟨A, 1, none⟩ = some (.slice none 0 0) ∧ w2.cell? ⟨A, 2, none⟩ = some (.slice none 0 0) ∧ w2.cell? ⟨A, 3, none⟩ = some (.slice none 0 0) ∧ w2.cell? ⟨A, 4, none⟩ = some (.int .i64 0) := ⟨HG2.o.cell 0, HG2.o.cell 1, HG2.o.cell 2, HG2.o.cell 3, HG2.o.cell 4⟩
  obtain ⟨t0, t1, t2, t3, t4⟩ : w2.frozen? ⟨A, 0, none⟩ = false ∧ w2.frozen? ⟨A, 1, none⟩ = false ∧ w2.frozen? ⟨A, 2, none⟩ = false ∧ w2.frozen? ⟨A, 3, none⟩ = false ∧ w2.frozen? ⟨A, 4, none⟩ = false := ⟨HG2.o.thaw 0, HG2.o.thaw 1, HG2.o.thaw 2, HG2.o.thaw 3, HG2.o.thaw 4⟩
  have xl := HG2.o.lt
  go_wp2
  rw [set5_fold]
  have hbz := But.set5 w2 A (.slice none 0 0) (.slice none 0 0) (.slice none 0 0) (.slice none 0 0) (.int .i64 0)
  have HBY := aH (HB2.o.trans (hbz.below (B := w.heap.size) (by have := HB2.o.size; omega) (fun j h => by have := HA.o; omega)))
  have HGZ := aH (HG2.o.put5 (.slice none 0 0) (.slice none 0 0) (.slice none 0 0) (.slice none 0 0) (.int .i64 0))
  clear x0 x1 x2 x3 x4 t0 t1 t2 t3 t4 xl hbz HG2
  generalize set5 w2 A _ _ _ _ _ = w99 at *
  have hgz := HGZ.o
  obtain ⟨x0, x1, x2, x3, x4⟩ : w99.cell? ⟨A, 0, none⟩ = some (.slice none 0 0) ∧ w99.cell? ⟨A, 1, none⟩ = some (.slice none 0 0) ∧ w99.cell? ⟨A, 2, none⟩ = some (.slice none 0 0) ∧ w99.cell? ⟨A, 3, none⟩ = some (.slice none 0 0) ∧ w99.cell? ⟨A, 4, none⟩ = some (.int .i64 0) := ⟨hgz.cell 0, hgz.cell 1, hgz.cell 2, hgz.cell 3, hgz.cell 4⟩
  refine bodyPost_ret (by simp [results, Try.results18, go_sem, x0, x1, x2, x3, x4]; rfl) rfl ?_
  rw [HE.o]
  exact ⟨rfl, HBY.o⟩
 | some ML =>
  obtain ⟨mo, mc, he, hM⟩ : ∃ mo mc, e = .returned (.tuple #[.slice mo ML.length mc, .bool true]) ∧ HasMs w2 w1.heap.size mo ML := hP
  subst he
  by_cases hs : (50 : Int) < (s.size : Int)
  ·
   have hs1 : decide ((50 : Int) < (s.size : Int)) = true := aT hs
   have hs2 : decide (50 < s.size) = true := aT (by omega)
   have HE := aH (show RES = none from HJD.o.trans (if_pos (by omega)))
   clear hM
   obtain ⟨x0, x1, x2, x3, x4⟩ : w2.cell? ⟨A, 0, none⟩ = some (.slice none 0 0) ∧ w2.cell? ⟨A, 1, none⟩ = some (.slice none 0 0) ∧ w2.cell? ⟨A, 2, none⟩ = some (.slice none 0 0) ∧ w2.cell? ⟨A, 3, none⟩ = some (.slice none 0 0) ∧ w2.cell? ⟨A, 4, none⟩ = some (.int .i64 0) := ⟨HG2.o.cell 0, HG2.o.cell 1, HG2.o.cell 2, HG2.o.cell 3, HG2.o.cell 4⟩
   obtain ⟨t0, t1, t2, t3, t4⟩ : w2.frozen? ⟨A, 0, none⟩ = false ∧ w2.frozen? ⟨A, 1, none⟩ = false ∧ w2.frozen? ⟨A, 2, none⟩ = false ∧ w2.frozen? ⟨A, 3, none⟩ = false ∧ w2.frozen? ⟨A, 4, none⟩ = false := ⟨HG2.o.thaw 0, HG2.o.thaw 1, HG2.o.thaw 2, HG2.o.thaw 3, HG2.o.thaw 4⟩
   have xl := HG2.o.lt
   go_wp2
   rw [set5_fold]
   have hbz := But.set5 w2 A (.slice none 0 0) (.slice none 0 0) (.slice none 0 0) (.slice none 0 0) (.int .i64 0)
   have HBY := aH (HB2.o.trans (hbz.below (B := w.heap.size) (by have := HB2.o.size; omega) (fun j h => by have := HA.o; omega)))
   have HGZ := aH (HG2.o.put5 (.slice none 0 0) (.slice none 0 0) (.slice none 0 0) (.slice none 0 0) (.int .i64 0))
   clear x0 x1 x2 x3 x4 t0 t1 t2 t3 t4 xl hbz HG2
   generalize set5 w2 A _ _ _ _ _ = w99 at *
   have hgz := HGZ.o
   obtain ⟨x0, x1, x2, x3, x4⟩ : w99.cell? ⟨A, 0, none⟩ = some (.slice none 0 0) ∧ w99.cell? ⟨A, 1, none⟩ = some (.slice none 0 0) ∧ w99.cell? ⟨A, 2, none⟩ = some (.slice none 0 0) ∧ w99.cell? ⟨A, 3, none⟩ = some (.slice none 0 0) ∧ w99.cell? ⟨A, 4, none⟩ = some (.int .i64 0) := ⟨hgz.cell 0, hgz.cell 1, hgz.cell 2, hgz.cell 3, hgz.cell 4⟩
   refine bodyPost_ret (by simp [results, Try.results18, go_sem, x0, x1, x2, x3, x4]; rfl) rfl ?_
   rw [HE.o]
   exact ⟨rfl, HBY.o⟩
  ·
   have hs1 : decide ((50 : Int) < (s.size : Int)) = false := aF hs
   have hs2 : decide (50 < s.size) = false := aF (by omega)
   have HOK := prsO_okm HPO.o
   have HJC := aH (join_any ML mo mc w1.heap.size HOK.1 HOK.2 (prsO_few HPO.o).1 s (by omega) w2 hM)
   have HJ2 := aH (show RES = exO2 (joinO ML s) from HJD.o.trans (if_neg (by omega)))
   clear HOK hM
   go_wp2_with fail
   refine HJC.o.mono ?_
   rintro e w3 ⟨hJ, hb3⟩
   have HB3 := aH (HB2.o.trans (hb3.mono HB2.o.size))
   have HG3 := aH (HG2.o.under hb3 HG2.o.lt)
   have HLT := aH HG2.o.lt
   clear hb3 HJC HB2 HG2
   obtain ⟨jo, hjo⟩ : ∃ r, joinO ML s = r := ⟨_, rfl⟩
   rw [hjo] at hJ HJ2
   clear hjo
   cases jo with
   | error f =>
    obtain ⟨he, hf⟩ := hJ
    subst he
    have HE := aH (show RES = none from HJ2.o)
    have hfl : (f.1 == 0) = false := aN.2 hf
    have hbl3 : Below w3.heap.size w3 ((w3.alloc (.cells #[.slice none 0 0, .slice none 0 0, .slice none 0 0, .slice none 0 0, .int .i64 0] 27)).alloc (.cells #[.int .i64 f.1, .int .i64 0, .int .i64 f.2.1, .int .i64 f.2.2] 57)) := (bA _).alloc (by simp) _
    have HB4 := aH (HB3.o.trans (hbl3.mono HB3.o.size))
    have HG4 := aH (HG3.o.under hbl3 HG3.o.lt)
    have HX4 := aH ((Own.fresh w3 27 [.slice none 0 0, .slice none 0 0, .slice none 0 0, .slice none 0 0, .int .i64 0]).on_alloc (.cells #[.int .i64 f.1, .int .i64 0, .int .i64 f.2.1, .int .i64 f.2.2] 57))
    have HF4 := aH (Own.fresh (w3.alloc (.cells #[.slice none 0 0, .slice none 0 0, .slice none 0 0, .slice none 0 0, .int .i64 0] 27)) 57 [.int .i64 f.1, .int .i64 0, .int .i64 f.2.1, .int .i64 f.2.2])
    have HNF := aH hf
    clear hf
    clear hbl3
    go_upto_region 5 with fail
    have HS4 := aH (show (w3.alloc (.cells #[.slice none 0 0, .slice none 0 0, .slice none 0 0, .slice none 0 0, .int .i64 0] 27)).heap.size = w3.heap.size + 1 from by simp)
    rw [HS4.o] at HF4
    generalize (w3.alloc (.cells #[.slice none 0 0, .slice none 0 0, .slice none 0 0, .slice none 0 0, .int .i64 0] 27)).alloc _ = w4 at *
    obtain ⟨x0, x1, x2, x3, x4⟩ : w4.cell? ⟨A, 0, none⟩ = some (.slice none 0 0) ∧ w4.cell? ⟨A, 1, none⟩ = some (.slice none 0 0) ∧ w4.cell? ⟨A, 2, none⟩ = some (.slice none 0 0) ∧ w4.cell? ⟨A, 3, none⟩ = some (.slice none 0 0) ∧ w4.cell? ⟨A, 4, none⟩ = some (.int .i64 0) := ⟨HG4.o.cell 0, HG4.o.cell 1, HG4.o.cell 2, HG4.o.cell 3, HG4.o.cell 4⟩
    obtain ⟨t0, t1, t2, t3, t4⟩ : w4.frozen? ⟨A, 0, none⟩ = false ∧ w4.frozen? ⟨A, 1, none⟩ = false ∧ w4.frozen? ⟨A, 2, none⟩ = false ∧ w4.frozen? ⟨A, 3, none⟩ = false ∧ w4.frozen? ⟨A, 4, none⟩ = false := ⟨HG4.o.thaw 0, HG4.o.thaw 1, HG4.o.thaw 2, HG4.o.thaw 3, HG4.o.thaw 4⟩
    have xl := HG4.o.lt
    obtain ⟨q0, q1, q2, q3, q4⟩ : w4.cell? ⟨w3.heap.size, 0, none⟩ = some (.slice none 0 0) ∧ w4.cell? ⟨w3.heap.size, 1, none⟩ = some (.slice none 0 0) ∧ w4.cell? ⟨w3.heap.size, 2, none⟩ = some (.slice none 0 0) ∧ w4.cell? ⟨w3.heap.size, 3, none⟩ = some (.slice none 0 0) ∧ w4.cell? ⟨w3.heap.size, 4, none⟩ = some (.int .i64 0) := ⟨HX4.o.cell 0, HX4.o.cell 1, HX4.o.cell 2, HX4.o.cell 3, HX4.o.cell 4⟩
    have ql := HX4.o.lt
    obtain ⟨y0, y1, y2, y3, u0, u1, u2, u3⟩ := HF4.o.four
    have yl := HF4.o.lt
    have ne1 : ¬ A = w3.heap.size := by have := HG3.o.lt; omega
    have ne2 : ¬ w3.heap.size = A := fun e => ne1 e.symm
    have ne3 : ¬ A = w3.heap.size + 1 := by have := HG3.o.lt; omega
    have ne4 : ¬ w3.heap.size + 1 = A := fun e => ne3 e.symm
    go_region
    rw [set5_fold]
    have hbz := But.set5 w4 A (.slice none 0 0) (.slice none 0 0) (.slice none 0 0) (.slice none 0 0) (.int .i64 0)
    have HBY := aH (HB4.o.trans (hbz.drew.below (B := w.heap.size) (by have := HB4.o.size; omega) (fun j h => by have := HA.o; omega)))
    have HGZ := aH ((HG4.o.put5 (.slice none 0 0) (.slice none 0 0) (.slice none 0 0) (.slice none 0 0) (.int .i64 0)).on_drew)
    clear x0 x1 x2 x3 x4 t0 t1 t2 t3 t4 xl q0 q1 q2 q3 q4 ql y0 y1 y2 y3 u0 u1 u2 u3 yl hbz HG4 HX4 HF4
    generalize World.drew (set5 w4 A _ _ _ _ _) = w99 at *
    have hgz := HGZ.o
    obtain ⟨x0, x1, x2, x3, x4⟩ : w99.cell? ⟨A, 0, none⟩ = some (.slice none 0 0) ∧ w99.cell? ⟨A, 1, none⟩ = some (.slice none 0 0) ∧ w99.cell? ⟨A, 2, none⟩ = some (.slice none 0 0) ∧ w99.cell? ⟨A, 3, none⟩ = some (.slice none 0 0) ∧ w99.cell? ⟨A, 4, none⟩ = some (.int .i64 0) := ⟨hgz.cell 0, hgz.cell 1, hgz.cell 2, hgz.cell 3, hgz.cell 4⟩
    go_wp2
    refine bodyPost_ret (by simp [results, Try.results18, go_sem, x0, x1, x2, x3, x4]; rfl) rfl ?_
    rw [HE.o]
    exact ⟨rfl, HBY.o⟩
   | ok gr =>
    obtain ⟨a, he, hg⟩ := hJ
    subst he
    unfold grv
    have HE := aH (show RES = some gr from HJ2.o)
    have HGg := aH hg
    clear hg
    have hbl3 : Below w3.heap.size w3 ((w3.alloc (.cells #[.slice a.mo gr.ms.length a.mc, .slice a.no gr.ns.length a.nc, .slice a.ho gr.hs.length a.hc, .slice a.wo gr.ws.length a.wc, .int .i64 gr.st] 27)).alloc (.cells #[.int .i64 0, .int .i64 0, .int .i64 0, .int .i64 0] 57)) := (bA _).alloc (by simp) _
    have HB4 := aH (HB3.o.trans (hbl3.mono HB3.o.size))
    have HG4 := aH (HG3.o.under hbl3 HG3.o.lt)
    have HX4 := aH ((Own.fresh w3 27 [.slice a.mo gr.ms.length a.mc, .slice a.no gr.ns.length a.nc, .slice a.ho gr.hs.length a.hc, .slice a.wo gr.ws.length a.wc, .int .i64 gr.st]).on_alloc (.cells #[.int .i64 0, .int .i64 0, .int .i64 0, .int .i64 0] 57))
    have HF4 := aH (Own.fresh (w3.alloc (.cells #[.slice a.mo gr.ms.length a.mc, .slice a.no gr.ns.length a.nc, .slice a.ho gr.hs.length a.hc, .slice a.wo gr.ws.length a.wc, .int .i64 gr.st] 27)) 57 [.int .i64 0, .int .i64 0, .int .i64 0, .int .i64 0])
    have HG5 := aH (HGg.o.below hbl3)
    clear hbl3
    go_upto_region 5 with fail
    have HS4 := aH (show (w3.alloc (.cells #[.slice a.mo gr.ms.length a.mc, .slice a.no gr.ns.length a.nc, .slice a.ho gr.hs.length a.hc, .slice a.wo gr.ws.length a.wc, .int .i64 gr.st] 27)).heap.size = w3.heap.size + 1 from by simp)
    rw [HS4.o] at HF4
    generalize (w3.alloc (.cells #[.slice a.mo gr.ms.length a.mc, .slice a.no gr.ns.length a.nc, .slice a.ho gr.hs.length a.hc, .slice a.wo gr.ws.length a.wc, .int .i64 gr.st] 27)).alloc _ = w4 at *
    obtain ⟨x0, x1, x2, x3, x4⟩ : w4.cell? ⟨A, 0, none⟩ = some (.slice none 0 0) ∧ w4.cell? ⟨A, 1, none⟩ = some (.slice none 0 0) ∧ w4.cell? ⟨A, 2, none⟩ = some (.slice none 0 0) ∧ w4.cell? ⟨A, 3, none⟩ = some (.slice none 0 0) ∧ w4.cell? ⟨A, 4, none⟩ = some (.int .i64 0) := ⟨HG4.o.cell 0, HG4.o.cell 1, HG4.o.cell 2, HG4.o.cell 3, HG4.o.cell 4⟩
    obtain ⟨t0, t1, t2, t3, t4⟩ : w4.frozen? ⟨A, 0, none⟩ = false ∧ w4.frozen? ⟨A, 1, none⟩ = false ∧ w4.frozen? ⟨A, 2, none⟩ = false ∧ w4.frozen? ⟨A, 3, none⟩ = false ∧ w4.frozen? ⟨A, 4, none⟩ = false := ⟨HG4.o.thaw 0, HG4.o.thaw 1, HG4.o.thaw 2, HG4.o.thaw 3, HG4.o.thaw 4⟩
    have xl := HG4.o.lt
    obtain ⟨q0, q1, q2, q3, q4⟩ : w4.cell? ⟨w3.heap.size, 0, none⟩ = some (.slice a.mo gr.ms.length a.mc) ∧ w4.cell? ⟨w3.heap.size, 1, none⟩ = some (.slice a.no gr.ns.length a.nc) ∧ w4.cell? ⟨w3.heap.size, 2, none⟩ = some (.slice a.ho gr.hs.length a.hc) ∧ w4.cell? ⟨w3.heap.size, 3, none⟩ = some (.slice a.wo gr.ws.length a.wc) ∧ w4.cell? ⟨w3.heap.size, 4, none⟩ = some (.int .i64 gr.st) := ⟨HX4.o.cell 0, HX4.o.cell 1, HX4.o.cell 2, HX4.o.cell 3, HX4.o.cell 4⟩
    have ql := HX4.o.lt
    obtain ⟨y0, y1, y2, y3, u0, u1, u2, u3⟩ := HF4.o.four
    have yl := HF4.o.lt
    have ne1 : ¬ A = w3.heap.size := by have := HG3.o.lt; omega
    have ne2 : ¬ w3.heap.size = A := fun e => ne1 e.symm
    have ne3 : ¬ A = w3.heap.size + 1 := by have := HG3.o.lt; omega
    have ne4 : ¬ w3.heap.size + 1 = A := fun e => ne3 e.symm
    go_region
    rw [set5_fold]
    have hbz := But.set5 w4 A (.slice a.mo gr.ms.length a.mc) (.slice a.no gr.ns.length a.nc) (.slice a.ho gr.hs.length a.hc) (.slice a.wo gr.ws.length a.wc) (.int .i64 gr.st)
    have HBY := aH (HB4.o.trans (hbz.drew.below (B := w.heap.size) (by have := HB4.o.size; omega) (fun j h => by have := HA.o; omega)))
    have HGZ := aH ((HG4.o.put5 (.slice a.mo gr.ms.length a.mc) (.slice a.no gr.ns.length a.nc) (.slice a.ho gr.hs.length a.hc) (.slice a.wo gr.ws.length a.wc) (.int .i64 gr.st)).on_drew)
    have HGF := aH ((HG5.o.but hbz.drew (fun j _ hj h => by have := HLT.o; have h : j = A := h; omega)).mono (T := fun _ => True) (fun _ _ _ => trivial))
    clear x0 x1 x2 x3 x4 t0 t1 t2 t3 t4 xl q0 q1 q2 q3 q4 ql y0 y1 y2 y3 u0 u1 u2 u3 yl hbz HG4 HX4 HF4
    generalize World.drew (set5 w4 A _ _ _ _ _) = w99 at *
    have hgz := HGZ.o
    obtain ⟨x0, x1, x2, x3, x4⟩ : w99.cell? ⟨A, 0, none⟩ = some (.slice a.mo gr.ms.length a.mc) ∧ w99.cell? ⟨A, 1, none⟩ = some (.slice a.no gr.ns.length a.nc) ∧ w99.cell? ⟨A, 2, none⟩ = some (.slice a.ho gr.hs.length a.hc) ∧ w99.cell? ⟨A, 3, none⟩ = some (.slice a.wo gr.ws.length a.wc) ∧ w99.cell? ⟨A, 4, none⟩ = some (.int .i64 gr.st) := ⟨hgz.cell 0, hgz.cell 1, hgz.cell 2, hgz.cell 3, hgz.cell 4⟩
    go_wp2
    refine bodyPost_ret (by simp [results, Try.results18, go_sem, x0, x1, x2, x3, x4]; rfl) rfl ?_
    rw [HE.o]
    exact ⟨⟨a, rfl, HGF.o⟩, HBY.o⟩
end Go.Proofs.Ytbjgojdpfehnmaa
