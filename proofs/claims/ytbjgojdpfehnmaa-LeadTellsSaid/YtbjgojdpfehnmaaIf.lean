/- The modules of texts, walked (layer 13's own function). The grammar of texts, walked (layer 13's own function). -/
import Derived.Test.YtbjgojdpfehnmaaJnM
import Derived.Test.YtbjgojdpfehnmaaIa
import Derived.Test.YtbjgojdpfehnmaaJnL
namespace Go.Proofs.Ytbjgojdpfehnmaa
set_option linter.unusedVariables false
open Go.RowKit Go.Sort
set_option maxRecDepth 1000000 in
set_option maxHeartbeats 3200000 in
theorem parsed13_any (l : List ByteArray) (ao : Option Addr) (cap : Nat) (w : World) (hl : HasN w ao l) : Calls Try.prog 28 #[.slice ao l.length cap] w fun e w' => PrE w.heap.size (prsO l) e w' ∧ Below w.heap.size w w' := by
 have HL := Lib.hid hl
 have HPC := Lib.hid (fun (t : ByteArray) (ht : t.size ≤ 1000) W => parse9_any t (by omega) W)
 obtain ⟨n, hnn⟩ : ∃ n, l.length = n := ⟨_, rfl⟩
 have HN := Lib.hid hnn
 obtain ⟨big, hbig⟩ : ∃ b, decide (5 < l.length) = b := ⟨_, rfl⟩
 have HBIG := Lib.hid (show big = decide (5 < n) from by rw [← hbig, hnn])
 obtain ⟨RES, hres⟩ : ∃ r, prsO l = r := ⟨_, rfl⟩
 have HS0 := Lib.hid (show RES = (prsF big (l.drop 0)).map (([] : List Md) ++ ·) from by rw [← hres, List.drop_zero]; unfold prsO; rw [hbig]; cases prsF big l <;> rfl)
 have HB0 := Lib.hid (Below.refl w.heap.size w)
 have HM0 := Lib.hid (MB.start w w.heap.size)
 rw [hres, hnn]
 clear hl hnn hbig hres
 go_enter Try.func28, Try.ntmps28
 go_wp2_with fail
 go_loopw [4, 5] (fun v4 v5 wr => ∃ (k : Nat) (ML : List Md) (mo : Option Addr) (mc : Nat), v4 = .slice mo ML.length mc ∧ v5 = .int .i64 (k : Int) ∧ (k : Int) ≤ n ∧ Hid (RES = (prsF big (l.drop k)).map (ML ++ ·)) ∧ Hid (ML.length = k) ∧
   Hid (MB wr w.heap.size (.slice mo ML.length mc) ML) ∧ Hid (Below w.heap.size w wr)) (fun _ v5 _ => n - (intOf v5).toNat)
 case atStart => exact ⟨0, [], none, 0, rfl, rfl, by omega, HS0, Lib.hid rfl, HM0, HB0⟩
 case round =>
  obtain ⟨k, ML, mo, mc, rfl, rfl, hk, HS, HKL, HM, HB⟩ := hrel
  clear HS0 HM0 HB0
  obtain ⟨nm, hnm⟩ : ∃ z, ML.length = z := ⟨_, rfl⟩
  have HNM := Lib.hid hnm
  rw [hnm] at HM
  rw [hnm]
  clear hnm
  by_cases hlt : (k : Int) < n
  ·
   obtain ⟨t, ht⟩ : ∃ t, l[k]? = some t := ⟨_, List.getElem?_eq_getElem (by have := HN.out; omega)⟩
   have HD := Lib.hid (show l.drop k = t :: l.drop (k + 1) from by
    obtain ⟨h1, h2⟩ := List.getElem?_eq_some_iff.1 ht
    rw [List.drop_eq_getElem_cons h1, h2])
   obtain ⟨b, off, hao, hb, c0⟩ := HL.out k t ht
   have hbw : b < wr.heap.size := Nat.lt_of_lt_of_le hb HB.out.size
   have c0' := keepc c0 HB.out
   rw [hao]
   clear ht c0 hb
   by_cases h5 : (5 : Int) < n
   ·
    have g5 : decide ((5 : Int) < n) = true := decide_eq_true h5
    have HE := Lib.hid (show RES = none from by rw [HS.out, HD.out]; exact prsF_none (by rw [HBIG.out, decide_eq_true (by omega)]; rfl))
    clear hao
    go_wp2
    go_ret2
    exact ⟨by rw [HE.out]; rfl, HB.out⟩
   ·
    have g5 : decide ((5 : Int) < n) = false := decide_eq_false h5
    have HBF := Lib.hid (show big = false from by rw [HBIG.out]; exact decide_eq_false (by omega))
    by_cases hs : (1000 : Int) < t.size
    ·
     have gs : decide ((1000 : Int) < t.size) = true := decide_eq_true hs
     have HE := Lib.hid (show RES = none from by rw [HS.out, HD.out]; exact prsF_none (by rw [HBF.out, decide_eq_true (by omega)]; rfl))
     clear hao
     go_wp2
     go_ret2
     exact ⟨by rw [HE.out]; rfl, HB.out⟩
    ·
     have gs : decide ((1000 : Int) < t.size) = false := decide_eq_false hs
     have HTS := Lib.hid (show (big || decide (1000 < t.size)) = false from by rw [HBF.out, decide_eq_false (by omega)]; rfl)
     have HC := Lib.hid (HPC.out t (by omega) wr)
     have hw1 : IntKind.i64.wrap ((k : Int) + 1) = (k : Int) + 1 := by rw [IntKind.wrap_i64]; omega
     obtain ⟨r, hr⟩ : ∃ r, modO t = r := ⟨_, rfl⟩
     have HR := Lib.hid hr
     rw [hr] at HC
     clear hao hr
     go_wp2_with fail
     refine HC.out.mono ?_
     rintro e w1 ⟨he, hb1⟩
     cases r
     case error f =>
      obtain ⟨rfl, hf⟩ := he
      have HE := Lib.hid (show RES = none from by rw [HS.out, HD.out]; exact prsF_err HR.out)
      have ef : (f.1 != 0) = true := bne_iff_ne.2 hf
      have HB1 := Lib.hid (((HB.out.trans (hb1.mono HB.out.size)).alloc (by have := HB.out.size; have := hb1.size; omega) (.cells #[.string ⟨#[]⟩, .slice none 0 0, .bool false, .int .i64 0, .string ⟨#[]⟩, .int .u64 0, .int .u64 0, .int .u64 0, .int .u64 0, .slice none 0 0, .slice none 0 0] 82)).alloc (by have := HB.out.size; have := hb1.size; simp; omega) (.cells #[.int .i64 f.1, .int .i64 f.2, .int .i64 0, .int .i64 0] 57))
      have HO1 := Lib.hid (Own.fresh (w1.alloc (.cells #[.string ⟨#[]⟩, .slice none 0 0, .bool false, .int .i64 0, .string ⟨#[]⟩, .int .u64 0, .int .u64 0, .int .u64 0, .int .u64 0, .slice none 0 0, .slice none 0 0] 82)) 57 [.int .i64 f.1, .int .i64 f.2, .int .i64 0, .int .i64 0])
      clear hb1 hf c0' hbw
      go_upto_region 8 with fail
      have HG1 := Lib.hid (show (w1.alloc (.cells #[.string ⟨#[]⟩, .slice none 0 0, .bool false, .int .i64 0, .string ⟨#[]⟩, .int .u64 0, .int .u64 0, .int .u64 0, .int .u64 0, .slice none 0 0, .slice none 0 0] 82)).heap.size = w1.heap.size + 1 from by simp)
      rw [HG1.out] at HO1
      generalize (w1.alloc (.cells #[.string ⟨#[]⟩, .slice none 0 0, .bool false, .int .i64 0, .string ⟨#[]⟩, .int .u64 0, .int .u64 0, .int .u64 0, .int .u64 0, .slice none 0 0, .slice none 0 0] 82)).alloc _ = w2 at *
      obtain ⟨z0, z1, z2, z3, -⟩ := HO1.out.four
      have zl := HO1.out.lt
      go_wp2
      go_ret2
      exact ⟨by rw [HE.out]; rfl, HB1.out⟩
     case ok m =>
      obtain ⟨io, ic, ko, kc, ro, rc, n1, rfl, qi, qr, q1, q2, q3⟩ := he
      have HSN := Lib.hid (show RES = (prsF big (l.drop (k + 1))).map ((ML ++ [m]) ++ ·) from by rw [HS.out, HD.out]; exact prsF_add _ _ _ _ HTS.out HR.out)
      have HMI := Lib.hid (show MIn w1 (fun b => wr.heap.size ≤ b ∧ b < w1.heap.size) n1 ⟨m, io, ic, ko, kc, ro, rc⟩ from ⟨q1.mono fun b hb hb2 => ⟨hb2, hb⟩, HasP.ofE q2, HasRuR.of q3, qi, qr⟩)
      have hbl2 : Below w1.heap.size w1 ((w1.alloc (.cells #[.string m.nm, .slice io m.im.length ic, .bool m.wet, .int .i64 m.wa.op, .string m.wa.text, .int .u64 m.wa.s0, .int .u64 m.wa.s1, .int .u64 m.wa.s2, .int .u64 m.wa.s3, .slice ko m.wa.kids.length kc, .slice ro m.ru.length rc] 82)).alloc (.cells #[.int .i64 0, .int .i64 0, .int .i64 0, .int .i64 0] 57)) := ((Below.refl _ _).alloc (Nat.le_refl _) _).alloc (by simp) _
      have HB2 := Lib.hid ((HB.out.trans (hb1.mono HB.out.size)).trans (hbl2.mono (by have := HB.out.size; have := hb1.size; omega)))
      have HX2 := Lib.hid ((Own.fresh w1 82 [.string m.nm, .slice io m.im.length ic, .bool m.wet, .int .i64 m.wa.op, .string m.wa.text, .int .u64 m.wa.s0, .int .u64 m.wa.s1, .int .u64 m.wa.s2, .int .u64 m.wa.s3, .slice ko m.wa.kids.length kc, .slice ro m.ru.length rc]).on_alloc (.cells #[.int .i64 0, .int .i64 0, .int .i64 0, .int .i64 0] 57))
      have HO2 := Lib.hid (Own.fresh (w1.alloc (.cells #[.string m.nm, .slice io m.im.length ic, .bool m.wet, .int .i64 m.wa.op, .string m.wa.text, .int .u64 m.wa.s0, .int .u64 m.wa.s1, .int .u64 m.wa.s2, .int .u64 m.wa.s3, .slice ko m.wa.kids.length kc, .slice ro m.ru.length rc] 82)) 57 [.int .i64 0, .int .i64 0, .int .i64 0, .int .i64 0])
      have HB1 := Lib.hid hb1
      have HBL := Lib.hid hbl2
      clear hbl2 hb1 q1 q2 q3 c0' hbw
      go_upto_region 8 with fail
      have HG1 := Lib.hid (show (w1.alloc (.cells #[.string m.nm, .slice io m.im.length ic, .bool m.wet, .int .i64 m.wa.op, .string m.wa.text, .int .u64 m.wa.s0, .int .u64 m.wa.s1, .int .u64 m.wa.s2, .int .u64 m.wa.s3, .slice ko m.wa.kids.length kc, .slice ro m.ru.length rc] 82)).heap.size = w1.heap.size + 1 from by simp)
      rw [HG1.out] at HO2
      generalize (w1.alloc (.cells #[.string m.nm, .slice io m.im.length ic, .bool m.wet, .int .i64 m.wa.op, .string m.wa.text, .int .u64 m.wa.s0, .int .u64 m.wa.s1, .int .u64 m.wa.s2, .int .u64 m.wa.s3, .slice ko m.wa.kids.length kc, .slice ro m.ru.length rc] 82)).alloc _ = w2 at *
      obtain ⟨y0, y1, y2, y3, -⟩ := HO2.out.four
      have yl := HO2.out.lt
      obtain ⟨z0, z1, z2, z3, z4, z5, z6, z7, z8, z9, zA⟩ := HX2.out.elev
      have zl := HX2.out.lt
      obtain ⟨S, R, Z, nz, s1, s2, s3, s4, s5⟩ := HM.out
      have HLZ := Lib.hid (show Z.length = nm from by rw [← HNM.out, ← s3, List.length_map])
      have HS1 := Lib.hid s1
      have HS2 := Lib.hid s2
      have HS3 := Lib.hid s3
      have HS5 := Lib.hid s5
      have HW := Lib.hid ((s4.below HB1.out).below HBL.out)
      rw [HLZ.out] at HW
      clear s1 s2 s3 s4 s5
      obtain ⟨i0, hi, hz0, hz1, hz2⟩ := info_parts7 info_mod
      have HNEW := Lib.hid (fun W => fresh_news W 82 (mzrow ⟨m, io, ic, ko, kc, ro, rc⟩))
      have HCEL := Lib.hid (show ∀ u ∈ mzrow ⟨m, io, ic, ko, kc, ro, rc⟩, u.oneCell' = true by intro u hu; simp [mzrow] at hu; rcases hu with rfl | rfl | rfl | rfl | rfl | rfl | rfl | rfl | rfl | rfl | rfl <;> rfl)
      have hnm5 : nm ≤ 5 := by have := HNM.out; have := HKL.out; omega
      go_wp2_with (first
       | (at_builtin; refine wpList_append_win _ rfl _ _ 52 rfl S 82 i0 _ 11 152 Try.underlying52 hi hz0 hz1 hz2 rfl (by decide) _ nm (Z.flatMap mzrow) rfl (HW.out.below ((Below.refl _ _).alloc (Nat.le_refl _) _)) ⟨w2.heap.size, 0, none⟩ 1 1 (mzrow ⟨m, io, ic, ko, kc, ro, rc⟩) rfl rfl (HNEW.out w2) HCEL.out (by unfold maxLen; omega) (by omega) ?_))
      intro v' w4 hw4 hb4
      have hblx : Below w2.heap.size w2 (w2.alloc (.cells #[.string m.nm, .slice io m.im.length ic, .bool m.wet, .int .i64 m.wa.op, .string m.wa.text, .int .u64 m.wa.s0, .int .u64 m.wa.s1, .int .u64 m.wa.s2, .int .u64 m.wa.s3, .slice ko m.wa.kids.length kc, .slice ro m.ru.length rc] 82)) := (Below.refl _ _).alloc (Nat.le_refl _) _
      have HMN := Lib.hid (show MB w4 w.heap.size v' (ML ++ [m]) from by
       rw [← HS3.out]
       exact MB.add (z := ⟨m, io, ic, ko, kc, ro, rc⟩) HB.out.size HS1.out HS2.out HS5.out HB1.out HMI.out (HBL.out.trans (hblx.mono HBL.out.size)) (by rw [HLZ.out]; exact hw4.mono (fun j _ h => by simpa using h)) hb4)
      have HB4 := Lib.hid ((HB2.out.trans (hblx.mono HB2.out.size)).trans (hb4.below (B := w.heap.size) (by have := HB2.out.size; have := hblx.size; omega) (fun j hs => (HS1.out j (.inr hs)).1)))
      obtain ⟨mo', mc', hv⟩ := HMN.out.form
      have HLN := Lib.hid (show (ML ++ [m]).length = nm + 1 from by rw [List.length_append, HNM.out]; rfl)
      rw [HLN.out] at hv
      subst hv
      clear hw4 hb4 hblx y0 y1 y2 y3 yl z0 z1 z2 z3 z4 z5 z6 z7 z8 z9 zA zl
      go_wp2
      go_roundw
      case rel => exact ⟨k + 1, ML ++ [m], mo', mc', by rw [HLN.out], by go_num, by omega, HSN, Lib.hid (by rw [HLN.out]; have := HNM.out; have := HKL.out; omega), by rw [HLN.out]; exact HMN, HB4⟩
      case measure => simp [intOf]; omega
  ·
   have HE := Lib.hid (show RES = some ML from by rw [HS.out, List.drop_eq_nil_of_le (by have := HN.out; omega)]; unfold prsF; simp)
   have hlt' : decide ((k : Int) < n) = false := decide_eq_false hlt
   go_wp2
   go_ret2
   refine ⟨?_, HB.out⟩
   rw [HE.out]
   exact ⟨mo, mc, (by rw [HNM.out]; rfl), HM.out.has⟩
set_option maxRecDepth 1000000 in
set_option maxHeartbeats 3200000 in
theorem joined13_any (l : List ByteArray) (ao : Option Addr) (cap : Nat) (s : ByteArray) (w : World) (hl : HasN w ao l) : Calls Try.prog 8 #[.slice ao l.length cap, .string s] w fun e w' => GjE (jndO l s) e w' ∧ Below w.heap.size w w' := by
 have HB1 := Lib.hid (show Below w.heap.size w (w.alloc (.cells #[.slice none 0 0, .slice none 0 0, .slice none 0 0, .slice none 0 0, .int .i64 0] 27)) from (Below.refl _ _).alloc (Nat.le_refl _) _)
 have HG1 := Lib.hid (Own.fresh w 27 [.slice none 0 0, .slice none 0 0, .slice none 0 0, .slice none 0 0, .int .i64 0])
 have HPA := Lib.hid (parsed13_any l ao cap (w.alloc (.cells #[.slice none 0 0, .slice none 0 0, .slice none 0 0, .slice none 0 0, .int .i64 0] 27)) (hl.below HB1.out))
 obtain ⟨PO, hPO⟩ : ∃ r, prsO l = r := ⟨_, rfl⟩
 have HPO := Lib.hid hPO
 have HJD := Lib.hid (jndO_q l s)
 rw [hPO] at HPA HJD
 obtain ⟨RES, hRES⟩ : ∃ r, jndO l s = r := ⟨_, rfl⟩
 rw [hRES] at HJD
 rw [hRES]
 obtain ⟨nl, hnl⟩ : ∃ n, l.length = n := ⟨_, rfl⟩
 rw [hnl] at HPA
 rw [hnl]
 obtain ⟨A, hA⟩ : ∃ A, w.heap.size = A := ⟨_, rfl⟩
 have HA := Lib.hid hA
 rw [hA] at HG1
 clear hl hPO hRES hnl
 go_enter Try.func8, Try.ntmps8
 go_upto_region 1 with fail
 generalize w.alloc (.cells #[.slice none 0 0, .slice none 0 0, .slice none 0 0, .slice none 0 0, .int .i64 0] 27) = w1 at *
 try rw [hA]
 clear hA
 go_wp2_with fail
 refine HPA.out.mono ?_
 rintro e w2 ⟨hP, hb2⟩
 have HB2 := Lib.hid (HB1.out.trans (hb2.mono HB1.out.size))
 have HG2 := Lib.hid (HG1.out.under hb2 HG1.out.lt)
 clear hb2 HPA HB1 HG1
 cases PO with
 | none =>
  have hP' : e = .returned (.tuple #[.slice none 0 0, .bool false]) := hP
  subst hP'
  have HE := Lib.hid (show RES = none from HJD.out)
  obtain ⟨x0, x1, x2, x3, x4⟩ : w2.cell? ⟨A, 0, none⟩ = some (.slice none 0 0) ∧ w2.cell? ⟨A, 1, none⟩ = some (.slice none 0 0) ∧ w2.cell? ⟨A, 2, none⟩ = some (.slice none 0 0) ∧ w2.cell? ⟨A, 3, none⟩ = some (.slice none 0 0) ∧ w2.cell? ⟨A, 4, none⟩ = some (.int .i64 0) := ⟨HG2.out.cell 0, HG2.out.cell 1, HG2.out.cell 2, HG2.out.cell 3, HG2.out.cell 4⟩
  obtain ⟨t0, t1, t2, t3, t4⟩ : w2.frozen? ⟨A, 0, none⟩ = false ∧ w2.frozen? ⟨A, 1, none⟩ = false ∧ w2.frozen? ⟨A, 2, none⟩ = false ∧ w2.frozen? ⟨A, 3, none⟩ = false ∧ w2.frozen? ⟨A, 4, none⟩ = false := ⟨HG2.out.thaw 0, HG2.out.thaw 1, HG2.out.thaw 2, HG2.out.thaw 3, HG2.out.thaw 4⟩
  have xl := HG2.out.lt
  go_wp2
  rw [set5_fold]
  have hbz := But.set5 w2 A (.slice none 0 0) (.slice none 0 0) (.slice none 0 0) (.slice none 0 0) (.int .i64 0)
  have HBY := Lib.hid (HB2.out.trans (hbz.below (B := w.heap.size) (by have := HB2.out.size; omega) (fun j h => by have := HA.out; omega)))
  have HGZ := Lib.hid (HG2.out.put5 (.slice none 0 0) (.slice none 0 0) (.slice none 0 0) (.slice none 0 0) (.int .i64 0))
  clear x0 x1 x2 x3 x4 t0 t1 t2 t3 t4 xl hbz HG2
  generalize set5 w2 A _ _ _ _ _ = w99 at *
  have hgz := HGZ.out
  obtain ⟨x0, x1, x2, x3, x4⟩ : w99.cell? ⟨A, 0, none⟩ = some (.slice none 0 0) ∧ w99.cell? ⟨A, 1, none⟩ = some (.slice none 0 0) ∧ w99.cell? ⟨A, 2, none⟩ = some (.slice none 0 0) ∧ w99.cell? ⟨A, 3, none⟩ = some (.slice none 0 0) ∧ w99.cell? ⟨A, 4, none⟩ = some (.int .i64 0) := ⟨hgz.cell 0, hgz.cell 1, hgz.cell 2, hgz.cell 3, hgz.cell 4⟩
  refine bodyPost_ret (by simp [results, Try.results8, go_sem, x0, x1, x2, x3, x4]; rfl) rfl ?_
  rw [HE.out]
  exact ⟨rfl, HBY.out⟩
 | some ML =>
  obtain ⟨mo, mc, he, hM⟩ : ∃ mo mc, e = .returned (.tuple #[.slice mo ML.length mc, .bool true]) ∧ HasMs w2 w1.heap.size mo ML := hP
  subst he
  by_cases hs : (50 : Int) < (s.size : Int)
  ·
   have hs1 : decide ((50 : Int) < (s.size : Int)) = true := decide_eq_true hs
   have hs2 : decide (50 < s.size) = true := decide_eq_true (by omega)
   have HE := Lib.hid (show RES = none from HJD.out.trans (if_pos (by omega)))
   clear hM
   obtain ⟨x0, x1, x2, x3, x4⟩ : w2.cell? ⟨A, 0, none⟩ = some (.slice none 0 0) ∧ w2.cell? ⟨A, 1, none⟩ = some (.slice none 0 0) ∧ w2.cell? ⟨A, 2, none⟩ = some (.slice none 0 0) ∧ w2.cell? ⟨A, 3, none⟩ = some (.slice none 0 0) ∧ w2.cell? ⟨A, 4, none⟩ = some (.int .i64 0) := ⟨HG2.out.cell 0, HG2.out.cell 1, HG2.out.cell 2, HG2.out.cell 3, HG2.out.cell 4⟩
   obtain ⟨t0, t1, t2, t3, t4⟩ : w2.frozen? ⟨A, 0, none⟩ = false ∧ w2.frozen? ⟨A, 1, none⟩ = false ∧ w2.frozen? ⟨A, 2, none⟩ = false ∧ w2.frozen? ⟨A, 3, none⟩ = false ∧ w2.frozen? ⟨A, 4, none⟩ = false := ⟨HG2.out.thaw 0, HG2.out.thaw 1, HG2.out.thaw 2, HG2.out.thaw 3, HG2.out.thaw 4⟩
   have xl := HG2.out.lt
   go_wp2
   rw [set5_fold]
   have hbz := But.set5 w2 A (.slice none 0 0) (.slice none 0 0) (.slice none 0 0) (.slice none 0 0) (.int .i64 0)
   have HBY := Lib.hid (HB2.out.trans (hbz.below (B := w.heap.size) (by have := HB2.out.size; omega) (fun j h => by have := HA.out; omega)))
   have HGZ := Lib.hid (HG2.out.put5 (.slice none 0 0) (.slice none 0 0) (.slice none 0 0) (.slice none 0 0) (.int .i64 0))
   clear x0 x1 x2 x3 x4 t0 t1 t2 t3 t4 xl hbz HG2
   generalize set5 w2 A _ _ _ _ _ = w99 at *
   have hgz := HGZ.out
   obtain ⟨x0, x1, x2, x3, x4⟩ : w99.cell? ⟨A, 0, none⟩ = some (.slice none 0 0) ∧ w99.cell? ⟨A, 1, none⟩ = some (.slice none 0 0) ∧ w99.cell? ⟨A, 2, none⟩ = some (.slice none 0 0) ∧ w99.cell? ⟨A, 3, none⟩ = some (.slice none 0 0) ∧ w99.cell? ⟨A, 4, none⟩ = some (.int .i64 0) := ⟨hgz.cell 0, hgz.cell 1, hgz.cell 2, hgz.cell 3, hgz.cell 4⟩
   refine bodyPost_ret (by simp [results, Try.results8, go_sem, x0, x1, x2, x3, x4]; rfl) rfl ?_
   rw [HE.out]
   exact ⟨rfl, HBY.out⟩
  ·
   have hs1 : decide ((50 : Int) < (s.size : Int)) = false := decide_eq_false hs
   have hs2 : decide (50 < s.size) = false := decide_eq_false (by omega)
   have HOK := prsO_okm HPO.out
   have HJC := Lib.hid (join_any ML mo mc w1.heap.size HOK.1 HOK.2 (prsO_few HPO.out).1 s (by omega) w2 hM)
   have HJ2 := Lib.hid (show RES = exO2 (joinO ML s) from HJD.out.trans (if_neg (by omega)))
   clear HOK hM
   go_wp2_with fail
   refine HJC.out.mono ?_
   rintro e w3 ⟨hJ, hb3⟩
   have HB3 := Lib.hid (HB2.out.trans (hb3.mono HB2.out.size))
   have HG3 := Lib.hid (HG2.out.under hb3 HG2.out.lt)
   have HLT := Lib.hid HG2.out.lt
   clear hb3 HJC HB2 HG2
   obtain ⟨jo, hjo⟩ : ∃ r, joinO ML s = r := ⟨_, rfl⟩
   rw [hjo] at hJ HJ2
   clear hjo
   cases jo with
   | error f =>
    obtain ⟨he, hf⟩ := hJ
    subst he
    have HE := Lib.hid (show RES = none from HJ2.out)
    have hfl : (f.1 == 0) = false := beq_eq_false_iff_ne.2 hf
    have hbl3 : Below w3.heap.size w3 ((w3.alloc (.cells #[.slice none 0 0, .slice none 0 0, .slice none 0 0, .slice none 0 0, .int .i64 0] 27)).alloc (.cells #[.int .i64 f.1, .int .i64 0, .int .i64 f.2.1, .int .i64 f.2.2] 57)) := ((Below.refl _ _).alloc (Nat.le_refl _) _).alloc (by simp) _
    have HB4 := Lib.hid (HB3.out.trans (hbl3.mono HB3.out.size))
    have HG4 := Lib.hid (HG3.out.under hbl3 HG3.out.lt)
    have HX4 := Lib.hid ((Own.fresh w3 27 [.slice none 0 0, .slice none 0 0, .slice none 0 0, .slice none 0 0, .int .i64 0]).on_alloc (.cells #[.int .i64 f.1, .int .i64 0, .int .i64 f.2.1, .int .i64 f.2.2] 57))
    have HF4 := Lib.hid (Own.fresh (w3.alloc (.cells #[.slice none 0 0, .slice none 0 0, .slice none 0 0, .slice none 0 0, .int .i64 0] 27)) 57 [.int .i64 f.1, .int .i64 0, .int .i64 f.2.1, .int .i64 f.2.2])
    have HNF := Lib.hid hf
    clear hf
    clear hbl3
    go_upto_region 5 with fail
    have HS4 := Lib.hid (show (w3.alloc (.cells #[.slice none 0 0, .slice none 0 0, .slice none 0 0, .slice none 0 0, .int .i64 0] 27)).heap.size = w3.heap.size + 1 from by simp)
    rw [HS4.out] at HF4
    generalize (w3.alloc (.cells #[.slice none 0 0, .slice none 0 0, .slice none 0 0, .slice none 0 0, .int .i64 0] 27)).alloc _ = w4 at *
    obtain ⟨x0, x1, x2, x3, x4⟩ : w4.cell? ⟨A, 0, none⟩ = some (.slice none 0 0) ∧ w4.cell? ⟨A, 1, none⟩ = some (.slice none 0 0) ∧ w4.cell? ⟨A, 2, none⟩ = some (.slice none 0 0) ∧ w4.cell? ⟨A, 3, none⟩ = some (.slice none 0 0) ∧ w4.cell? ⟨A, 4, none⟩ = some (.int .i64 0) := ⟨HG4.out.cell 0, HG4.out.cell 1, HG4.out.cell 2, HG4.out.cell 3, HG4.out.cell 4⟩
    obtain ⟨t0, t1, t2, t3, t4⟩ : w4.frozen? ⟨A, 0, none⟩ = false ∧ w4.frozen? ⟨A, 1, none⟩ = false ∧ w4.frozen? ⟨A, 2, none⟩ = false ∧ w4.frozen? ⟨A, 3, none⟩ = false ∧ w4.frozen? ⟨A, 4, none⟩ = false := ⟨HG4.out.thaw 0, HG4.out.thaw 1, HG4.out.thaw 2, HG4.out.thaw 3, HG4.out.thaw 4⟩
    have xl := HG4.out.lt
    obtain ⟨q0, q1, q2, q3, q4⟩ : w4.cell? ⟨w3.heap.size, 0, none⟩ = some (.slice none 0 0) ∧ w4.cell? ⟨w3.heap.size, 1, none⟩ = some (.slice none 0 0) ∧ w4.cell? ⟨w3.heap.size, 2, none⟩ = some (.slice none 0 0) ∧ w4.cell? ⟨w3.heap.size, 3, none⟩ = some (.slice none 0 0) ∧ w4.cell? ⟨w3.heap.size, 4, none⟩ = some (.int .i64 0) := ⟨HX4.out.cell 0, HX4.out.cell 1, HX4.out.cell 2, HX4.out.cell 3, HX4.out.cell 4⟩
    have ql := HX4.out.lt
    obtain ⟨y0, y1, y2, y3, u0, u1, u2, u3⟩ := HF4.out.four
    have yl := HF4.out.lt
    have ne1 : ¬ A = w3.heap.size := by have := HG3.out.lt; omega
    have ne2 : ¬ w3.heap.size = A := fun e => ne1 e.symm
    have ne3 : ¬ A = w3.heap.size + 1 := by have := HG3.out.lt; omega
    have ne4 : ¬ w3.heap.size + 1 = A := fun e => ne3 e.symm
    go_region
    rw [set5_fold]
    have hbz := But.set5 w4 A (.slice none 0 0) (.slice none 0 0) (.slice none 0 0) (.slice none 0 0) (.int .i64 0)
    have HBY := Lib.hid (HB4.out.trans (hbz.drew.below (B := w.heap.size) (by have := HB4.out.size; omega) (fun j h => by have := HA.out; omega)))
    have HGZ := Lib.hid ((HG4.out.put5 (.slice none 0 0) (.slice none 0 0) (.slice none 0 0) (.slice none 0 0) (.int .i64 0)).on_drew)
    clear x0 x1 x2 x3 x4 t0 t1 t2 t3 t4 xl q0 q1 q2 q3 q4 ql y0 y1 y2 y3 u0 u1 u2 u3 yl hbz HG4 HX4 HF4
    generalize World.drew (set5 w4 A _ _ _ _ _) = w99 at *
    have hgz := HGZ.out
    obtain ⟨x0, x1, x2, x3, x4⟩ : w99.cell? ⟨A, 0, none⟩ = some (.slice none 0 0) ∧ w99.cell? ⟨A, 1, none⟩ = some (.slice none 0 0) ∧ w99.cell? ⟨A, 2, none⟩ = some (.slice none 0 0) ∧ w99.cell? ⟨A, 3, none⟩ = some (.slice none 0 0) ∧ w99.cell? ⟨A, 4, none⟩ = some (.int .i64 0) := ⟨hgz.cell 0, hgz.cell 1, hgz.cell 2, hgz.cell 3, hgz.cell 4⟩
    go_wp2
    refine bodyPost_ret (by simp [results, Try.results8, go_sem, x0, x1, x2, x3, x4]; rfl) rfl ?_
    rw [HE.out]
    exact ⟨rfl, HBY.out⟩
   | ok gr =>
    obtain ⟨a, he, hg⟩ := hJ
    subst he
    unfold grv
    have HE := Lib.hid (show RES = some gr from HJ2.out)
    have HGg := Lib.hid hg
    clear hg
    have hbl3 : Below w3.heap.size w3 ((w3.alloc (.cells #[.slice a.mo gr.ms.length a.mc, .slice a.no gr.ns.length a.nc, .slice a.ho gr.hs.length a.hc, .slice a.wo gr.ws.length a.wc, .int .i64 gr.st] 27)).alloc (.cells #[.int .i64 0, .int .i64 0, .int .i64 0, .int .i64 0] 57)) := ((Below.refl _ _).alloc (Nat.le_refl _) _).alloc (by simp) _
    have HB4 := Lib.hid (HB3.out.trans (hbl3.mono HB3.out.size))
    have HG4 := Lib.hid (HG3.out.under hbl3 HG3.out.lt)
    have HX4 := Lib.hid ((Own.fresh w3 27 [.slice a.mo gr.ms.length a.mc, .slice a.no gr.ns.length a.nc, .slice a.ho gr.hs.length a.hc, .slice a.wo gr.ws.length a.wc, .int .i64 gr.st]).on_alloc (.cells #[.int .i64 0, .int .i64 0, .int .i64 0, .int .i64 0] 57))
    have HF4 := Lib.hid (Own.fresh (w3.alloc (.cells #[.slice a.mo gr.ms.length a.mc, .slice a.no gr.ns.length a.nc, .slice a.ho gr.hs.length a.hc, .slice a.wo gr.ws.length a.wc, .int .i64 gr.st] 27)) 57 [.int .i64 0, .int .i64 0, .int .i64 0, .int .i64 0])
    have HG5 := Lib.hid (HGg.out.below hbl3)
    clear hbl3
    go_upto_region 5 with fail
    have HS4 := Lib.hid (show (w3.alloc (.cells #[.slice a.mo gr.ms.length a.mc, .slice a.no gr.ns.length a.nc, .slice a.ho gr.hs.length a.hc, .slice a.wo gr.ws.length a.wc, .int .i64 gr.st] 27)).heap.size = w3.heap.size + 1 from by simp)
    rw [HS4.out] at HF4
    generalize (w3.alloc (.cells #[.slice a.mo gr.ms.length a.mc, .slice a.no gr.ns.length a.nc, .slice a.ho gr.hs.length a.hc, .slice a.wo gr.ws.length a.wc, .int .i64 gr.st] 27)).alloc _ = w4 at *
    obtain ⟨x0, x1, x2, x3, x4⟩ : w4.cell? ⟨A, 0, none⟩ = some (.slice none 0 0) ∧ w4.cell? ⟨A, 1, none⟩ = some (.slice none 0 0) ∧ w4.cell? ⟨A, 2, none⟩ = some (.slice none 0 0) ∧ w4.cell? ⟨A, 3, none⟩ = some (.slice none 0 0) ∧ w4.cell? ⟨A, 4, none⟩ = some (.int .i64 0) := ⟨HG4.out.cell 0, HG4.out.cell 1, HG4.out.cell 2, HG4.out.cell 3, HG4.out.cell 4⟩
    obtain ⟨t0, t1, t2, t3, t4⟩ : w4.frozen? ⟨A, 0, none⟩ = false ∧ w4.frozen? ⟨A, 1, none⟩ = false ∧ w4.frozen? ⟨A, 2, none⟩ = false ∧ w4.frozen? ⟨A, 3, none⟩ = false ∧ w4.frozen? ⟨A, 4, none⟩ = false := ⟨HG4.out.thaw 0, HG4.out.thaw 1, HG4.out.thaw 2, HG4.out.thaw 3, HG4.out.thaw 4⟩
    have xl := HG4.out.lt
    obtain ⟨q0, q1, q2, q3, q4⟩ : w4.cell? ⟨w3.heap.size, 0, none⟩ = some (.slice a.mo gr.ms.length a.mc) ∧ w4.cell? ⟨w3.heap.size, 1, none⟩ = some (.slice a.no gr.ns.length a.nc) ∧ w4.cell? ⟨w3.heap.size, 2, none⟩ = some (.slice a.ho gr.hs.length a.hc) ∧ w4.cell? ⟨w3.heap.size, 3, none⟩ = some (.slice a.wo gr.ws.length a.wc) ∧ w4.cell? ⟨w3.heap.size, 4, none⟩ = some (.int .i64 gr.st) := ⟨HX4.out.cell 0, HX4.out.cell 1, HX4.out.cell 2, HX4.out.cell 3, HX4.out.cell 4⟩
    have ql := HX4.out.lt
    obtain ⟨y0, y1, y2, y3, u0, u1, u2, u3⟩ := HF4.out.four
    have yl := HF4.out.lt
    have ne1 : ¬ A = w3.heap.size := by have := HG3.out.lt; omega
    have ne2 : ¬ w3.heap.size = A := fun e => ne1 e.symm
    have ne3 : ¬ A = w3.heap.size + 1 := by have := HG3.out.lt; omega
    have ne4 : ¬ w3.heap.size + 1 = A := fun e => ne3 e.symm
    go_region
    rw [set5_fold]
    have hbz := But.set5 w4 A (.slice a.mo gr.ms.length a.mc) (.slice a.no gr.ns.length a.nc) (.slice a.ho gr.hs.length a.hc) (.slice a.wo gr.ws.length a.wc) (.int .i64 gr.st)
    have HBY := Lib.hid (HB4.out.trans (hbz.drew.below (B := w.heap.size) (by have := HB4.out.size; omega) (fun j h => by have := HA.out; omega)))
    have HGZ := Lib.hid ((HG4.out.put5 (.slice a.mo gr.ms.length a.mc) (.slice a.no gr.ns.length a.nc) (.slice a.ho gr.hs.length a.hc) (.slice a.wo gr.ws.length a.wc) (.int .i64 gr.st)).on_drew)
    have HGF := Lib.hid ((HG5.out.but hbz.drew (fun j _ hj h => by have := HLT.out; have h : j = A := h; omega)).mono (T := fun _ => True) (fun _ _ _ => trivial))
    clear x0 x1 x2 x3 x4 t0 t1 t2 t3 t4 xl q0 q1 q2 q3 q4 ql y0 y1 y2 y3 u0 u1 u2 u3 yl hbz HG4 HX4 HF4
    generalize World.drew (set5 w4 A _ _ _ _ _) = w99 at *
    have hgz := HGZ.out
    obtain ⟨x0, x1, x2, x3, x4⟩ : w99.cell? ⟨A, 0, none⟩ = some (.slice a.mo gr.ms.length a.mc) ∧ w99.cell? ⟨A, 1, none⟩ = some (.slice a.no gr.ns.length a.nc) ∧ w99.cell? ⟨A, 2, none⟩ = some (.slice a.ho gr.hs.length a.hc) ∧ w99.cell? ⟨A, 3, none⟩ = some (.slice a.wo gr.ws.length a.wc) ∧ w99.cell? ⟨A, 4, none⟩ = some (.int .i64 gr.st) := ⟨hgz.cell 0, hgz.cell 1, hgz.cell 2, hgz.cell 3, hgz.cell 4⟩
    go_wp2
    refine bodyPost_ret (by simp [results, Try.results8, go_sem, x0, x1, x2, x3, x4]; rfl) rfl ?_
    rw [HE.out]
    exact ⟨⟨a, rfl, HGF.out⟩, HBY.out⟩
end Go.Proofs.Ytbjgojdpfehnmaa
