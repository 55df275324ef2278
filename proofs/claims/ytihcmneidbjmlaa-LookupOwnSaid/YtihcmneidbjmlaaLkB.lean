/- The modules of texts, walked. -/
import Derived.Test.YtihcmneidbjmlaaLkA
namespace Go.Proofs.Ytihcmneidbjmlaa
set_option linter.unusedVariables false
open Go.RowKit Go.Sort

def PrE (D : Nat) (r : Option (List Md)) (e : Ending) (w' : World) : Prop := match r with
  | some ML => ∃ mo mc, e = .returned (.tuple #[.slice mo ML.length mc, .bool true]) ∧ HasMs w' D mo ML
  | none => e = .returned (.tuple #[.slice none 0 0, .bool false])
theorem prsF_none {b : Bool} {A : List Md} {t : ByteArray} {r : List ByteArray} (hb : (b || decide (1000 < t.size)) = true) : (prsF b (t :: r)).map (A ++ ·) = none := by
  unfold prsF
  rw [hb]
  rfl
theorem prsF_err {b : Bool} {A : List Md} {t : ByteArray} {r : List ByteArray} {f : Ft2} (hm : modO t = .error f) : (prsF b (t :: r)).map (A ++ ·) = none := by
  unfold prsF
  rw [hm]
  split <;> rfl

set_option maxRecDepth 1000000 in
set_option maxHeartbeats 3200000 in
theorem parsed_any (l : List ByteArray) (ao : Option Addr) (cap : Nat) (w : World) (hl : HasN w ao l) : Calls Try.prog 6 #[.slice ao l.length cap] w fun e w' => PrE w.heap.size (prsO l) e w' ∧ Below w.heap.size w w' := by
  have HL := Lib.hid hl
  have HPC := Lib.hid (fun (t : ByteArray) (ht : t.size ≤ 1000) W => parse9_any t (by omega) W)
  obtain ⟨n, hnn⟩ : ∃ n, l.length = n := ⟨_, rfl⟩
  have HN := Lib.hid hnn
  obtain ⟨big, hbig⟩ : ∃ b, decide (5 < l.length) = b := ⟨_, rfl⟩
  have HBIG := Lib.hid (show big = decide (5 < n) from by rw [← hbig, hnn])
  obtain ⟨RES, hres⟩ : ∃ r, prsO l = r := ⟨_, rfl⟩
  have HS0 := Lib.hid (show RES = (prsF big (l.drop 0)).map (([] : List Md) ++ ·) from by rw [← hres, List.drop_zero]; unfold prsO; rw [hbig]; cases prsF big l <;> rfl)
  have HB0 := Lib.hid (Below.refl w.heap.size w)
  have HM0 := Lib.hid (MB.start w w.heap.size)
  rw [hres, hnn]
  clear hl hnn hbig hres
  go_enter Try.func6, Try.ntmps6
  go_wp2_with fail
  go_loopw [4, 5] (fun v4 v5 wr => ∃ (k : Nat) (ML : List Md) (mo : Option Addr) (mc : Nat), v4 = .slice mo ML.length mc ∧ v5 = .int .i64 (k : Int) ∧ (k : Int) ≤ n ∧ Hid (RES = (prsF big (l.drop k)).map (ML ++ ·)) ∧ Hid (ML.length = k) ∧
      Hid (MB wr w.heap.size (.slice mo ML.length mc) ML) ∧ Hid (Below w.heap.size w wr)) (fun _ v5 _ => n - (intOf v5).toNat)
  case atStart => exact ⟨0, [], none, 0, rfl, rfl, by omega, HS0, Lib.hid rfl, HM0, HB0⟩
  case round =>
    obtain ⟨k, ML, mo, mc, rfl, rfl, hk, HS, HKL, HM, HB⟩ := hrel
    clear HS0 HM0 HB0
    obtain ⟨nm, hnm⟩ : ∃ z, ML.length = z := ⟨_, rfl⟩
    have HNM := Lib.hid hnm
    rw [hnm] at HM
    rw [hnm]
    clear hnm
    by_cases hlt : (k : Int) < n
    · obtain ⟨t, ht⟩ : ∃ t, l[k]? = some t := ⟨_, List.getElem?_eq_getElem (by have := HN.out; omega)⟩
      have HD := Lib.hid (show l.drop k = t :: l.drop (k + 1) from by
        obtain ⟨h1, h2⟩ := List.getElem?_eq_some_iff.1 ht
        rw [List.drop_eq_getElem_cons h1, h2])
      obtain ⟨b, off, hao, hb, c0⟩ := HL.out k t ht
      have hbw : b < wr.heap.size := Nat.lt_of_lt_of_le hb HB.out.size
      have c0' := keepc c0 HB.out
      rw [hao]
      clear ht c0 hb
      by_cases h5 : (5 : Int) < n
      · have g5 : decide ((5 : Int) < n) = true := decide_eq_true h5
        have HE := Lib.hid (show RES = none from by rw [HS.out, HD.out]; exact prsF_none (by rw [HBIG.out, decide_eq_true (by omega)]; rfl))
        clear hao
        go_wp2
        go_ret2
        exact ⟨by rw [HE.out]; rfl, HB.out⟩
      · have g5 : decide ((5 : Int) < n) = false := decide_eq_false h5
        have HBF := Lib.hid (show big = false from by rw [HBIG.out]; exact decide_eq_false (by omega))
        by_cases hs : (1000 : Int) < t.size
        · have gs : decide ((1000 : Int) < t.size) = true := decide_eq_true hs
          have HE := Lib.hid (show RES = none from by rw [HS.out, HD.out]; exact prsF_none (by rw [HBF.out, decide_eq_true (by omega)]; rfl))
          clear hao
          go_wp2
          go_ret2
          exact ⟨by rw [HE.out]; rfl, HB.out⟩
        · have gs : decide ((1000 : Int) < t.size) = false := decide_eq_false hs
          have HTS := Lib.hid (show (big || decide (1000 < t.size)) = false from by rw [HBF.out, decide_eq_false (by omega)]; rfl)
          have HC := Lib.hid (HPC.out t (by omega) wr)
          have hw1 : IntKind.i64.wrap ((k : Int) + 1) = (k : Int) + 1 := by rw [IntKind.wrap_i64]; omega
          obtain ⟨r, hr⟩ : ∃ r, modO t = r := ⟨_, rfl⟩
          have HR := Lib.hid hr
          rw [hr] at HC
          clear hao hr
          go_wp2_with fail
          refine HC.out.mono ?_
          rintro e w1 ⟨he, hb1⟩
          cases r
          case error f =>
            obtain ⟨rfl, hf⟩ := he
            have HE := Lib.hid (show RES = none from by rw [HS.out, HD.out]; exact prsF_err HR.out)
            have ef : (f.1 != 0) = true := bne_iff_ne.2 hf
            have HB1 := Lib.hid (((HB.out.trans (hb1.mono HB.out.size)).alloc (by have := HB.out.size; have := hb1.size; omega) (.cells #[.string ⟨#[]⟩, .slice none 0 0, .bool false, .int .i64 0, .string ⟨#[]⟩, .int .u64 0, .int .u64 0, .int .u64 0, .int .u64 0, .slice none 0 0, .slice none 0 0] 39)).alloc (by have := HB.out.size; have := hb1.size; simp; omega) (.cells #[.int .i64 f.1, .int .i64 f.2, .int .i64 0, .int .i64 0] 48))
            have HO1 := Lib.hid (Own.fresh (w1.alloc (.cells #[.string ⟨#[]⟩, .slice none 0 0, .bool false, .int .i64 0, .string ⟨#[]⟩, .int .u64 0, .int .u64 0, .int .u64 0, .int .u64 0, .slice none 0 0, .slice none 0 0] 39)) 48 [.int .i64 f.1, .int .i64 f.2, .int .i64 0, .int .i64 0])
            clear hb1 hf c0' hbw
            go_upto_region 8 with fail
            have HG1 := Lib.hid (show (w1.alloc (.cells #[.string ⟨#[]⟩, .slice none 0 0, .bool false, .int .i64 0, .string ⟨#[]⟩, .int .u64 0, .int .u64 0, .int .u64 0, .int .u64 0, .slice none 0 0, .slice none 0 0] 39)).heap.size = w1.heap.size + 1 from by simp)
            rw [HG1.out] at HO1
            generalize (w1.alloc (.cells #[.string ⟨#[]⟩, .slice none 0 0, .bool false, .int .i64 0, .string ⟨#[]⟩, .int .u64 0, .int .u64 0, .int .u64 0, .int .u64 0, .slice none 0 0, .slice none 0 0] 39)).alloc _ = w2 at *
            obtain ⟨z0, z1, z2, z3, -⟩ := HO1.out.four
            have zl := HO1.out.lt
            go_wp2
            go_ret2
            exact ⟨by rw [HE.out]; rfl, HB1.out⟩
          case ok m =>
            obtain ⟨io, ic, ko, kc, ro, rc, n1, rfl, q1, q2, q3⟩ := he
            have HSN := Lib.hid (show RES = (prsF big (l.drop (k + 1))).map ((ML ++ [m]) ++ ·) from by rw [HS.out, HD.out]; exact prsF_add _ _ _ _ HTS.out HR.out)
            have HMI := Lib.hid (show MIn w1 (fun b => wr.heap.size ≤ b ∧ b < w1.heap.size) n1 ⟨m, io, ic, ko, kc, ro, rc⟩ from ⟨q1.mono fun b hb hb2 => ⟨hb2, hb⟩, HasP.ofE q2, HasRuR.of q3⟩)
            have hbl2 : Below w1.heap.size w1 ((w1.alloc (.cells #[.string m.nm, .slice io m.im.length ic, .bool m.wet, .int .i64 m.wa.op, .string m.wa.text, .int .u64 m.wa.s0, .int .u64 m.wa.s1, .int .u64 m.wa.s2, .int .u64 m.wa.s3, .slice ko m.wa.kids.length kc, .slice ro m.ru.length rc] 39)).alloc (.cells #[.int .i64 0, .int .i64 0, .int .i64 0, .int .i64 0] 48)) := ((Below.refl _ _).alloc (Nat.le_refl _) _).alloc (by simp) _
            have HB2 := Lib.hid ((HB.out.trans (hb1.mono HB.out.size)).trans (hbl2.mono (by have := HB.out.size; have := hb1.size; omega)))
            have HX2 := Lib.hid ((Own.fresh w1 39 [.string m.nm, .slice io m.im.length ic, .bool m.wet, .int .i64 m.wa.op, .string m.wa.text, .int .u64 m.wa.s0, .int .u64 m.wa.s1, .int .u64 m.wa.s2, .int .u64 m.wa.s3, .slice ko m.wa.kids.length kc, .slice ro m.ru.length rc]).on_alloc (.cells #[.int .i64 0, .int .i64 0, .int .i64 0, .int .i64 0] 48))
            have HO2 := Lib.hid (Own.fresh (w1.alloc (.cells #[.string m.nm, .slice io m.im.length ic, .bool m.wet, .int .i64 m.wa.op, .string m.wa.text, .int .u64 m.wa.s0, .int .u64 m.wa.s1, .int .u64 m.wa.s2, .int .u64 m.wa.s3, .slice ko m.wa.kids.length kc, .slice ro m.ru.length rc] 39)) 48 [.int .i64 0, .int .i64 0, .int .i64 0, .int .i64 0])
            have HB1 := Lib.hid hb1
            have HBL := Lib.hid hbl2
            clear hbl2 hb1 q1 q2 q3 c0' hbw
            go_upto_region 8 with fail
            have HG1 := Lib.hid (show (w1.alloc (.cells #[.string m.nm, .slice io m.im.length ic, .bool m.wet, .int .i64 m.wa.op, .string m.wa.text, .int .u64 m.wa.s0, .int .u64 m.wa.s1, .int .u64 m.wa.s2, .int .u64 m.wa.s3, .slice ko m.wa.kids.length kc, .slice ro m.ru.length rc] 39)).heap.size = w1.heap.size + 1 from by simp)
            rw [HG1.out] at HO2
            generalize (w1.alloc (.cells #[.string m.nm, .slice io m.im.length ic, .bool m.wet, .int .i64 m.wa.op, .string m.wa.text, .int .u64 m.wa.s0, .int .u64 m.wa.s1, .int .u64 m.wa.s2, .int .u64 m.wa.s3, .slice ko m.wa.kids.length kc, .slice ro m.ru.length rc] 39)).alloc _ = w2 at *
            obtain ⟨y0, y1, y2, y3, -⟩ := HO2.out.four
            have yl := HO2.out.lt
            obtain ⟨z0, z1, z2, z3, z4, z5, z6, z7, z8, z9, zA⟩ := HX2.out.elev
            have zl := HX2.out.lt
            obtain ⟨S, R, Z, nz, s1, s2, s3, s4, s5⟩ := HM.out
            have HLZ := Lib.hid (show Z.length = nm from by rw [← HNM.out, ← s3, List.length_map])
            have HS1 := Lib.hid s1
            have HS2 := Lib.hid s2
            have HS3 := Lib.hid s3
            have HS5 := Lib.hid s5
            have HW := Lib.hid ((s4.below HB1.out).below HBL.out)
            rw [HLZ.out] at HW
            clear s1 s2 s3 s4 s5
            obtain ⟨i0, hi, hz0, hz1, hz2⟩ := info_parts7 info_mod
            have HNEW := Lib.hid (fun W => fresh_news W 39 (mzrow ⟨m, io, ic, ko, kc, ro, rc⟩))
            have HCEL := Lib.hid (show ∀ u ∈ mzrow ⟨m, io, ic, ko, kc, ro, rc⟩, u.oneCell' = true by intro u hu; simp [mzrow] at hu; rcases hu with rfl | rfl | rfl | rfl | rfl | rfl | rfl | rfl | rfl | rfl | rfl <;> rfl)
            have hnm5 : nm ≤ 5 := by have := HNM.out; have := HKL.out; omega
            go_wp2_with (first
              | (at_builtin; refine wpList_append_win _ rfl _ _ 23 rfl S 39 i0 _ 11 152 Try.underlying23 hi hz0 hz1 hz2 rfl (by decide) _ nm (Z.flatMap mzrow) rfl (HW.out.below ((Below.refl _ _).alloc (Nat.le_refl _) _)) ⟨w2.heap.size, 0, none⟩ 1 1 (mzrow ⟨m, io, ic, ko, kc, ro, rc⟩) rfl rfl (HNEW.out w2) HCEL.out (by unfold maxLen; omega) (by omega) ?_))
            intro v' w4 hw4 hb4
            have hblx : Below w2.heap.size w2 (w2.alloc (.cells #[.string m.nm, .slice io m.im.length ic, .bool m.wet, .int .i64 m.wa.op, .string m.wa.text, .int .u64 m.wa.s0, .int .u64 m.wa.s1, .int .u64 m.wa.s2, .int .u64 m.wa.s3, .slice ko m.wa.kids.length kc, .slice ro m.ru.length rc] 39)) := (Below.refl _ _).alloc (Nat.le_refl _) _
            have HMN := Lib.hid (show MB w4 w.heap.size v' (ML ++ [m]) from by
              rw [← HS3.out]
              exact MB.add (z := ⟨m, io, ic, ko, kc, ro, rc⟩) HB.out.size HS1.out HS2.out HS5.out HB1.out HMI.out (HBL.out.trans (hblx.mono HBL.out.size)) (by rw [HLZ.out]; exact hw4.mono (fun j _ h => by simpa using h)) hb4)
            have HB4 := Lib.hid ((HB2.out.trans (hblx.mono HB2.out.size)).trans (hb4.below (B := w.heap.size) (by have := HB2.out.size; have := hblx.size; omega) (fun j hs => (HS1.out j (.inr hs)).1)))
            obtain ⟨mo', mc', hv⟩ := HMN.out.form
            have HLN := Lib.hid (show (ML ++ [m]).length = nm + 1 from by rw [List.length_append, HNM.out]; rfl)
            rw [HLN.out] at hv
            subst hv
            clear hw4 hb4 hblx y0 y1 y2 y3 yl z0 z1 z2 z3 z4 z5 z6 z7 z8 z9 zA zl
            go_wp2
            go_roundw
            case rel => exact ⟨k + 1, ML ++ [m], mo', mc', by rw [HLN.out], by go_num, by omega, HSN, Lib.hid (by rw [HLN.out]; have := HNM.out; have := HKL.out; omega), by rw [HLN.out]; exact HMN, HB4⟩
            case measure => simp [intOf]; omega
    · have HE := Lib.hid (show RES = some ML from by rw [HS.out, List.drop_eq_nil_of_le (by have := HN.out; omega)]; unfold prsF; simp)
      have hlt' : decide ((k : Int) < n) = false := decide_eq_false hlt
      go_wp2
      go_ret2
      refine ⟨?_, HB.out⟩
      rw [HE.out]
      exact ⟨mo, mc, (by rw [HNM.out]; rfl), HM.out.has⟩
end Go.Proofs.Ytihcmneidbjmlaa
