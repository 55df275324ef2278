/- May it be a module: the reference's answer, walked over what was parsed. -/
import Derived.Test.YtbjgojdpfehnmaaJnE
namespace Go.Proofs.Ytbjgojdpfehnmaa
set_option linter.unusedVariables false
open Go.RowKit Go.Sort
theorem rgtM_q {m : Md} (hw : Wel m) (h4 : m.im.length ≤ 4) (h24 : m.ru.length ≤ 24) : rgtM m = (apartB m.nm [] m.im && (!m.wet || rightX 53 m.wa) && m.ru.all (fun r => rightX 53 r.2) && apartB ⟨#[]⟩ [] (m.ru.map (·.1))) := by
 unfold rgtM
 rw [hw.nm, decide_eq_true h4, decide_eq_true h24]
 simp
theorem rall_snoc {f : ByteArray × Ex → Bool} {K : List (ByteArray × Ex)} {k : Nat} {y : ByteArray × Ex} (h : K[k]? = some y) : (K.take (k + 1)).all f = ((K.take k).all f && f y) := by
 obtain ⟨h1, h2⟩ := List.getElem?_eq_some_iff.1 h
 rw [List.take_succ_eq_append_getElem h1, List.all_append, h2]
 simp
theorem rall_no {f : ByteArray × Ex → Bool} {K : List (ByteArray × Ex)} {k : Nat} {y : ByteArray × Ex} (h : K[k]? = some y) (hf : f y = false) : K.all f = false := by
 rw [List.all_eq_false]
 exact ⟨y, List.mem_of_getElem? h, by rw [hf]; simp⟩
set_option maxRecDepth 1000000 in
set_option maxHeartbeats 3200000 in
theorem rmright_any (m : Md) (D n : Nat) (io : Option Addr) (ic : Nat) (ko : Option Addr) (kc : Nat) (ro : Option Addr) (rc : Nat) (hw : Wel m) (h4 : m.im.length ≤ 4) (h24 : m.ru.length ≤ 24) (hic : m.im.length ≤ ic) (w : World) (hN : HasN w io m.im) (hK : HasK w 53 ko m.wa.kids) (hR : HasRu w D n ro m.ru) :
  Calls Try.prog 70 #[.agg #[.string m.nm, .slice io m.im.length ic, .bool m.wet, .int .i64 m.wa.op, .string m.wa.text, .int .u64 m.wa.s0, .int .u64 m.wa.s1, .int .u64 m.wa.s2, .int .u64 m.wa.s3, .slice ko m.wa.kids.length kc, .slice ro m.ru.length rc]] w fun e w' => e = .returned (.bool (rgtM m)) ∧ Below w.heap.size w w' := by
 have HRQ := Lib.hid (rgtM_q hw h4 h24)
 have HWD := Lib.hid (fun W => rword_is m.nm (by have := word_sz hw.nm; unfold maxLen; omega) true hw.nm W)
 have HAP := Lib.hid (fun W (hW : HasN W io m.im) => rapart_any m.im io ic m.nm (by omega) hic (fun x hx => by have := word_sz (hw.im x hx); omega) W hW)
 have HBO := Lib.hid hw.bo
 have HRWD := Lib.hid hw.ru
 have HWA := Lib.hid hw.wa
 have HDRY := Lib.hid hw.dry
 have H24 := Lib.hid h24
 obtain ⟨RES, hRES⟩ : ∃ z, rgtM m = z := ⟨_, rfl⟩
 rw [hRES] at HRQ
 rw [hRES]
 clear hRES
 obtain ⟨nm, im, wet, wa, ru⟩ := m
 simp only at HRQ HWD HAP HBO HRWD HWA HDRY H24 hN hK hR h4 h24 hic ⊢
 obtain ⟨B, hB⟩ : ∃ B, w.heap.size = B := ⟨_, rfl⟩
 have HBW := Lib.hid hB
 obtain ⟨ni, hni⟩ : ∃ z, im.length = z := ⟨_, rfl⟩
 obtain ⟨nr, hnr⟩ : ∃ z, ru.length = z := ⟨_, rfl⟩
 have HNR := Lib.hid hnr
 have HRU := Lib.hid hR
 have HN0 := Lib.hid hN
 have HK0 := Lib.hid hK
 have hni4 : (ni : Int) ≤ 4 := by omega
 have hnr24 : (nr : Int) ≤ 24 := by omega
 have hni4d : decide ((4 : Int) < (ni : Int)) = false := decide_eq_false (by omega)
 have hni4n : decide (4 < ni) = false := decide_eq_false (by omega)
 have hnr24d : decide ((24 : Int) < (nr : Int)) = false := decide_eq_false (by omega)
 have hnr24n : decide (24 < nr) = false := decide_eq_false (by omega)
 rw [hni] at HAP
 obtain ⟨za, hza⟩ : ∃ z, apartB nm [] im = z := ⟨_, rfl⟩
 rw [hza] at HAP HRQ
 clear hR hN hK h4 h24 hic hza hw
 cases wet with
 | true =>
  have HRT := Lib.hid (fun W (hW : HasK W 53 ko wa.kids) => rrightw_any 53 (by omega) wa ko kc W ⟨HWA.out.2, HWA.out.1⟩ hW)
  obtain ⟨zr, hzr⟩ : ∃ z, rightX 53 wa = z := ⟨_, rfl⟩
  rw [hzr] at HRT
  have HQ1 := Lib.hid (show RES = (za && (zr && (ru.all (fun r => rightX 53 r.2) && apartB ⟨#[]⟩ [] (ru.map (·.1))))) from by rw [HRQ.out, hzr]; simp [Bool.and_assoc])
  clear hzr
  rw [hni, hnr]
  clear hni hnr HRQ
  have HB1 := Lib.hid (show Below w.heap.size w (w.alloc (.cells #[.string nm, .slice io ni ic, .bool true, .int .i64 wa.op, .string wa.text, .int .u64 wa.s0, .int .u64 wa.s1, .int .u64 wa.s2, .int .u64 wa.s3, .slice ko wa.kids.length kc, .slice ro nr rc] 82)) from (Below.refl _ _).alloc (Nat.le_refl _) _)
  have HM1 := Lib.hid (Own.fresh w 82 [.string nm, .slice io ni ic, .bool true, .int .i64 wa.op, .string wa.text, .int .u64 wa.s0, .int .u64 wa.s1, .int .u64 wa.s2, .int .u64 wa.s3, .slice ko wa.kids.length kc, .slice ro nr rc])
  rw [hB] at HM1
  go_enter Try.func70, Try.ntmps70
  go_upto_region 1 with fail
  generalize w.alloc (.cells #[.string nm, .slice io ni ic, .bool true, .int .i64 wa.op, .string wa.text, .int .u64 wa.s0, .int .u64 wa.s1, .int .u64 wa.s2, .int .u64 wa.s3, .slice ko wa.kids.length kc, .slice ro nr rc] 82) = w1 at *
  try rw [hB]
  clear hB
  obtain ⟨m0, m1, m2, m3, m4, m5, m6, m7, m8, m9, mA⟩ := HM1.out.elev
  have ml := HM1.out.lt
  go_wp2_with fail
  refine (HWD.out _).mono ?_
  rintro e w2 ⟨rfl, rfl⟩
  go_wp2_with fail
  refine (HAP.out _ (HN0.out.below HB1.out)).mono ?_
  rintro e w2 ⟨rfl, hb2⟩
  have HB2 := Lib.hid (HB1.out.trans (hb2.mono HB1.out.size))
  have HM2 := Lib.hid (HM1.out.under hb2 HM1.out.lt)
  clear hb2 m0 m1 m2 m3 m4 m5 m6 m7 m8 m9 mA ml HB1 HM1
  obtain ⟨m0, m1, m2, m3, m4, m5, m6, m7, m8, m9, mA⟩ := HM2.out.elev
  have ml := HM2.out.lt
  cases za with
  | false =>
   have HE := Lib.hid (show RES = false from by rw [HQ1.out]; rfl)
   go_wp2
   go_ret
   rw [HE.out]
   exact ⟨rfl, HB2.out⟩
  | true =>
   go_wp2_with fail
   refine (HRT.out _ (HasK.below HB2.out HK0.out)).mono ?_
   rintro e w3 ⟨rfl, hb3⟩
   have HB3 := Lib.hid (HB2.out.trans (hb3.mono HB2.out.size))
   have HM3 := Lib.hid (HM2.out.under hb3 HM2.out.lt)
   clear hb3 m0 m1 m2 m3 m4 m5 m6 m7 m8 m9 mA ml HB2 HM2
   obtain ⟨m0, m1, m2, m3, m4, m5, m6, m7, m8, m9, mA⟩ := HM3.out.elev
   have ml := HM3.out.lt
   cases zr with
   | false =>
    have HE := Lib.hid (show RES = false from by rw [HQ1.out]; rfl)
    go_wp2
    go_ret
    rw [HE.out]
    exact ⟨rfl, HB3.out⟩
   | true =>
    have HQ := Lib.hid (show RES = (ru.all (fun r => rightX 53 r.2) && apartB ⟨#[]⟩ [] (ru.map (·.1))) from by rw [HQ1.out]; rfl)
    go_wp2_with fail
    go_loopw [3, 4] (fun v3 v4 wr => ∃ (k : Nat) (no : Option Addr) (nc : Nat) (S : Nat → Prop), v3 = .slice no k nc ∧ v4 = .int .i64 (k : Int) ∧ (k : Int) ≤ nr ∧ Hid ((ru.take k).all (fun r => rightX 53 r.2) = true) ∧ Hid (Below w.heap.size w wr) ∧ Hid (Own wr B 82 [.string nm, .slice io ni ic, .bool true, .int .i64 wa.op, .string wa.text, .int .u64 wa.s0, .int .u64 wa.s1, .int .u64 wa.s2, .int .u64 wa.s3, .slice ko wa.kids.length kc, .slice ro nr rc]) ∧ Hid (Win S 9 1 wr (.slice no k nc) k (((ru.take k).map (·.1)).map Value.string)) ∧ Hid (∀ b, S b → B < b)) (fun _ v4 _ => nr - (intOf v4).toNat)
    case atStart => exact ⟨0, none, 0, fun _ => False, rfl, rfl, by omega, Lib.hid rfl, HB3, HM3, Lib.hid (Win.nil _ _ _ _), Lib.hid (fun b h => h.elim)⟩
    case round =>
     obtain ⟨k, no, nc, S, rfl, rfl, hk, HA, HB, HM, HW, HS⟩ := hrel
     clear HB3 HM3
     have ma : wr.cell? ⟨B, 10, none⟩ = some (.slice ro nr rc) := HM.out.cell 10
     have ml := HM.out.lt
     by_cases hkr : (k : Int) < nr
     ·
      have hkr1 : decide ((k : Int) < nr) = true := decide_eq_true hkr
      have hkr2 : decide (k < nr) = true := decide_eq_true (by omega)
      obtain ⟨r, hr⟩ : ∃ r, ru[k]? = some r := ⟨_, List.getElem?_eq_getElem (by have := HNR.out; omega)⟩
      obtain ⟨rb, roff, yo, yc, hro, hrb, _, d0, d1, d2, d3, d4, d5, d6, d7, hky⟩ := HRU.out k r hr
      have HR := Lib.hid hr
      have HFW := Lib.hid (show Fw 53 r.2 from ⟨(HBO.out r (List.mem_of_getElem? hr)).2, (HBO.out r (List.mem_of_getElem? hr)).1⟩)
      have HKY := Lib.hid (show HasK w 53 yo r.2.kids from HasK.fit HFW.out.1 hky.hask)
      have hw1 : IntKind.i64.wrap ((k : Int) + 1) = (k : Int) + 1 := by rw [IntKind.wrap_i64]; omega
      have HT := Lib.hid (show (ru.take (k + 1)).map (·.1) = (ru.take k).map (·.1) ++ [r.1] from by
       obtain ⟨h1, h2⟩ := List.getElem?_eq_some_iff.1 hr
       rw [List.take_succ_eq_append_getElem h1, h2, List.map_append]; rfl)
      obtain ⟨z, hz⟩ : ∃ z, rightX 53 r.2 = z := ⟨_, rfl⟩
      have HZ := Lib.hid hz
      obtain ⟨i0, hi0, hz0, hz1, hz2⟩ := info_parts7 info_str
      have HNEW := Lib.hid (fun W => fresh_news W 9 [.string r.1])
      have HNO := Lib.hid (show ¬ S B from fun h => by have := HS.out B h; omega)
      have hk24 : k ≤ 24 := by have := H24.out; have := HNR.out; omega
      have e0 := keepc d0 HB.out
      have hrb2 : rb < wr.heap.size := Nat.lt_of_lt_of_le hrb HB.out.size
      subst hro
      obtain ⟨NL, hNL⟩ : ∃ z, ((ru.take k).map (·.1)).map Value.string = z := ⟨_, rfl⟩
      have HNL := Lib.hid hNL
      rw [hNL] at HW
      clear hNL
      have HD := Lib.hid (And.intro d1 (And.intro d2 (And.intro d3 (And.intro d4 (And.intro d5 (And.intro d6 d7))))))
      have HRBL := Lib.hid hrb
      clear hr d0 d1 d2 d3 d4 d5 d6 d7 hky hrb hz
      go_wp2_with (first
       | (at_builtin; refine wpList_append_win _ rfl _ _ 22 rfl S 9 i0 _ 1 16 Try.underlying22 hi0 hz0 hz1 hz2 rfl (by decide) _ k NL rfl (HW.out.below ((Below.refl _ _).alloc (Nat.le_refl _) _)) ⟨wr.heap.size, 0, none⟩ 1 1 [.string r.1] rfl rfl (HNEW.out wr) (by intro u hu; rw [List.mem_singleton.1 hu]; rfl) (by unfold maxLen; omega) (by omega) ?_))
      intro v' w5 hw5 hb5
      have hblx : Below wr.heap.size wr (wr.alloc (.cells #[.string r.1] 9)) := (Below.refl _ _).alloc (Nat.le_refl _) _
      have HB5 := Lib.hid ((HB.out.trans (hblx.mono HB.out.size)).trans (hb5.below (B := w.heap.size) (by have := HB.out.size; have := hblx.size; omega) (fun j hs => by have := HS.out j hs; have := HBW.out; omega)))
      have HM5 := Lib.hid ((HM.out.under hblx HM.out.lt).but hb5 HNO.out)
      have HW5 := Lib.hid (show Win (fun b => S b ∨ wr.heap.size + 1 ≤ b) 9 1 w5 v' (k + 1) (((ru.take (k + 1)).map (·.1)).map Value.string) from by
       rw [HT.out, List.map_append, HNL.out]
       refine hw5.mono (fun j _ h => ?_)
       rcases h with h | h
       ·
        exact .inl h
       ·
        exact .inr (by first | exact h | simpa using h))
      have HS5 := Lib.hid (fun b (h : S b ∨ wr.heap.size + 1 ≤ b) => show B < b from by
       rcases h with h | h
       ·
        exact HS.out b h
       ·
        omega)
      obtain ⟨no', nc', hv, -⟩ := HW5.out.form
      subst hv
      obtain ⟨d1, d2, d3, d4, d5, d6, d7⟩ := HD.out
      have f1 := keepc d1 HB5.out
      have f2 := keepc d2 HB5.out
      have f3 := keepc d3 HB5.out
      have f4 := keepc d4 HB5.out
      have f5 := keepc d5 HB5.out
      have f6 := keepc d6 HB5.out
      have f7 := keepc d7 HB5.out
      have mb : w5.cell? ⟨B, 10, none⟩ = some (.slice (some ⟨rb, roff, none⟩) nr rc) := HM5.out.cell 10
      have hrb5 : rb < w5.heap.size := Nat.lt_of_lt_of_le HRBL.out HB5.out.size
      have ml5 := HM5.out.lt
      have HRY := Lib.hid (rrightw_any 53 (by omega) r.2 yo yc w5 HFW.out (HasK.below HB5.out HKY.out))
      rw [HZ.out] at HRY
      clear hw5 hb5 hblx d1 d2 d3 d4 d5 d6 d7 e0 hrb2 ma ml HD
      go_wp2_with fail
      refine HRY.out.mono ?_
      rintro e w6 ⟨rfl, hb6⟩
      have HB6 := Lib.hid (HB5.out.trans (hb6.mono HB5.out.size))
      have HM6 := Lib.hid (HM5.out.under hb6 HM5.out.lt)
      have HW6 := Lib.hid (HW5.out.below hb6)
      clear hb6 f1 f2 f3 f4 f5 f6 f7 mb hrb5 ml5 HRY HB5 HM5 HW5
      cases z with
      | false =>
       have HE := Lib.hid (show RES = false from by rw [HQ.out, rall_no HR.out HZ.out]; rfl)
       go_wp2
       go_ret
       rw [HE.out]
       exact ⟨rfl, HB6.out⟩
      | true =>
       have HA6 := Lib.hid (show (ru.take (k + 1)).all (fun r => rightX 53 r.2) = true from by rw [rall_snoc HR.out, HA.out, HZ.out]; rfl)
       go_wp2
       go_roundw
       case rel => exact ⟨k + 1, no', nc', _, rfl, by go_num, by omega, HA6, HB6, HM6, HW6, HS5⟩
       case measure => simp [intOf]; omega
     ·
      have hkr1 : decide ((k : Int) < nr) = false := decide_eq_false hkr
      have hkr2 : decide (k < nr) = false := decide_eq_false (by omega)
      have HTK := Lib.hid (show ru.take k = ru from List.take_of_length_le (by have := HNR.out; omega))
      have HE := Lib.hid (show RES = apartB ⟨#[]⟩ [] ((ru.take k).map (·.1)) from by
       have q := HA.out
       rw [HTK.out] at q ⊢
       rw [HQ.out, q]; rfl)
      have hlk : ((ru.take k).map (·.1)).length = k := by rw [List.length_map, HTK.out]; have := HNR.out; omega
      have hnc : k ≤ nc := by
       obtain ⟨ao, cap, e1, h1, -⟩ := HW.out.form
       injection e1 with e1 e2 e3
       omega
      have HAX := Lib.hid (rapart_any ((ru.take k).map (·.1)) no nc ⟨#[]⟩ (by have := H24.out; have := HNR.out; omega) (by omega) (fun x hx => by
       obtain ⟨r, hr, rfl⟩ := List.mem_map.1 hx
       have := word_sz (HRWD.out r (List.mem_of_mem_take hr))
       omega) wr (hasN_of HW.out))
      rw [hlk] at HAX
      generalize (ru.take k).map (·.1) = NM at *
      clear hlk hnc
      go_wp2_with fail
      refine HAX.out.mono ?_
      rintro e w6 ⟨rfl, hb6⟩
      go_wp2
      go_ret
      rw [HE.out]
      exact ⟨rfl, HB.out.trans (hb6.mono HB.out.size)⟩
 | false =>
  obtain rfl : wa = ex0 := HDRY.out rfl
  have HQ1 := Lib.hid (show RES = (za && (ru.all (fun r => rightX 53 r.2) && apartB ⟨#[]⟩ [] (ru.map (·.1)))) from by rw [HRQ.out]; simp [Bool.and_assoc])
  show Calls Try.prog 70 #[.agg #[.string nm, .slice io im.length ic, .bool false, .int .i64 0, .string ⟨#[]⟩, .int .u64 0, .int .u64 0, .int .u64 0, .int .u64 0, .slice ko 0 kc, .slice ro ru.length rc]] w _
  rw [hni, hnr]
  clear hni hnr HRQ
  have HB1 := Lib.hid (show Below w.heap.size w (w.alloc (.cells #[.string nm, .slice io ni ic, .bool false, .int .i64 0, .string ⟨#[]⟩, .int .u64 0, .int .u64 0, .int .u64 0, .int .u64 0, .slice ko 0 kc, .slice ro nr rc] 82)) from (Below.refl _ _).alloc (Nat.le_refl _) _)
  have HM1 := Lib.hid (Own.fresh w 82 [.string nm, .slice io ni ic, .bool false, .int .i64 0, .string ⟨#[]⟩, .int .u64 0, .int .u64 0, .int .u64 0, .int .u64 0, .slice ko 0 kc, .slice ro nr rc])
  rw [hB] at HM1
  go_enter Try.func70, Try.ntmps70
  go_upto_region 1 with fail
  generalize w.alloc (.cells #[.string nm, .slice io ni ic, .bool false, .int .i64 0, .string ⟨#[]⟩, .int .u64 0, .int .u64 0, .int .u64 0, .int .u64 0, .slice ko 0 kc, .slice ro nr rc] 82) = w1 at *
  try rw [hB]
  clear hB
  obtain ⟨m0, m1, m2, m3, m4, m5, m6, m7, m8, m9, mA⟩ := HM1.out.elev
  have ml := HM1.out.lt
  go_wp2_with fail
  refine (HWD.out _).mono ?_
  rintro e w2 ⟨rfl, rfl⟩
  go_wp2_with fail
  refine (HAP.out _ (HN0.out.below HB1.out)).mono ?_
  rintro e w2 ⟨rfl, hb2⟩
  have HB2 := Lib.hid (HB1.out.trans (hb2.mono HB1.out.size))
  have HM2 := Lib.hid (HM1.out.under hb2 HM1.out.lt)
  clear hb2 m0 m1 m2 m3 m4 m5 m6 m7 m8 m9 mA ml HB1 HM1
  obtain ⟨m0, m1, m2, m3, m4, m5, m6, m7, m8, m9, mA⟩ := HM2.out.elev
  have ml := HM2.out.lt
  cases za with
  | false =>
   have HE := Lib.hid (show RES = false from by rw [HQ1.out]; rfl)
   go_wp2
   go_ret
   rw [HE.out]
   exact ⟨rfl, HB2.out⟩
  | true =>
   have HQ := Lib.hid (show RES = (ru.all (fun r => rightX 53 r.2) && apartB ⟨#[]⟩ [] (ru.map (·.1))) from by rw [HQ1.out]; rfl)
   go_wp2_with fail
   refine (rsame0_any ko kc _).mono ?_
   rintro e w3 ⟨rfl, hb3⟩
   have HB3 := Lib.hid (HB2.out.trans (hb3.mono HB2.out.size))
   have HM3 := Lib.hid (HM2.out.under hb3 HM2.out.lt)
   clear hb3 m0 m1 m2 m3 m4 m5 m6 m7 m8 m9 mA ml HB2 HM2
   go_wp2_with fail
   go_loopw [3, 4] (fun v3 v4 wr => ∃ (k : Nat) (no : Option Addr) (nc : Nat) (S : Nat → Prop), v3 = .slice no k nc ∧ v4 = .int .i64 (k : Int) ∧ (k : Int) ≤ nr ∧ Hid ((ru.take k).all (fun r => rightX 53 r.2) = true) ∧ Hid (Below w.heap.size w wr) ∧ Hid (Own wr B 82 [.string nm, .slice io ni ic, .bool false, .int .i64 0, .string ⟨#[]⟩, .int .u64 0, .int .u64 0, .int .u64 0, .int .u64 0, .slice ko 0 kc, .slice ro nr rc]) ∧ Hid (Win S 9 1 wr (.slice no k nc) k (((ru.take k).map (·.1)).map Value.string)) ∧ Hid (∀ b, S b → B < b)) (fun _ v4 _ => nr - (intOf v4).toNat)
   case atStart => exact ⟨0, none, 0, fun _ => False, rfl, rfl, by omega, Lib.hid rfl, HB3, HM3, Lib.hid (Win.nil _ _ _ _), Lib.hid (fun b h => h.elim)⟩
   case round =>
    obtain ⟨k, no, nc, S, rfl, rfl, hk, HA, HB, HM, HW, HS⟩ := hrel
    clear HB3 HM3
    have ma : wr.cell? ⟨B, 10, none⟩ = some (.slice ro nr rc) := HM.out.cell 10
    have ml := HM.out.lt
    by_cases hkr : (k : Int) < nr
    ·
     have hkr1 : decide ((k : Int) < nr) = true := decide_eq_true hkr
     have hkr2 : decide (k < nr) = true := decide_eq_true (by omega)
     obtain ⟨r, hr⟩ : ∃ r, ru[k]? = some r := ⟨_, List.getElem?_eq_getElem (by have := HNR.out; omega)⟩
     obtain ⟨rb, roff, yo, yc, hro, hrb, _, d0, d1, d2, d3, d4, d5, d6, d7, hky⟩ := HRU.out k r hr
     have HR := Lib.hid hr
     have HFW := Lib.hid (show Fw 53 r.2 from ⟨(HBO.out r (List.mem_of_getElem? hr)).2, (HBO.out r (List.mem_of_getElem? hr)).1⟩)
     have HKY := Lib.hid (show HasK w 53 yo r.2.kids from HasK.fit HFW.out.1 hky.hask)
     have hw1 : IntKind.i64.wrap ((k : Int) + 1) = (k : Int) + 1 := by rw [IntKind.wrap_i64]; omega
     have HT := Lib.hid (show (ru.take (k + 1)).map (·.1) = (ru.take k).map (·.1) ++ [r.1] from by
      obtain ⟨h1, h2⟩ := List.getElem?_eq_some_iff.1 hr
      rw [List.take_succ_eq_append_getElem h1, h2, List.map_append]; rfl)
     obtain ⟨z, hz⟩ : ∃ z, rightX 53 r.2 = z := ⟨_, rfl⟩
     have HZ := Lib.hid hz
     obtain ⟨i0, hi0, hz0, hz1, hz2⟩ := info_parts7 info_str
     have HNEW := Lib.hid (fun W => fresh_news W 9 [.string r.1])
     have HNO := Lib.hid (show ¬ S B from fun h => by have := HS.out B h; omega)
     have hk24 : k ≤ 24 := by have := H24.out; have := HNR.out; omega
     have e0 := keepc d0 HB.out
     have hrb2 : rb < wr.heap.size := Nat.lt_of_lt_of_le hrb HB.out.size
     subst hro
     obtain ⟨NL, hNL⟩ : ∃ z, ((ru.take k).map (·.1)).map Value.string = z := ⟨_, rfl⟩
     have HNL := Lib.hid hNL
     rw [hNL] at HW
     clear hNL
     have HD := Lib.hid (And.intro d1 (And.intro d2 (And.intro d3 (And.intro d4 (And.intro d5 (And.intro d6 d7))))))
     have HRBL := Lib.hid hrb
     clear hr d0 d1 d2 d3 d4 d5 d6 d7 hky hrb hz
     go_wp2_with (first
      | (at_builtin; refine wpList_append_win _ rfl _ _ 22 rfl S 9 i0 _ 1 16 Try.underlying22 hi0 hz0 hz1 hz2 rfl (by decide) _ k NL rfl (HW.out.below ((Below.refl _ _).alloc (Nat.le_refl _) _)) ⟨wr.heap.size, 0, none⟩ 1 1 [.string r.1] rfl rfl (HNEW.out wr) (by intro u hu; rw [List.mem_singleton.1 hu]; rfl) (by unfold maxLen; omega) (by omega) ?_))
     intro v' w5 hw5 hb5
     have hblx : Below wr.heap.size wr (wr.alloc (.cells #[.string r.1] 9)) := (Below.refl _ _).alloc (Nat.le_refl _) _
     have HB5 := Lib.hid ((HB.out.trans (hblx.mono HB.out.size)).trans (hb5.below (B := w.heap.size) (by have := HB.out.size; have := hblx.size; omega) (fun j hs => by have := HS.out j hs; have := HBW.out; omega)))
     have HM5 := Lib.hid ((HM.out.under hblx HM.out.lt).but hb5 HNO.out)
     have HW5 := Lib.hid (show Win (fun b => S b ∨ wr.heap.size + 1 ≤ b) 9 1 w5 v' (k + 1) (((ru.take (k + 1)).map (·.1)).map Value.string) from by
      rw [HT.out, List.map_append, HNL.out]
      refine hw5.mono (fun j _ h => ?_)
      rcases h with h | h
      ·
       exact .inl h
      ·
       exact .inr (by first | exact h | simpa using h))
     have HS5 := Lib.hid (fun b (h : S b ∨ wr.heap.size + 1 ≤ b) => show B < b from by
      rcases h with h | h
      ·
       exact HS.out b h
      ·
       omega)
     obtain ⟨no', nc', hv, -⟩ := HW5.out.form
     subst hv
     obtain ⟨d1, d2, d3, d4, d5, d6, d7⟩ := HD.out
     have f1 := keepc d1 HB5.out
     have f2 := keepc d2 HB5.out
     have f3 := keepc d3 HB5.out
     have f4 := keepc d4 HB5.out
     have f5 := keepc d5 HB5.out
     have f6 := keepc d6 HB5.out
     have f7 := keepc d7 HB5.out
     have mb : w5.cell? ⟨B, 10, none⟩ = some (.slice (some ⟨rb, roff, none⟩) nr rc) := HM5.out.cell 10
     have hrb5 : rb < w5.heap.size := Nat.lt_of_lt_of_le HRBL.out HB5.out.size
     have ml5 := HM5.out.lt
     have HRY := Lib.hid (rrightw_any 53 (by omega) r.2 yo yc w5 HFW.out (HasK.below HB5.out HKY.out))
     rw [HZ.out] at HRY
     clear hw5 hb5 hblx d1 d2 d3 d4 d5 d6 d7 e0 hrb2 ma ml HD
     go_wp2_with fail
     refine HRY.out.mono ?_
     rintro e w6 ⟨rfl, hb6⟩
     have HB6 := Lib.hid (HB5.out.trans (hb6.mono HB5.out.size))
     have HM6 := Lib.hid (HM5.out.under hb6 HM5.out.lt)
     have HW6 := Lib.hid (HW5.out.below hb6)
     clear hb6 f1 f2 f3 f4 f5 f6 f7 mb hrb5 ml5 HRY HB5 HM5 HW5
     cases z with
     | false =>
      have HE := Lib.hid (show RES = false from by rw [HQ.out, rall_no HR.out HZ.out]; rfl)
      go_wp2
      go_ret
      rw [HE.out]
      exact ⟨rfl, HB6.out⟩
     | true =>
      have HA6 := Lib.hid (show (ru.take (k + 1)).all (fun r => rightX 53 r.2) = true from by rw [rall_snoc HR.out, HA.out, HZ.out]; rfl)
      go_wp2
      go_roundw
      case rel => exact ⟨k + 1, no', nc', _, rfl, by go_num, by omega, HA6, HB6, HM6, HW6, HS5⟩
      case measure => simp [intOf]; omega
    ·
     have hkr1 : decide ((k : Int) < nr) = false := decide_eq_false hkr
     have hkr2 : decide (k < nr) = false := decide_eq_false (by omega)
     have HTK := Lib.hid (show ru.take k = ru from List.take_of_length_le (by have := HNR.out; omega))
     have HE := Lib.hid (show RES = apartB ⟨#[]⟩ [] ((ru.take k).map (·.1)) from by
      have q := HA.out
      rw [HTK.out] at q ⊢
      rw [HQ.out, q]; rfl)
     have hlk : ((ru.take k).map (·.1)).length = k := by rw [List.length_map, HTK.out]; have := HNR.out; omega
     have hnc : k ≤ nc := by
      obtain ⟨ao, cap, e1, h1, -⟩ := HW.out.form
      injection e1 with e1 e2 e3
      omega
     have HAX := Lib.hid (rapart_any ((ru.take k).map (·.1)) no nc ⟨#[]⟩ (by have := H24.out; have := HNR.out; omega) (by omega) (fun x hx => by
      obtain ⟨r, hr, rfl⟩ := List.mem_map.1 hx
      have := word_sz (HRWD.out r (List.mem_of_mem_take hr))
      omega) wr (hasN_of HW.out))
     rw [hlk] at HAX
     generalize (ru.take k).map (·.1) = NM at *
     clear hlk hnc
     go_wp2_with fail
     refine HAX.out.mono ?_
     rintro e w6 ⟨rfl, hb6⟩
     go_wp2
     go_ret
     rw [HE.out]
     exact ⟨rfl, HB.out.trans (hb6.mono HB.out.size)⟩
end Go.Proofs.Ytbjgojdpfehnmaa
