import Derived.Test.YtbjgojdpfehnmaaIk
import Derived.Test.YtbjgojdpfehnmaaShG
import Derived.Test.YtbjgojdpfehnmaaMd
namespace Go.Proofs.Ytbjgojdpfehnmaa
set_option linter.unusedVariables false
set_option maxHeartbeats 3200000
set_option maxRecDepth 1000000
open Go.RowKit Go.Sort
theorem mini_n9 : nextG miniG 9 = [11] := by kernel_rfl
theorem mini_n8 : nextG miniG 8 = [] := by kernel_rfl
theorem mini_n11 : nextG miniG 11 = [11] := by kernel_rfl
theorem mini_n12 : nextG miniG 12 = [14] := by kernel_rfl
theorem mini_n21 : nextG miniG 21 = [14] := by kernel_rfl
theorem mini_n22 : nextG miniG 22 = [14, 22] := by kernel_rfl
theorem mini_n14 : nextG miniG 14 = [16, 20] := by kernel_rfl
theorem mini_n18 : nextG miniG 18 = [] := by kernel_rfl
theorem mini14_any (w : World) : Calls Try.prog 37 #[] w fun e w' => (∃ b, e = .returned (.slice (some ⟨b, 0, none⟩) 2 2) ∧ HasN w' (some ⟨b, 0, none⟩) miniL) ∧ Below w.heap.size w w' := by
 have HO := aH (Own.fresh w 9 (miniL.map Value.string))
 have HB := aH (show Below w.heap.size w (w.alloc (.cells (miniL.map Value.string).toArray 9)) from bA _)
 go_enter Try.func37, Try.ntmps37
 go_wp2
 go_ret
 refine ⟨⟨w.heap.size, rfl, ?_⟩, HB.o⟩
 exact hasN_of (S := fun b => b = w.heap.size) (n := 2) (c := 2) (l := miniL) ⟨rfl, .inr ⟨w.heap.size, 0, 2, _, rfl, rfl, HO.o, Nat.le_refl _, by unfold maxLen; omega, by simp [miniL], by simp [miniL]⟩⟩
theorem awake14_any (w : World) : Calls Try.prog 19 #[] w fun e w' => e = .returned (.bool true) ∧ Below w.heap.size w w' := by
 have HMI := aH (mini14_any w)
 have HJD := aH (fun (bb : Nat) W (hW : HasN W (some ⟨bb, 0, none⟩) miniL) => show Calls Try.prog 18 #[.slice (some ⟨bb, 0, none⟩) 2 2, .string ⟨#[109, 97, 105, 110]⟩] W fun e w' => (∃ a, e = .returned (.tuple #[grv miniG a, .bool true]) ∧ HasG w' miniG a) ∧ Below W.heap.size W w' from by
  have q := joined14_any miniL (some ⟨bb, 0, none⟩) 2 ⟨#[109, 97, 105, 110]⟩ W hW
  rw [mini_jnd] at q
  exact q)
 go_enter Try.func19, Try.ntmps19
 go_wp2_with fail
 refine HMI.o.mono ?_
 rintro e w1 ⟨⟨bb, rfl, hn⟩, hb1⟩
 have HB1 := aH hb1
 clear hb1
 go_wp2_with fail
 refine (HJD.o bb w1 hn).mono ?_
 rintro e w2 ⟨⟨a, he, hG⟩, hb2⟩
 have HB2 := aH (HB1.o.trans (hb2.mono HB1.o.size))
 have HG2 := aH hG
 subst he
 clear hn hb2 hG HMI HJD HB1
 have HN := aH (fun W (h : HasG W miniG a) => snext_any miniG a mini_good (jnd_ar mini_jnd) W h)
 unfold NxE at HN
 unfold grv
 unfold grv at HN
 obtain ⟨nh, hnh⟩ : ∃ z, miniG.hs.length = z := ⟨_, rfl⟩
 obtain ⟨nms, hnms⟩ : ∃ z, miniG.ms.length = z := ⟨_, rfl⟩
 obtain ⟨nw, hnw⟩ : ∃ z, miniG.ws.length = z := ⟨_, rfl⟩
 obtain ⟨st, hst⟩ : ∃ z, miniG.st = z := ⟨_, rfl⟩
 rw [miniG_len, hnh, hnms, hnw, hst]
 rw [miniG_len, hnh, hnms, hnw, hst] at HN
 clear hnh hnms hnw hst
 have hbl : Below w2.heap.size w2 (w2.alloc (.cells #[.slice a.mo nms a.mc, .slice a.no 23 a.nc, .slice a.ho nh a.hc, .slice a.wo nw a.wc, .int .i64 st] 27)) := bA _
 have HB3 := aH (HB2.o.trans (hbl.mono HB2.o.size))
 have HG3 := aH (HG2.o.below hbl)
 have HO3 := aH (Own.fresh w2 27 [.slice a.mo nms a.mc, .slice a.no 23 a.nc, .slice a.ho nh a.hc, .slice a.wo nw a.wc, .int .i64 st])
 clear hbl
 go_upto_region 2 with fail
 obtain ⟨B, hB⟩ : ∃ B, w2.heap.size = B := ⟨_, rfl⟩
 rw [hB] at HO3
 generalize w2.alloc (.cells #[.slice a.mo nms a.mc, .slice a.no 23 a.nc, .slice a.ho nh a.hc, .slice a.wo nw a.wc, .int .i64 st] 27) = w3 at *
 try rw [hB]
 clear hB HB2 HG2
 have g0 : w3.cell? ⟨B, 0, none⟩ = some (.slice a.mo nms a.mc) := HO3.o.cell 0
 have g1 : w3.cell? ⟨B, 1, none⟩ = some (.slice a.no 23 a.nc) := HO3.o.cell 1
 have g2 : w3.cell? ⟨B, 2, none⟩ = some (.slice a.ho nh a.hc) := HO3.o.cell 2
 have g3 : w3.cell? ⟨B, 3, none⟩ = some (.slice a.wo nw a.wc) := HO3.o.cell 3
 have g4 : w3.cell? ⟨B, 4, none⟩ = some (.int .i64 st) := HO3.o.cell 4
 have gl := HO3.o.lt
 go_wp2_with fail
 refine (HN.o w3 HG3.o).mono ?_
 rintro e w4 ⟨q, rfl, ⟨V, hV1, hV2⟩, hg, hb4⟩
 have HL4 := aH hb4
 have ql := hV1.lt
 obtain ⟨o9, c9, e9, hI9⟩ : ∃ o c, V 9 = .slice o 1 c ∧ IntsAt w4 w3.heap.size (.slice o 1 c) [11] := by
  have h := hV2 9 (by decide)
  rw [mini_n9] at h
  obtain ⟨ao, c, e, -⟩ := id h
  rw [e] at h
  exact ⟨ao, c, e, h⟩
 have I9 := aH hI9
 have l9 : w4.cell? ⟨q, 9, none⟩ = some (.slice o9 1 c9) := by rw [hV1.cell 9, List.getElem?_map, List.getElem?_range (by decide)]; exact congrArg some e9
 clear e9 hI9
 obtain ⟨o8, c8, e8, hI8⟩ : ∃ o c, V 8 = .slice o 0 c ∧ IntsAt w4 w3.heap.size (.slice o 0 c) [] := by
  have h := hV2 8 (by decide)
  rw [mini_n8] at h
  obtain ⟨ao, c, e, -⟩ := id h
  rw [e] at h
  exact ⟨ao, c, e, h⟩
 have I8 := aH hI8
 have l8 : w4.cell? ⟨q, 8, none⟩ = some (.slice o8 0 c8) := by rw [hV1.cell 8, List.getElem?_map, List.getElem?_range (by decide)]; exact congrArg some e8
 clear e8 hI8
 obtain ⟨o11, c11, e11, hI11⟩ : ∃ o c, V 11 = .slice o 1 c ∧ IntsAt w4 w3.heap.size (.slice o 1 c) [11] := by
  have h := hV2 11 (by decide)
  rw [mini_n11] at h
  obtain ⟨ao, c, e, -⟩ := id h
  rw [e] at h
  exact ⟨ao, c, e, h⟩
 have I11 := aH hI11
 have l11 : w4.cell? ⟨q, 11, none⟩ = some (.slice o11 1 c11) := by rw [hV1.cell 11, List.getElem?_map, List.getElem?_range (by decide)]; exact congrArg some e11
 clear e11 hI11
 obtain ⟨o12, c12, e12, hI12⟩ : ∃ o c, V 12 = .slice o 1 c ∧ IntsAt w4 w3.heap.size (.slice o 1 c) [14] := by
  have h := hV2 12 (by decide)
  rw [mini_n12] at h
  obtain ⟨ao, c, e, -⟩ := id h
  rw [e] at h
  exact ⟨ao, c, e, h⟩
 have I12 := aH hI12
 have l12 : w4.cell? ⟨q, 12, none⟩ = some (.slice o12 1 c12) := by rw [hV1.cell 12, List.getElem?_map, List.getElem?_range (by decide)]; exact congrArg some e12
 clear e12 hI12
 obtain ⟨o21, c21, e21, hI21⟩ : ∃ o c, V 21 = .slice o 1 c ∧ IntsAt w4 w3.heap.size (.slice o 1 c) [14] := by
  have h := hV2 21 (by decide)
  rw [mini_n21] at h
  obtain ⟨ao, c, e, -⟩ := id h
  rw [e] at h
  exact ⟨ao, c, e, h⟩
 have I21 := aH hI21
 have l21 : w4.cell? ⟨q, 21, none⟩ = some (.slice o21 1 c21) := by rw [hV1.cell 21, List.getElem?_map, List.getElem?_range (by decide)]; exact congrArg some e21
 clear e21 hI21
 obtain ⟨o22, c22, e22, hI22⟩ : ∃ o c, V 22 = .slice o 2 c ∧ IntsAt w4 w3.heap.size (.slice o 2 c) [14, 22] := by
  have h := hV2 22 (by decide)
  rw [mini_n22] at h
  obtain ⟨ao, c, e, -⟩ := id h
  rw [e] at h
  exact ⟨ao, c, e, h⟩
 have I22 := aH hI22
 have l22 : w4.cell? ⟨q, 22, none⟩ = some (.slice o22 2 c22) := by rw [hV1.cell 22, List.getElem?_map, List.getElem?_range (by decide)]; exact congrArg some e22
 clear e22 hI22
 obtain ⟨o14, c14, e14, hI14⟩ : ∃ o c, V 14 = .slice o 2 c ∧ IntsAt w4 w3.heap.size (.slice o 2 c) [16, 20] := by
  have h := hV2 14 (by decide)
  rw [mini_n14] at h
  obtain ⟨ao, c, e, -⟩ := id h
  rw [e] at h
  exact ⟨ao, c, e, h⟩
 have I14 := aH hI14
 have l14 : w4.cell? ⟨q, 14, none⟩ = some (.slice o14 2 c14) := by rw [hV1.cell 14, List.getElem?_map, List.getElem?_range (by decide)]; exact congrArg some e14
 clear e14 hI14
 obtain ⟨o18, c18, e18, hI18⟩ : ∃ o c, V 18 = .slice o 0 c ∧ IntsAt w4 w3.heap.size (.slice o 0 c) [] := by
  have h := hV2 18 (by decide)
  rw [mini_n18] at h
  obtain ⟨ao, c, e, -⟩ := id h
  rw [e] at h
  exact ⟨ao, c, e, h⟩
 have I18 := aH hI18
 have l18 : w4.cell? ⟨q, 18, none⟩ = some (.slice o18 0 c18) := by rw [hV1.cell 18, List.getElem?_map, List.getElem?_range (by decide)]; exact congrArg some e18
 clear e18 hI18
 have HLS := aH (show w4.cell? ⟨q, 9, none⟩ = some (.slice o9 1 c9) ∧ w4.cell? ⟨q, 8, none⟩ = some (.slice o8 0 c8) ∧ w4.cell? ⟨q, 11, none⟩ = some (.slice o11 1 c11) ∧ w4.cell? ⟨q, 12, none⟩ = some (.slice o12 1 c12) ∧ w4.cell? ⟨q, 21, none⟩ = some (.slice o21 1 c21) ∧ w4.cell? ⟨q, 22, none⟩ = some (.slice o22 2 c22) ∧ w4.cell? ⟨q, 14, none⟩ = some (.slice o14 2 c14) ∧ w4.cell? ⟨q, 18, none⟩ = some (.slice o18 0 c18) ∧ q < w4.heap.size from ⟨l9, l8, l11, l12, l21, l22, l14, l18, ql⟩)
 clear hb4 hg hV1 hV2 g0 g1 g2 g3 g4 gl HN l9 l8 l11 l12 l21 l22 l14 l18 ql
 have HW := aH (Below.refl w4.heap.size w4)
 have l9 := keepc (HLS.o.1) HW.o
 have ql := aL (HLS.o.2.2.2.2.2.2.2.2) HW.o.size
 have hba : Below w4.heap.size w4 (w4.alloc (.cells #[.int .i64 11] 3)) := bA _
 have hI2 := (I9.o.below HW.o).below hba
 have hI3 : IntsAt (w4.alloc (.cells #[.int .i64 11] 3)) w4.heap.size (.slice (some ⟨w4.heap.size, 0, none⟩) 1 1) [11] := IntsAt.new w4 [11]
 have HIQ := aH (intsat_any _ _ [11] _ _ (by simp) _ hI2 hI3)
 have HBA := aH (HW.o.trans (hba.mono HW.o.size))
 clear hba hI2 hI3
 go_wp2_with fail
 refine HIQ.o.mono ?_
 rintro e w5 ⟨he, hb⟩
 subst he
 have Hw5 := aH (HBA.o.trans (hb.mono HBA.o.size))
 clear hb HIQ HBA ql l9
 have l8 := keepc (HLS.o.2.1) Hw5.o
 have l11 := keepc (HLS.o.2.2.1) Hw5.o
 have ql := aL (HLS.o.2.2.2.2.2.2.2.2) Hw5.o.size
 have hba : Below w5.heap.size w5 (w5.alloc (.cells #[.int .i64 11] 3)) := bA _
 have hI2 := (I11.o.below Hw5.o).below hba
 have hI3 : IntsAt (w5.alloc (.cells #[.int .i64 11] 3)) w5.heap.size (.slice (some ⟨w5.heap.size, 0, none⟩) 1 1) [11] := IntsAt.new w5 [11]
 have HIQ := aH (intsat_any _ _ [11] _ _ (by simp) _ hI2 hI3)
 have HBA := aH (Hw5.o.trans (hba.mono Hw5.o.size))
 clear hba hI2 hI3
 go_wp2_with fail
 refine HIQ.o.mono ?_
 rintro e w6 ⟨he, hb⟩
 subst he
 have Hw6 := aH (HBA.o.trans (hb.mono HBA.o.size))
 clear hb HIQ HBA ql l8 l11
 have l12 := keepc (HLS.o.2.2.2.1) Hw6.o
 have ql := aL (HLS.o.2.2.2.2.2.2.2.2) Hw6.o.size
 have hba : Below w6.heap.size w6 (w6.alloc (.cells #[.int .i64 14] 3)) := bA _
 have hI2 := (I12.o.below Hw6.o).below hba
 have hI3 : IntsAt (w6.alloc (.cells #[.int .i64 14] 3)) w6.heap.size (.slice (some ⟨w6.heap.size, 0, none⟩) 1 1) [14] := IntsAt.new w6 [14]
 have HIQ := aH (intsat_any _ _ [14] _ _ (by simp) _ hI2 hI3)
 have HBA := aH (Hw6.o.trans (hba.mono Hw6.o.size))
 clear hba hI2 hI3
 go_wp2_with fail
 refine HIQ.o.mono ?_
 rintro e w7 ⟨he, hb⟩
 subst he
 have Hw7 := aH (HBA.o.trans (hb.mono HBA.o.size))
 clear hb HIQ HBA ql l12
 have l21 := keepc (HLS.o.2.2.2.2.1) Hw7.o
 have ql := aL (HLS.o.2.2.2.2.2.2.2.2) Hw7.o.size
 have hba : Below w7.heap.size w7 (w7.alloc (.cells #[.int .i64 14] 3)) := bA _
 have hI2 := (I21.o.below Hw7.o).below hba
 have hI3 : IntsAt (w7.alloc (.cells #[.int .i64 14] 3)) w7.heap.size (.slice (some ⟨w7.heap.size, 0, none⟩) 1 1) [14] := IntsAt.new w7 [14]
 have HIQ := aH (intsat_any _ _ [14] _ _ (by simp) _ hI2 hI3)
 have HBA := aH (Hw7.o.trans (hba.mono Hw7.o.size))
 clear hba hI2 hI3
 go_wp2_with fail
 refine HIQ.o.mono ?_
 rintro e w8 ⟨he, hb⟩
 subst he
 have Hw8 := aH (HBA.o.trans (hb.mono HBA.o.size))
 clear hb HIQ HBA ql l21
 have l22 := keepc (HLS.o.2.2.2.2.2.1) Hw8.o
 have ql := aL (HLS.o.2.2.2.2.2.2.2.2) Hw8.o.size
 have hba : Below w8.heap.size w8 (w8.alloc (.cells #[.int .i64 14, .int .i64 22] 3)) := bA _
 have hI2 := (I22.o.below Hw8.o).below hba
 have hI3 : IntsAt (w8.alloc (.cells #[.int .i64 14, .int .i64 22] 3)) w8.heap.size (.slice (some ⟨w8.heap.size, 0, none⟩) 2 2) [14, 22] := IntsAt.new w8 [14, 22]
 have HIQ := aH (intsat_any _ _ [14, 22] _ _ (by simp) _ hI2 hI3)
 have HBA := aH (Hw8.o.trans (hba.mono Hw8.o.size))
 clear hba hI2 hI3
 go_wp2_with fail
 refine HIQ.o.mono ?_
 rintro e w9 ⟨he, hb⟩
 subst he
 have Hw9 := aH (HBA.o.trans (hb.mono HBA.o.size))
 clear hb HIQ HBA ql l22
 have l14 := keepc (HLS.o.2.2.2.2.2.2.1) Hw9.o
 have ql := aL (HLS.o.2.2.2.2.2.2.2.2) Hw9.o.size
 have hba : Below w9.heap.size w9 (w9.alloc (.cells #[.int .i64 16, .int .i64 20] 3)) := bA _
 have hI2 := (I14.o.below Hw9.o).below hba
 have hI3 : IntsAt (w9.alloc (.cells #[.int .i64 16, .int .i64 20] 3)) w9.heap.size (.slice (some ⟨w9.heap.size, 0, none⟩) 2 2) [16, 20] := IntsAt.new w9 [16, 20]
 have HIQ := aH (intsat_any _ _ [16, 20] _ _ (by simp) _ hI2 hI3)
 have HBA := aH (Hw9.o.trans (hba.mono Hw9.o.size))
 clear hba hI2 hI3
 go_wp2_with fail
 refine HIQ.o.mono ?_
 rintro e w10 ⟨he, hb⟩
 subst he
 have Hw10 := aH (HBA.o.trans (hb.mono HBA.o.size))
 clear hb HIQ HBA ql l14
 have l18 := keepc (HLS.o.2.2.2.2.2.2.2.1) Hw10.o
 have ql := aL (HLS.o.2.2.2.2.2.2.2.2) Hw10.o.size
 have HR := aH (HB3.o.trans ((HL4.o.trans (Hw10.o.mono HL4.o.size)).mono HB3.o.size))
 go_wp2
 go_ret
 exact ⟨rfl, HR.o⟩
 end Go.Proofs.Ytbjgojdpfehnmaa
