/- What a walk asks of the small dialect's grammar. Two rows of numbers that are the same: the walk of the reference's Ints. The document's examples of layer 13: the law's own, walked. -/
import Derived.Test.YtbjgojdpfehnmaaIa
import Derived.Test.YtbjgojdpfehnmaaIj
import Derived.Test.YtbjgojdpfehnmaaIf
import Derived.Test.YtbjgojdpfehnmaaMc
import Derived.Deep.RegionWith
namespace Go.Proofs.Ytbjgojdpfehnmaa
set_option linter.unusedVariables false
open Go.RowKit Go.Sort
def goodB (gr : Gj) : Bool := decide (gr.ns.length ≤ 160) && gr.ns.all (fun x => decide (x.ks.length ≤ 90001) && x.ks.all (fun k => decide (k < gr.ns.length)) && (x.op != 11 || (decide (0 ≤ x.tg) && (match gr.hs[x.tg.toNat]? with
 | some h => decide (h.bo < gr.ns.length)
 | none => false))))
theorem goodG_of {gr : Gj} (h : goodB gr = true) : Good gr := by
 unfold goodB at h
 rw [Bool.and_eq_true, List.all_eq_true] at h
 obtain ⟨h1, h2⟩ := h
 refine ⟨of_decide_eq_true h1, fun x hx => ?_, fun x hx k hk => ?_, fun x hx h11 => ?_⟩
 ·
  have := h2 x hx
  rw [Bool.and_eq_true, Bool.and_eq_true] at this
  exact of_decide_eq_true this.1.1
 ·
  have := h2 x hx
  rw [Bool.and_eq_true, Bool.and_eq_true, List.all_eq_true] at this
  exact of_decide_eq_true (this.1.2 k hk)
 ·
  have := h2 x hx
  rw [Bool.and_eq_true, h11] at this
  have h3 := this.2
  rw [show ((11 : Int) != 11) = false from rfl, Bool.false_or, Bool.and_eq_true] at h3
  obtain ⟨h4, h5⟩ := h3
  have h6 := of_decide_eq_true h4
  refine ⟨x.tg.toNat, ?_⟩
  cases hh : gr.hs[x.tg.toNat]? with
  | none => rw [hh] at h5; cases h5
  | some h => rw [hh] at h5; exact ⟨h, by omega, rfl, of_decide_eq_true h5⟩
theorem mini_good : Good miniG := goodG_of (by kernel_rfl)
set_option maxHeartbeats 1600000 in
theorem intsat_any (v u : Value) (L : List Int) (B C : Nat) (hn : (L.length : Int) ≤ 1000) (w : World) (hv : IntsAt w B v L) (hu : IntsAt w C u L) :
  Calls Try.prog 10 #[v, u] w fun e w' => e = .returned (.bool true) ∧ Below w.heap.size w w' := by
 obtain ⟨ao, ca, rfl, hca, hA⟩ := hv
 obtain ⟨bo, cb, rfl, hcb, hC⟩ := hu
 have HA := Lib.hid hA
 have HC := Lib.hid hC
 clear hA hC
 obtain ⟨n, hnn⟩ : ∃ n, L.length = n := ⟨_, rfl⟩
 rw [hnn] at hn HA HC hca hcb ⊢
 clear hnn
 go_enter Try.func10, Try.ntmps10
 go_wp2_with fail
 go_loopw [4, 5] (fun b4 b5 wr => ∃ k m : Nat, b4 = .bool false ∧ b5 = .int .i64 (k : Int) ∧ (k : Int) ≤ n ∧ wr = w.drewN m)
  (fun _ b5 _ => n - (intOf b5).toNat)
 case atStart => exact ⟨0, 0, rfl, rfl, by omega, rfl⟩
 case round =>
  obtain ⟨k, m, rfl, rfl, hk2, rfl⟩ := hrel
  have hw1 : IntKind.i64.wrap ((k : Int) + 1) = (k : Int) + 1 := by rw [IntKind.wrap_i64]; omega
  by_cases h1 : (k : Int) < n
  ·
   obtain ⟨g, off, rfl, hg1, _, c1⟩ := HA.out k (by omega)
   obtain ⟨g', off', rfl, hg2, _, c2⟩ := HC.out k (by omega)
   clear HA HC
   go_wp2_with fail
   go_quiet (fail)
   go_wp2
   go_roundw
   case rel => exact ⟨k + 1, m + nq, rfl, by go_num, by omega, rfl⟩
   case measure => simp [intOf]; omega
  ·
   clear HA HC
   go_wp2
   go_ret
   exact ⟨rfl, below_drewN (Below.refl _ _) m⟩
theorem IntsAt.new (W : World) (L : List Int) : IntsAt (W.alloc (.cells (L.map (Value.int .i64)).toArray 3)) W.heap.size (.slice (some ⟨W.heap.size, 0, none⟩) L.length L.length) L := by
 refine ⟨_, _, rfl, Nat.le_refl _, fun j hj => ⟨W.heap.size, 0, rfl, by simp, Nat.le_refl _, ?_⟩⟩
 have h := (Own.fresh W 3 (L.map (Value.int .i64))).cell j
 rw [Nat.zero_add, h, List.getElem?_map, List.getElem?_eq_getElem hj, List.getD_eq_getElem?_getD, List.getElem?_eq_getElem hj]
 rfl
theorem mini_l : ledG miniG 8 = true ∧ ledG miniG 9 = true ∧ ledG miniG 10 = false ∧ ledG miniG 11 = false := ⟨by kernel_rfl, by kernel_rfl, by kernel_rfl, by kernel_rfl⟩
theorem mini_le8 : leadI miniG 8 = [11] := by kernel_rfl
theorem mini_le10 : leadI miniG 10 = [11] := by kernel_rfl
theorem mini_le12 : leadI miniG 12 = [22] := by kernel_rfl
theorem mini_le99 : leadI miniG 99 = [] := by kernel_rfl
theorem mini_put : putL (putL [3] 1) 3 = [1, 3] := by kernel_rfl
set_option maxRecDepth 1000000 in
set_option maxHeartbeats 800000 in
theorem mini13_any (w : World) : Calls Try.prog 30 #[] w fun e w' => (∃ b, e = .returned (.slice (some ⟨b, 0, none⟩) 2 2) ∧ HasN w' (some ⟨b, 0, none⟩) miniL) ∧ Below w.heap.size w w' := by
 have HO := Lib.hid (Own.fresh w 9 (miniL.map Value.string))
 have HB := Lib.hid (show Below w.heap.size w (w.alloc (.cells (miniL.map Value.string).toArray 9)) from (Below.refl _ _).alloc (Nat.le_refl _) _)
 go_enter Try.func30, Try.ntmps30
 go_wp2
 go_ret
 refine ⟨⟨w.heap.size, rfl, ?_⟩, HB.out⟩
 exact hasN_of (S := fun b => b = w.heap.size) (n := 2) (c := 2) (l := miniL) ⟨rfl, .inr ⟨w.heap.size, 0, 2, _, rfl, rfl, HO.out, Nat.le_refl _, by unfold maxLen; omega, by simp [miniL], by simp [miniL]⟩⟩
set_option maxRecDepth 1000000 in
set_option maxHeartbeats 3200000 in
theorem awake13_any (w : World) : Calls Try.prog 9 #[] w fun e w' => e = .returned (.bool true) ∧ Below w.heap.size w w' := by
 have HMI := Lib.hid (mini13_any w)
 have HJD := Lib.hid (fun (bb : Nat) W (hW : HasN W (some ⟨bb, 0, none⟩) miniL) => show Calls Try.prog 8 #[.slice (some ⟨bb, 0, none⟩) 2 2, .string ⟨#[109, 97, 105, 110]⟩] W fun e w' => (∃ a, e = .returned (.tuple #[grv miniG a, .bool true]) ∧ HasG w' miniG a) ∧ Below W.heap.size W w' from by
  have q := joined13_any miniL (some ⟨bb, 0, none⟩) 2 ⟨#[109, 97, 105, 110]⟩ W hW
  rw [mini_jnd] at q
  exact q)
 go_enter Try.func9, Try.ntmps9
 go_wp2_with fail
 refine HMI.out.mono ?_
 rintro e w1 ⟨⟨bb, rfl, hn⟩, hb1⟩
 have HB1 := Lib.hid hb1
 clear hb1
 go_wp2_with fail
 refine (HJD.out bb w1 hn).mono ?_
 rintro e w2 ⟨⟨a, he, hG⟩, hb2⟩
 have HB2 := Lib.hid (HB1.out.trans (hb2.mono HB1.out.size))
 have HG2 := Lib.hid hG
 subst he
 clear hn hb2 hG HMI HJD HB1
 have HN := Lib.hid (fun W (h : HasG W miniG a) => pled_any miniG a mini_good W h)
 have HL := Lib.hid (fun (k : Int) W (h : HasG W miniG a) => plead_any miniG a mini_good k W h)
 unfold BoE at HN
 unfold LeE at HL
 unfold grv
 unfold grv at HN HL
 obtain ⟨nh, hnh⟩ : ∃ z, miniG.hs.length = z := ⟨_, rfl⟩
 obtain ⟨nms, hnms⟩ : ∃ z, miniG.ms.length = z := ⟨_, rfl⟩
 obtain ⟨nw, hnw⟩ : ∃ z, miniG.ws.length = z := ⟨_, rfl⟩
 obtain ⟨st, hst⟩ : ∃ z, miniG.st = z := ⟨_, rfl⟩
 rw [miniG_len, hnh, hnms, hnw, hst]
 rw [miniG_len, hnh, hnms, hnw, hst] at HN HL
 clear hnh hnms hnw hst
 have hbl : Below w2.heap.size w2 (w2.alloc (.cells #[.slice a.mo nms a.mc, .slice a.no 23 a.nc, .slice a.ho nh a.hc, .slice a.wo nw a.wc, .int .i64 st] 27)) := (Below.refl _ _).alloc (Nat.le_refl _) _
 have HB3 := Lib.hid (HB2.out.trans (hbl.mono HB2.out.size))
 have HG3 := Lib.hid (HG2.out.below hbl)
 have HO3 := Lib.hid (Own.fresh w2 27 [.slice a.mo nms a.mc, .slice a.no 23 a.nc, .slice a.ho nh a.hc, .slice a.wo nw a.wc, .int .i64 st])
 clear hbl
 go_upto_region 2 with fail
 obtain ⟨B, hB⟩ : ∃ B, w2.heap.size = B := ⟨_, rfl⟩
 rw [hB] at HO3
 generalize w2.alloc (.cells #[.slice a.mo nms a.mc, .slice a.no 23 a.nc, .slice a.ho nh a.hc, .slice a.wo nw a.wc, .int .i64 st] 27) = w3 at *
 try rw [hB]
 clear hB HB2 HG2
 have g0 : w3.cell? ⟨B, 0, none⟩ = some (.slice a.mo nms a.mc) := HO3.out.cell 0
 have g1 : w3.cell? ⟨B, 1, none⟩ = some (.slice a.no 23 a.nc) := HO3.out.cell 1
 have g2 : w3.cell? ⟨B, 2, none⟩ = some (.slice a.ho nh a.hc) := HO3.out.cell 2
 have g3 : w3.cell? ⟨B, 3, none⟩ = some (.slice a.wo nw a.wc) := HO3.out.cell 3
 have g4 : w3.cell? ⟨B, 4, none⟩ = some (.int .i64 st) := HO3.out.cell 4
 have gl := HO3.out.lt
 have HC4 := Lib.hid (show ∀ W, Below w3.heap.size w3 W → W.cell? ⟨B, 0, none⟩ = some (.slice a.mo nms a.mc) ∧ W.cell? ⟨B, 1, none⟩ = some (.slice a.no 23 a.nc) ∧ W.cell? ⟨B, 2, none⟩ = some (.slice a.ho nh a.hc) ∧ W.cell? ⟨B, 3, none⟩ = some (.slice a.wo nw a.wc) ∧ W.cell? ⟨B, 4, none⟩ = some (.int .i64 st) ∧ B < W.heap.size from fun W h => by
  have q := HO3.out.under h HO3.out.lt
  exact ⟨q.cell 0, q.cell 1, q.cell 2, q.cell 3, q.cell 4, q.lt⟩)
 go_wp2_with fail
 refine (HN.out w3 HG3.out).mono ?_
 rintro e w4 ⟨g, rfl, hO, hg, hb4⟩
 have HL4 := Lib.hid hb4
 have l8 : w4.cell? ⟨g, 8, none⟩ = some (.bool true) := by rw [hO.cell 8, rowB_at _ 23 8 (by decide), mini_l.1]
 have l9 : w4.cell? ⟨g, 9, none⟩ = some (.bool true) := by rw [hO.cell 9, rowB_at _ 23 9 (by decide), mini_l.2.1]
 have l10 : w4.cell? ⟨g, 10, none⟩ = some (.bool false) := by rw [hO.cell 10, rowB_at _ 23 10 (by decide), mini_l.2.2.1]
 have l11 : w4.cell? ⟨g, 11, none⟩ = some (.bool false) := by rw [hO.cell 11, rowB_at _ 23 11 (by decide), mini_l.2.2.2]
 have ll := hO.lt
 clear hb4 hg hO g0 g1 g2 g3 g4 gl HN
 obtain ⟨j0, j1, j2, j3, j4, jl⟩ := HC4.out w4 HL4.out
 go_wp2_with fail
 refine (HL.out 8 w4 (HG3.out.below HL4.out)).mono ?_
 rintro e w5 ⟨v8, he, hI, hb⟩
 subst he
 rw [mini_le8] at hI
 have hc8 := HL4.out.size
 have Hw5 := Lib.hid (HL4.out.trans (hb.mono HL4.out.size))
 clear hb j0 j1 j2 j3 j4 jl
 clear l8 l9 l10 l11 ll
 have hba : Below w5.heap.size w5 (w5.alloc (.cells #[.int .i64 11] 3)) := (Below.refl _ _).alloc (Nat.le_refl _) _
 have hI2 := hI.below hba
 have hI3 : IntsAt (w5.alloc (.cells #[.int .i64 11] 3)) w5.heap.size (.slice (some ⟨w5.heap.size, 0, none⟩) 1 1) [11] := IntsAt.new w5 [11]
 have HIQ := Lib.hid (intsat_any v8 _ [11] _ _ (by simp) _ hI2 hI3)
 have HBA := Lib.hid (Hw5.out.trans (hba.mono Hw5.out.size))
 clear hba hI hI2 hI3
 go_wp2_with fail
 refine HIQ.out.mono ?_
 rintro e w6 ⟨he, hb⟩
 subst he
 have Hw6 := Lib.hid (HBA.out.trans (hb.mono HBA.out.size))
 clear hb HIQ HBA
 obtain ⟨j0, j1, j2, j3, j4, jl⟩ := HC4.out w6 Hw6.out
 go_wp2_with fail
 refine (HL.out 10 w6 (HG3.out.below Hw6.out)).mono ?_
 rintro e w7 ⟨v10, he, hI, hb⟩
 subst he
 rw [mini_le10] at hI
 have hc10 := Hw6.out.size
 have Hw7 := Lib.hid (Hw6.out.trans (hb.mono Hw6.out.size))
 clear hb j0 j1 j2 j3 j4 jl
 have hba : Below w7.heap.size w7 (w7.alloc (.cells #[.int .i64 11] 3)) := (Below.refl _ _).alloc (Nat.le_refl _) _
 have hI2 := hI.below hba
 have hI3 : IntsAt (w7.alloc (.cells #[.int .i64 11] 3)) w7.heap.size (.slice (some ⟨w7.heap.size, 0, none⟩) 1 1) [11] := IntsAt.new w7 [11]
 have HIQ := Lib.hid (intsat_any v10 _ [11] _ _ (by simp) _ hI2 hI3)
 have HBA := Lib.hid (Hw7.out.trans (hba.mono Hw7.out.size))
 clear hba hI hI2 hI3
 go_wp2_with fail
 refine HIQ.out.mono ?_
 rintro e w8 ⟨he, hb⟩
 subst he
 have Hw8 := Lib.hid (HBA.out.trans (hb.mono HBA.out.size))
 clear hb HIQ HBA
 obtain ⟨j0, j1, j2, j3, j4, jl⟩ := HC4.out w8 Hw8.out
 go_wp2_with fail
 refine (HL.out 12 w8 (HG3.out.below Hw8.out)).mono ?_
 rintro e w9 ⟨v12, he, hI, hb⟩
 subst he
 rw [mini_le12] at hI
 have hc12 := Hw8.out.size
 have Hw9 := Lib.hid (Hw8.out.trans (hb.mono Hw8.out.size))
 clear hb j0 j1 j2 j3 j4 jl
 have hba : Below w9.heap.size w9 (w9.alloc (.cells #[.int .i64 22] 3)) := (Below.refl _ _).alloc (Nat.le_refl _) _
 have hI2 := hI.below hba
 have hI3 : IntsAt (w9.alloc (.cells #[.int .i64 22] 3)) w9.heap.size (.slice (some ⟨w9.heap.size, 0, none⟩) 1 1) [22] := IntsAt.new w9 [22]
 have HIQ := Lib.hid (intsat_any v12 _ [22] _ _ (by simp) _ hI2 hI3)
 have HBA := Lib.hid (Hw9.out.trans (hba.mono Hw9.out.size))
 clear hba hI hI2 hI3
 go_wp2_with fail
 refine HIQ.out.mono ?_
 rintro e w10 ⟨he, hb⟩
 subst he
 have Hw10 := Lib.hid (HBA.out.trans (hb.mono HBA.out.size))
 clear hb HIQ HBA
 obtain ⟨j0, j1, j2, j3, j4, jl⟩ := HC4.out w10 Hw10.out
 go_wp2_with fail
 refine (HL.out 99 w10 (HG3.out.below Hw10.out)).mono ?_
 rintro e w11 ⟨v99, he, hI, hb⟩
 subst he
 rw [mini_le99] at hI
 have hc99 := Hw10.out.size
 have Hw11 := Lib.hid (Hw10.out.trans (hb.mono Hw10.out.size))
 clear hb j0 j1 j2 j3 j4 jl
 obtain ⟨ao, cap, rfl, -⟩ := hI
 simp only [List.length_nil]
 have hba : Below w11.heap.size w11 (w11.alloc (.cells #[.int .i64 3] 3)) := (Below.refl _ _).alloc (Nat.le_refl _) _
 have hI3 : IntsAt (w11.alloc (.cells #[.int .i64 3] 3)) w11.heap.size (.slice (some ⟨w11.heap.size, 0, none⟩) 1 1) [3] := IntsAt.new w11 [3]
 have HIQ := Lib.hid (pput_any [3] 1 (by simp) _ _ _ hI3)
 have HBA := Lib.hid (Hw11.out.trans (hba.mono Hw11.out.size))
 clear hba hI3
 go_wp2_with fail
 refine HIQ.out.mono ?_
 rintro e wP ⟨vP, he, hI, hb⟩
 subst he
 have HP := Lib.hid (HBA.out.trans (hb.mono HBA.out.size))
 have HIQ2 := Lib.hid (pput_any (putL [3] 1) 3 (by have := putL_len 1 [3]; simp at this; omega) _ _ _ hI)
 clear hb HIQ HBA hI
 go_wp2_with fail
 refine HIQ2.out.mono ?_
 rintro e wQ ⟨vQ, he, hI, hb⟩
 subst he
 rw [mini_put] at hI
 have HQ := Lib.hid (HP.out.trans (hb.mono HP.out.size))
 have hba : Below wQ.heap.size wQ (wQ.alloc (.cells #[.int .i64 1, .int .i64 3] 3)) := (Below.refl _ _).alloc (Nat.le_refl _) _
 have hI2 := hI.below hba
 have hI3 : IntsAt (wQ.alloc (.cells #[.int .i64 1, .int .i64 3] 3)) wQ.heap.size (.slice (some ⟨wQ.heap.size, 0, none⟩) 2 2) [1, 3] := IntsAt.new wQ [1, 3]
 have HIQ3 := Lib.hid (intsat_any vQ _ [1, 3] _ _ (by simp) _ hI2 hI3)
 have HBA := Lib.hid (HQ.out.trans (hba.mono HQ.out.size))
 clear hba hI hI2 hI3 hb HIQ2
 go_wp2_with fail
 refine HIQ3.out.mono ?_
 rintro e wR ⟨he, hb⟩
 subst he
 have HR := Lib.hid (HB3.out.trans ((HBA.out.trans (hb.mono HBA.out.size)).mono HB3.out.size))
 clear hb HIQ3 HBA
 go_wp2
 go_ret
 exact ⟨rfl, HR.out⟩
 end Go.Proofs.Ytbjgojdpfehnmaa
