/- The document's examples of layer 12: the law's own, walked. -/
import Derived.Test.YtgikhkjnemglbaaIb
import Derived.Test.YtgikhkjnemglbaaId
import Derived.Deep.RegionWith
namespace Go.Proofs.Ytgikhkjnemglbaa
set_option linter.unusedVariables false
open Go.RowKit Go.Sort

def goodB (gr : Gj) : Bool := decide (gr.ns.length ≤ 160) && gr.ns.all (fun x => decide (x.ks.length ≤ 90001) && x.ks.all (fun k => decide (k < gr.ns.length)) && (x.op != 11 || (decide (0 ≤ x.tg) && (match gr.hs[x.tg.toNat]? with
  | some h => decide (h.bo < gr.ns.length)
  | none => false))))
theorem goodG_of {gr : Gj} (h : goodB gr = true) : Good gr := by
  unfold goodB at h
  rw [Bool.and_eq_true, List.all_eq_true] at h
  obtain ⟨h1, h2⟩ := h
  refine ⟨of_decide_eq_true h1, fun x hx => ?_, fun x hx k hk => ?_, fun x hx h11 => ?_⟩
  · have := h2 x hx
    rw [Bool.and_eq_true, Bool.and_eq_true] at this
    exact of_decide_eq_true this.1.1
  · have := h2 x hx
    rw [Bool.and_eq_true, Bool.and_eq_true, List.all_eq_true] at this
    exact of_decide_eq_true (this.1.2 k hk)
  · have := h2 x hx
    rw [Bool.and_eq_true, h11] at this
    have h3 := this.2
    rw [show ((11 : Int) != 11) = false from rfl, Bool.false_or, Bool.and_eq_true] at h3
    obtain ⟨h4, h5⟩ := h3
    have h6 := of_decide_eq_true h4
    refine ⟨x.tg.toNat, ?_⟩
    cases hh : gr.hs[x.tg.toNat]? with
    | none => rw [hh] at h5; cases h5
    | some h => rw [hh] at h5; exact ⟨h, by omega, rfl, of_decide_eq_true h5⟩
theorem mini_good : Good miniG := goodG_of (by kernel_rfl)
theorem mini_n : nulG miniG 0 = false ∧ nulG miniG 2 = true ∧ nulG miniG 8 = true ∧ nulG miniG 9 = false := ⟨by kernel_rfl, by kernel_rfl, by kernel_rfl, by kernel_rfl⟩
theorem mini_f : faiG miniG 0 = true ∧ faiG miniG 2 = false ∧ faiG miniG 8 = false ∧ faiG miniG 9 = true := ⟨by kernel_rfl, by kernel_rfl, by kernel_rfl, by kernel_rfl⟩
theorem mini_b : bodyG miniG 10 = 11 ∧ bodyG miniG 0 = 0 := ⟨by kernel_rfl, by kernel_rfl⟩

set_option maxRecDepth 1000000 in
set_option maxHeartbeats 800000 in
theorem mini12_any (w : World) : Calls Try.prog 59 #[] w fun e w' => (∃ b, e = .returned (.slice (some ⟨b, 0, none⟩) 2 2) ∧ HasN w' (some ⟨b, 0, none⟩) miniL) ∧ Below w.heap.size w w' := by
  have HO := Lib.hid (Own.fresh w 9 (miniL.map Value.string))
  have HB := Lib.hid (show Below w.heap.size w (w.alloc (.cells (miniL.map Value.string).toArray 9)) from (Below.refl _ _).alloc (Nat.le_refl _) _)
  go_enter Try.func59, Try.ntmps59
  go_wp2
  go_ret
  refine ⟨⟨w.heap.size, rfl, ?_⟩, HB.out⟩
  exact hasN_of (S := fun b => b = w.heap.size) (n := 2) (c := 2) (l := miniL) ⟨rfl, .inr ⟨w.heap.size, 0, 2, _, rfl, rfl, HO.out, Nat.le_refl _, by unfold maxLen; omega, by simp [miniL], by simp [miniL]⟩⟩
/-- One row of marks more, above a world. -/
def Qb1 (w : World) (gr : Gj) (g : Nat) (w' : World) : Prop := Own w' g 4 (rowB (nulG gr) gr.ns.length) ∧ w.heap.size ≤ g ∧ Below w.heap.size w w'
def Qb2 (w : World) (gr : Gj) (g h : Nat) (w' : World) : Prop := Own w' g 4 (rowB (nulG gr) gr.ns.length) ∧ Own w' h 4 (rowB (faiG gr) gr.ns.length) ∧ Below w.heap.size w w'
theorem qb1_any (gr : Gj) (a : Gv) (hg : Good gr) (w : World) (hG : HasG w gr a) (W : World) (hb : Below w.heap.size w W) : Calls Try.prog 26 #[grv gr a] W fun e w' => ∃ g, e = .returned (.slice (some ⟨g, 0, none⟩) gr.ns.length gr.ns.length) ∧ Qb1 w gr g w' := by
  refine (enull_any gr a hg W (hG.below hb)).mono ?_
  rintro e w' ⟨g, he, hO, hgs, hb2⟩
  exact ⟨g, he, hO, Nat.le_trans hb.size hgs, hb.trans (hb2.mono hb.size)⟩
theorem qb2_any (gr : Gj) (a : Gv) (hg : Good gr) (w : World) (hG : HasG w gr a) (g : Nat) (W : World) (hq : Qb1 w gr g W) : Calls Try.prog 28 #[grv gr a] W fun e w' => ∃ h, e = .returned (.slice (some ⟨h, 0, none⟩) gr.ns.length gr.ns.length) ∧ Qb2 w gr g h w' := by
  obtain ⟨hO1, hgs1, hb⟩ := hq
  refine (efails_any gr a hg W (hG.below hb)).mono ?_
  rintro e w' ⟨h, he, hO, hgs, hb2⟩
  exact ⟨h, he, hO1.under hb2 hO1.lt, hO, hb.trans (hb2.mono hb.size)⟩

set_option maxRecDepth 1000000 in
set_option maxHeartbeats 3200000 in
theorem awake12_any (w : World) : Calls Try.prog 22 #[] w fun e w' => e = .returned (.bool true) ∧ Below w.heap.size w w' := by
  have HMI := Lib.hid (mini12_any w)
  have HJD := Lib.hid (fun (bb : Nat) W (hW : HasN W (some ⟨bb, 0, none⟩) miniL) => show Calls Try.prog 21 #[.slice (some ⟨bb, 0, none⟩) 2 2, .string ⟨#[109, 97, 105, 110]⟩] W fun e w' => (∃ a, e = .returned (.tuple #[grv miniG a, .bool true]) ∧ HasG w' miniG a) ∧ Below W.heap.size W w' from by
    have q := joined12_any miniL (some ⟨bb, 0, none⟩) 2 ⟨#[109, 97, 105, 110]⟩ W hW
    rw [mini_jnd] at q
    exact q)
  go_enter Try.func22, Try.ntmps22
  go_wp2_with fail
  refine HMI.out.mono ?_
  rintro e w1 ⟨⟨bb, rfl, hn⟩, hb1⟩
  have HB1 := Lib.hid hb1
  clear hb1
  go_wp2_with fail
  refine (HJD.out bb w1 hn).mono ?_
  rintro e w2 ⟨⟨a, he, hG⟩, hb2⟩
  have HB2 := Lib.hid (HB1.out.trans (hb2.mono HB1.out.size))
  have HG2 := Lib.hid hG
  subst he
  clear hn hb2 hG HMI HJD HB1
  have HN := Lib.hid (fun W W2 hb h => qb1_any miniG a mini_good W h W2 hb)
  have HF := Lib.hid (fun W g W2 hq h => qb2_any miniG a mini_good W h g W2 hq)
  have HY1 := Lib.hid (fun W (h : HasG W miniG a) => show Calls Try.prog 23 #[grv miniG a, .int .i64 10] W fun e w' => e = .returned (.int .i64 11) ∧ Below W.heap.size W w' from by
    have q := ebody_any miniG a mini_good 10 (by rw [miniG_len]; decide) W h
    rw [mini_b.1] at q
    exact q)
  have HY2 := Lib.hid (fun W (h : HasG W miniG a) => show Calls Try.prog 23 #[grv miniG a, .int .i64 0] W fun e w' => e = .returned (.int .i64 0) ∧ Below W.heap.size W w' from by
    have q := ebody_any miniG a mini_good 0 (by rw [miniG_len]; decide) W h
    rw [mini_b.2] at q
    exact q)
  unfold grv
  unfold grv at HN HF HY1 HY2
  have HQR := Lib.hid (fun (W : World) g h w' (hq : Qb2 W miniG g h w') => show Own w' g 4 (rowB (nulG miniG) 23) ∧ Own w' h 4 (rowB (faiG miniG) 23) ∧ Below W.heap.size W w' from by
    unfold Qb2 at hq
    rw [miniG_len] at hq
    exact hq)
  obtain ⟨nh, hnh⟩ : ∃ z, miniG.hs.length = z := ⟨_, rfl⟩
  obtain ⟨nms, hnms⟩ : ∃ z, miniG.ms.length = z := ⟨_, rfl⟩
  obtain ⟨nw, hnw⟩ : ∃ z, miniG.ws.length = z := ⟨_, rfl⟩
  obtain ⟨st, hst⟩ : ∃ z, miniG.st = z := ⟨_, rfl⟩
  rw [miniG_len, hnh, hnms, hnw, hst]
  rw [miniG_len, hnh, hnms, hnw, hst] at HN HF HY1 HY2
  clear hnh hnms hnw hst
  have hbl : Below w2.heap.size w2 (w2.alloc (.cells #[.slice a.mo nms a.mc, .slice a.no 23 a.nc, .slice a.ho nh a.hc, .slice a.wo nw a.wc, .int .i64 st] 31)) := (Below.refl _ _).alloc (Nat.le_refl _) _
  have HB3 := Lib.hid (HB2.out.trans (hbl.mono HB2.out.size))
  have HG3 := Lib.hid (HG2.out.below hbl)
  have HO3 := Lib.hid (Own.fresh w2 31 [.slice a.mo nms a.mc, .slice a.no 23 a.nc, .slice a.ho nh a.hc, .slice a.wo nw a.wc, .int .i64 st])
  clear hbl
  go_upto_region 2 with fail
  obtain ⟨B, hB⟩ : ∃ B, w2.heap.size = B := ⟨_, rfl⟩
  rw [hB] at HO3
  generalize w2.alloc (.cells #[.slice a.mo nms a.mc, .slice a.no 23 a.nc, .slice a.ho nh a.hc, .slice a.wo nw a.wc, .int .i64 st] 31) = w3 at *
  try rw [hB]
  clear hB HB2 HG2
  have g0 : w3.cell? ⟨B, 0, none⟩ = some (.slice a.mo nms a.mc) := HO3.out.cell 0
  have g1 : w3.cell? ⟨B, 1, none⟩ = some (.slice a.no 23 a.nc) := HO3.out.cell 1
  have g2 : w3.cell? ⟨B, 2, none⟩ = some (.slice a.ho nh a.hc) := HO3.out.cell 2
  have g3 : w3.cell? ⟨B, 3, none⟩ = some (.slice a.wo nw a.wc) := HO3.out.cell 3
  have g4 : w3.cell? ⟨B, 4, none⟩ = some (.int .i64 st) := HO3.out.cell 4
  have gl := HO3.out.lt
  go_upto_region 4 with fail
  have HC4 := Lib.hid (show ∀ W, Below w3.heap.size w3 W → W.cell? ⟨B, 0, none⟩ = some (.slice a.mo nms a.mc) ∧ W.cell? ⟨B, 1, none⟩ = some (.slice a.no 23 a.nc) ∧ W.cell? ⟨B, 2, none⟩ = some (.slice a.ho nh a.hc) ∧ W.cell? ⟨B, 3, none⟩ = some (.slice a.wo nw a.wc) ∧ W.cell? ⟨B, 4, none⟩ = some (.int .i64 st) ∧ B < W.heap.size from fun W h => by
    have q := HO3.out.under h HO3.out.lt
    exact ⟨q.cell 0, q.cell 1, q.cell 2, q.cell 3, q.cell 4, q.lt⟩)
  go_region_with (first
    | (go_at_call 26; refine (HN.out w3 _ ?_ HG3.out).mono ?_; exact (Below.refl _ _).drew; rintro e w4 ⟨gg, rfl, hq⟩; obtain ⟨k0, k1, k2, k3, k4, kl⟩ := HC4.out w4 hq.2.2)
    | (go_at_call 28; refine (HF.out w3 gg _ hq HG3.out).mono ?_; rintro e w5 ⟨gh, rfl, hq2⟩))
  all_goals
    obtain ⟨hon, hof, hb5⟩ := HQR.out w3 gg gh w5 hq2
    clear hq hq2
    have HB5 := Lib.hid (HB3.out.trans (hb5.mono HB3.out.size))
    have HL5 := Lib.hid hb5
    have HG5 := Lib.hid (HG3.out.below hb5)
    obtain ⟨j0, j1, j2, j3, j4, jl⟩ := HC4.out w5 hb5
    have n0 : w5.cell? ⟨gg, 0, none⟩ = some (.bool false) := by rw [hon.cell 0, rowB_at _ 23 0 (by decide), mini_n.1]
    have n2 : w5.cell? ⟨gg, 2, none⟩ = some (.bool true) := by rw [hon.cell 2, rowB_at _ 23 2 (by decide), mini_n.2.1]
    have n8 : w5.cell? ⟨gg, 8, none⟩ = some (.bool true) := by rw [hon.cell 8, rowB_at _ 23 8 (by decide), mini_n.2.2.1]
    have n9 : w5.cell? ⟨gg, 9, none⟩ = some (.bool false) := by rw [hon.cell 9, rowB_at _ 23 9 (by decide), mini_n.2.2.2]
    have f0 : w5.cell? ⟨gh, 0, none⟩ = some (.bool true) := by rw [hof.cell 0, rowB_at _ 23 0 (by decide), mini_f.1]
    have f2 : w5.cell? ⟨gh, 2, none⟩ = some (.bool false) := by rw [hof.cell 2, rowB_at _ 23 2 (by decide), mini_f.2.1]
    have f8 : w5.cell? ⟨gh, 8, none⟩ = some (.bool false) := by rw [hof.cell 8, rowB_at _ 23 8 (by decide), mini_f.2.2.1]
    have f9 : w5.cell? ⟨gh, 9, none⟩ = some (.bool true) := by rw [hof.cell 9, rowB_at _ 23 9 (by decide), mini_f.2.2.2]
    have nl := hon.lt
    have fl := hof.lt
    clear hon hof hb5 g0 g1 g2 g3 g4 gl HN HF HQR HB3 HG3 HO3
    go_wp2_with fail
    refine (HY1.out w5 HG5.out).mono ?_
    rintro e w6 ⟨he, hb6⟩
    subst he
    have HL6 := Lib.hid (HL5.out.trans (hb6.mono HL5.out.size))
    have HB6 := Lib.hid (HB5.out.trans (hb6.mono HB5.out.size))
    have HG6 := Lib.hid (HG5.out.below hb6)
    clear j0 j1 j2 j3 j4 jl hb6 n0 n2 n8 n9 f0 f2 f8 f9 nl fl
    obtain ⟨j0, j1, j2, j3, j4, jl⟩ := HC4.out w6 HL6.out
    go_wp2_with fail
    refine (HY2.out w6 HG6.out).mono ?_
    rintro e w7 ⟨he, hb7⟩
    subst he
    have HB7 := Lib.hid (HB6.out.trans (hb7.mono HB6.out.size))
    clear hb7
    go_wp2
    go_ret
    exact ⟨rfl, HB7.out⟩
end Go.Proofs.Ytgikhkjnemglbaa
