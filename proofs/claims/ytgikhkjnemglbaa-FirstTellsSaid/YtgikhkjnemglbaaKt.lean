/- First bytes: the reference's, walked. The same sets: the reference's Same, walked. FirstTells: the law's own, walked. -/
import Derived.Test.YtgikhkjnemglbaaFsC
import Derived.Test.YtgikhkjnemglbaaFsR
import Derived.Deep.LoopGhost
import Derived.Deep.CutBlock
import Derived.Test.YtgikhkjnemglbaaKm
import Derived.Test.YtgikhkjnemglbaaGdC
import Derived.Deep.RegionWith
namespace Go.Proofs.Ytgikhkjnemglbaa
set_option linter.unusedVariables false
open Go.RowKit Go.Sort

theorem heldTo.two {P : Program} {ops : Array Oper} {Q : Exit → Act → World → Prop} {md : Region.Mode} {S : World → Prop} {z : Nat} {i k : Nat} {n : Nat} {l : Array Bool} {a : Act} {w : World} (hr : Region.ready md ops l = [i, k]) (h1 : wpOp P ops Q i (fun b v => (i = z ∨ S v) ∧ heldTo P md ops Q S z n (l.setIfInBounds i true) b v) a w)
    (h2 : wpOp P ops Q k (fun b v => (k = z ∨ S v) ∧ heldTo P md ops Q S z n (l.setIfInBounds k true) b v) a w) : heldTo P md ops Q S z (n + 1) l a w :=
  ⟨fun h0 => absurd (hr.symm.trans h0) (by simp), by
    rw [hr]; intro j hj
    simp only [List.mem_cons, List.not_mem_nil, or_false] at hj
    rcases hj with rfl | rfl
    · exact h1
    · exact h2⟩

set_option maxRecDepth 1000000 in
set_option maxHeartbeats 3200000 in
theorem rfirst_any (gr : Gj) (a : Gv) (hg : Gst gr) (w : World) (hG : HasG w gr a) : Calls Try.prog 43 #[grv gr a] w (FsE gr w) := by
  have HGS := Lib.hid hg
  have HB1 := Lib.hid (show Below w.heap.size w (w.alloc (.cells #[.slice a.mo gr.ms.length a.mc, .slice a.no gr.ns.length a.nc, .slice a.ho gr.hs.length a.hc, .slice a.wo gr.ws.length a.wc, .int .i64 gr.st] 31)) from (Below.refl _ _).alloc (Nat.le_refl _) _)
  have HO1 := Lib.hid (Own.fresh w 31 [.slice a.mo gr.ms.length a.mc, .slice a.no gr.ns.length a.nc, .slice a.ho gr.hs.length a.hc, .slice a.wo gr.ws.length a.wc, .int .i64 gr.st])
  have HG1 := Lib.hid ((hG.mono (T := fun b => b < w.heap.size) (fun _ h _ => h)).below HB1.out)
  have HNU := Lib.hid (fun W h => snull_any gr a hg.good W h)
  have HBG := Lib.hid (fun (M : Nat → Set4) (hM : ∀ j, fits (M j)) n g h hn W h1 h2 h3 => rfst_any gr a hg (nulG gr) M hM n g h hn W h1 h2 h3)
  obtain ⟨R, hR⟩ : ∃ R, begB gr (nulG gr) = R := ⟨_, rfl⟩
  have hrul : Rul R := by rw [← hR]; exact begB_rul hg.sets _
  have HRUL := Lib.hid hrul
  obtain ⟨RES, hRES⟩ : ∃ z, firG gr = z := ⟨_, rfl⟩
  have HR0 := Lib.hid (show leastS R gr.ns.length (256 * gr.ns.length + 1) (fun _ => set0) = RES from by rw [← hR, ← hRES]; rfl)
  unfold FsE
  rw [hRES]
  have HBR := Lib.hid (fun (M : Nat → Set4) n => show begB gr (nulG gr) M n = R M n from by rw [hR])
  unfold BoE at HNU
  unfold grv
  unfold grv at HNU HBG
  obtain ⟨nn, hnn⟩ : ∃ z, gr.ns.length = z := ⟨_, rfl⟩
  obtain ⟨nh, hnh⟩ : ∃ z, gr.hs.length = z := ⟨_, rfl⟩
  obtain ⟨nms, hnms⟩ : ∃ z, gr.ms.length = z := ⟨_, rfl⟩
  obtain ⟨nw, hnw⟩ : ∃ z, gr.ws.length = z := ⟨_, rfl⟩
  have hn160 : (nn : Int) ≤ 160 := by have := hg.good.len; omega
  rw [hnn] at HR0
  rw [hnn, hnh, hnms, hnw] at HNU HBG HB1 HO1 HG1
  rw [hnn, hnh, hnms, hnw]
  obtain ⟨B, hB⟩ : ∃ B, w.heap.size = B := ⟨_, rfl⟩
  have HW1 := Lib.hid (show (w.alloc (.cells #[.slice a.mo nms a.mc, .slice a.no nn a.nc, .slice a.ho nh a.hc, .slice a.wo nw a.wc, .int .i64 gr.st] 31)).heap.size = B + 1 from by rw [← hB]; simp)
  have HBE := Lib.hid hB
  rw [hB] at HO1
  clear hg hG hRES hR hrul hnn hnh hnms hnw
  have hmk : ∀ W : World, (Instr.makeSlice 71 (.int .i64 (nn : Int)) (.int .i64 (nn : Int))).run Try.prog W = .ok (.slice (some ⟨W.heap.size, 0, none⟩) nn nn) (W.alloc (.cells (Array.replicate (nn * 4) (Value.int .u64 0)) 39)) := fun W => run_setsS nn (by omega) W
  go_enter Try.func43, Try.ntmps43
  go_upto_region 1 with fail
  generalize w.alloc (.cells #[.slice a.mo nms a.mc, .slice a.no nn a.nc, .slice a.ho nh a.hc, .slice a.wo nw a.wc, .int .i64 gr.st] 31) = w1 at *
  try rw [hB]
  clear hB
  have g0 : w1.cell? ⟨B, 0, none⟩ = some (.slice a.mo nms a.mc) := HO1.out.cell 0
  have g1 : w1.cell? ⟨B, 1, none⟩ = some (.slice a.no nn a.nc) := HO1.out.cell 1
  have g2 : w1.cell? ⟨B, 2, none⟩ = some (.slice a.ho nh a.hc) := HO1.out.cell 2
  have g3 : w1.cell? ⟨B, 3, none⟩ = some (.slice a.wo nw a.wc) := HO1.out.cell 3
  have g4 : w1.cell? ⟨B, 4, none⟩ = some (.int .i64 gr.st) := HO1.out.cell 4
  have gl := HO1.out.lt
  go_wp2_with fail
  refine (HNU.out w1 (HG1.out.mono fun _ _ _ => trivial)).mono ?_
  rintro e w2 ⟨u, he, hu, hul, hb2⟩
  subst he
  have HB2 := Lib.hid (HB1.out.trans (hb2.mono HB1.out.size))
  have HO2 := Lib.hid (HO1.out.under hb2 HO1.out.lt)
  have HG2 := Lib.hid (HG1.out.below hb2)
  have HU2 := Lib.hid hu
  have HUL := Lib.hid (show B + 1 ≤ u from by have := HW1.out; omega)
  clear g0 g1 g2 g3 g4 gl hu hul hb2 HO1 HG1 HB1
  have g1 : w2.cell? ⟨B, 1, none⟩ = some (.slice a.no nn a.nc) := HO2.out.cell 1
  have gl := HO2.out.lt
  have hbl : Below w2.heap.size w2 (w2.alloc (.cells (Array.replicate (nn * 4) (Value.int .u64 0)) 39)) := (Below.refl _ _).alloc (Nat.le_refl _) _
  have HB3 := Lib.hid (HB2.out.trans (hbl.mono HB2.out.size))
  have HG3 := Lib.hid (HG2.out.below hbl)
  have HO3 := Lib.hid (HO2.out.under hbl HO2.out.lt)
  have HU3 := Lib.hid (HU2.out.under hbl HU2.out.lt)
  have HM3 := Lib.hid (show Own (w2.alloc (.cells (Array.replicate (nn * 4) (Value.int .u64 0)) 39)) w2.heap.size 39 (rowS (fun _ => set0) nn) from by
    rw [rowS_zero, ← List.toArray_replicate]; exact Own.fresh w2 39 _)
  have HU2l := Lib.hid HU2.out.lt
  have HO2l := Lib.hid HO2.out.lt
  clear hbl
  go_upto_region 4 with fail
  obtain ⟨C, hC⟩ : ∃ C, w2.heap.size = C := ⟨_, rfl⟩
  rw [hC] at HM3 HU2l HO2l
  generalize w2.alloc (.cells (Array.replicate (nn * 4) (Value.int .u64 0)) 39) = w3 at *
  try rw [hC]
  clear hC g1 gl hmk HO2 HG2 HB2 HU2
  go_loopg [5] (256 * nn + 1) (fun f v5 wr => ∃ (M : Nat → Set4) (z : Bool), v5 = .bool z ∧ Hid (RES = if z = true then leastS R nn f M else M) ∧ Hid (z = true → lackS M nn < f) ∧ Hid (InvS R M) ∧ Hid (Own wr C 39 (rowS M nn)) ∧ Hid (Own wr B 31 [.slice a.mo nms a.mc, .slice a.no nn a.nc, .slice a.ho nh a.hc, .slice a.wo nw a.wc, .int .i64 gr.st]) ∧ Hid (Own wr u 4 (rowB (nulG gr) nn)) ∧ Hid (HasGR wr (fun b => b < w.heap.size) gr a) ∧ Hid (Below w.heap.size w wr))
  case atStart => exact ⟨fun _ => set0, true, rfl, Lib.hid (by rw [if_pos rfl]; exact HR0.out.symm), Lib.hid (fun _ => by have := lackS_le (fun _ => set0) nn; omega), Lib.hid (inv0 R), HM3, HO3, HU3, HG3, HB3⟩
  case round =>
    obtain ⟨M, z, rfl, HS, HLK, HI, HM, HO, HU, HG, HB⟩ := hrel
    cases z with
    | false =>
      have HE := Lib.hid (show RES = M from by rw [HS.out, if_neg (by decide)])
      go_wp2
      go_ret
      exact ⟨C, rfl, by rw [HE.out]; exact HM.out, by have := HBE.out; have := HO2l.out; omega, HB.out⟩
    | true =>
      obtain ⟨f, rfl⟩ : ∃ f, gk = f + 1 := ⟨gk - 1, by have := HLK.out rfl; omega⟩
      have HS1 := Lib.hid (show RES = leastS R nn (f + 1) M from by rw [HS.out, if_pos rfl])
      have HL1 := Lib.hid (HLK.out rfl)
      clear HM3 HO3 HG3 HB3 HU3 HS HLK
      have g1 : wr.cell? ⟨B, 1, none⟩ = some (.slice a.no nn a.nc) := HO.out.cell 1
      have gl := HO.out.lt
      go_wp2_with fail
      go_loopg [5, 6] nn (fun j v5 v18 wx => ∃ (k : Nat) (M1 : Nat → Set4) (z : Bool), v5 = .bool z ∧ v18 = .int .i64 (k : Int) ∧ k + j = nn ∧ Hid (passS R nn 0 M false = passS R (nn - k) k M1 z) ∧ Hid (InvS R M1) ∧ Hid (Own wx C 39 (rowS M1 nn)) ∧ Hid (Own wx B 31 [.slice a.mo nms a.mc, .slice a.no nn a.nc, .slice a.ho nh a.hc, .slice a.wo nw a.wc, .int .i64 gr.st]) ∧ Hid (Own wx u 4 (rowB (nulG gr) nn)) ∧ Hid (HasGR wx (fun b => b < w.heap.size) gr a) ∧ Hid (Below w.heap.size w wx))
      case atStart => exact ⟨0, M, false, rfl, rfl, by omega, Lib.hid rfl, HI, HM, HO, HU, HG, HB⟩
      case round =>
        obtain ⟨k, M1, z, rfl, rfl, hkj, HP, HIx, HMx, HOx, HUx, HGx, HBx⟩ := hrel
        clear HM HO HG HB HU g1 gl
        by_cases hk : k < nn
        · obtain ⟨j, rfl⟩ : ∃ j, gk = j + 1 := ⟨gk - 1, by omega⟩
          have hk1 : decide ((k : Int) < (nn : Int)) = true := decide_eq_true (by omega)
          have hk2 : decide (k < nn) = true := decide_eq_true hk
          have hw1 : IntKind.i64.wrap ((k : Int) + 1) = (k : Int) + 1 := by rw [IntKind.wrap_i64]; omega
          have g0 : wr.cell? ⟨B, 0, none⟩ = some (.slice a.mo nms a.mc) := HOx.out.cell 0
          have g1 : wr.cell? ⟨B, 1, none⟩ = some (.slice a.no nn a.nc) := HOx.out.cell 1
          have g2 : wr.cell? ⟨B, 2, none⟩ = some (.slice a.ho nh a.hc) := HOx.out.cell 2
          have g3 : wr.cell? ⟨B, 3, none⟩ = some (.slice a.wo nw a.wc) := HOx.out.cell 3
          have g4 : wr.cell? ⟨B, 4, none⟩ = some (.int .i64 gr.st) := HOx.out.cell 4
          have gl := HOx.out.lt
          have HC := Lib.hid (fun W (hb : Below wr.heap.size wr W) => HBG.out M1 HIx.out.2 k u C hk W ((HGx.out.below hb).mono fun _ _ _ => trivial) (HUx.out.under hb HUx.out.lt) (HMx.out.under hb HMx.out.lt))
          obtain ⟨s, hs⟩ : ∃ s, begB gr (nulG gr) M1 k = s := ⟨_, rfl⟩
          have HSK := Lib.hid (show R M1 k = s from by rw [← HBR.out, hs])
          have HOR := Lib.hid (fun W => show Calls Try.prog 44 #[setV (M1 k), setV s] W fun e w' => e = .returned (setV s) ∧ Below W.heap.size W w' from by
            have h := rors_any (M1 k) s (HIx.out.2 k) (by rw [← HSK.out]; exact HRUL.out.fit HIx.out.2 k) W
            have hle : orS (M1 k) s = s := by have := HIx.out.1 k; rw [HSK.out] at this; exact this
            rw [hle] at h
            exact h)
          rw [hs] at HC
          clear hs
          have m0 : wr.cell? ⟨C, k * 4, none⟩ = some (.int .u64 ((M1 k).1 : Int)) := by rw [HMx.out.cell]; exact rowS_at M1 nn k 0 hk (by decide)
          have m1 : wr.cell? ⟨C, k * 4 + 1, none⟩ = some (.int .u64 ((M1 k).2.1 : Int)) := by rw [HMx.out.cell]; exact rowS_at M1 nn k 1 hk (by decide)
          have m2 : wr.cell? ⟨C, k * 4 + 2, none⟩ = some (.int .u64 ((M1 k).2.2.1 : Int)) := by rw [HMx.out.cell]; exact rowS_at M1 nn k 2 hk (by decide)
          have m3 : wr.cell? ⟨C, k * 4 + 3, none⟩ = some (.int .u64 ((M1 k).2.2.2 : Int)) := by rw [HMx.out.cell]; exact rowS_at M1 nn k 3 hk (by decide)
          have ml := HMx.out.lt
          have HWR := Lib.hid (show w.heap.size ≤ wr.heap.size from HBx.out.size)
          unfold setV at HC HOR
          go_upto_region 9 with fail
          go_cut [7] (fun s7 wx => ∃ D, s7 = .pointer (some ⟨D, 0, none⟩) ∧ Hid (B < D ∧ C < D ∧ w.heap.size ≤ D) ∧ Hid (Own wx D 39 (wrdS s)) ∧ Hid (Below wr.heap.size wr wx))
          case first =>
            refine wp_region_heldTo (fun Wx => C < Wx.heap.size ∧ Wx.cell? ⟨C, k * 4, none⟩ = some (.int .u64 ((M1 k).1 : Int)) ∧ Wx.cell? ⟨C, k * 4 + 1, none⟩ = some (.int .u64 ((M1 k).2.1 : Int)) ∧ Wx.cell? ⟨C, k * 4 + 2, none⟩ = some (.int .u64 ((M1 k).2.2.1 : Int)) ∧ Wx.cell? ⟨C, k * 4 + 3, none⟩ = some (.int .u64 ((M1 k).2.2.2 : Int)) ∧ B < Wx.heap.size ∧ Wx.cell? ⟨B, 0, none⟩ = some (.slice a.mo nms a.mc) ∧ Wx.cell? ⟨B, 1, none⟩ = some (.slice a.no nn a.nc) ∧ Wx.cell? ⟨B, 2, none⟩ = some (.slice a.ho nh a.hc) ∧ Wx.cell? ⟨B, 3, none⟩ = some (.slice a.wo nw a.wc) ∧ Wx.cell? ⟨B, 4, none⟩ = some (.int .i64 gr.st)) 11 (by kernel_rfl) ?_
            have HSS := Lib.hid (show C < (World.drew wr).heap.size ∧ (World.drew wr).cell? ⟨C, k * 4, none⟩ = some (.int .u64 ((M1 k).1 : Int)) ∧ (World.drew wr).cell? ⟨C, k * 4 + 1, none⟩ = some (.int .u64 ((M1 k).2.1 : Int)) ∧ (World.drew wr).cell? ⟨C, k * 4 + 2, none⟩ = some (.int .u64 ((M1 k).2.2.1 : Int)) ∧ (World.drew wr).cell? ⟨C, k * 4 + 3, none⟩ = some (.int .u64 ((M1 k).2.2.2 : Int)) ∧ B < (World.drew wr).heap.size ∧ (World.drew wr).cell? ⟨B, 0, none⟩ = some (.slice a.mo nms a.mc) ∧ (World.drew wr).cell? ⟨B, 1, none⟩ = some (.slice a.no nn a.nc) ∧ (World.drew wr).cell? ⟨B, 2, none⟩ = some (.slice a.ho nh a.hc) ∧ (World.drew wr).cell? ⟨B, 3, none⟩ = some (.slice a.wo nw a.wc) ∧ (World.drew wr).cell? ⟨B, 4, none⟩ = some (.int .i64 gr.st) from ⟨ml, m0, m1, m2, m3, gl, g0, g1, g2, g3, g4⟩)
            have HBD := Lib.hid (show B < wr.heap.size ∧ C < wr.heap.size from ⟨gl, ml⟩)
            have HKS := Lib.hid (fun (W : World) (h : Below wr.heap.size wr W) => show C < W.heap.size ∧ W.cell? ⟨C, k * 4, none⟩ = some (.int .u64 ((M1 k).1 : Int)) ∧ W.cell? ⟨C, k * 4 + 1, none⟩ = some (.int .u64 ((M1 k).2.1 : Int)) ∧ W.cell? ⟨C, k * 4 + 2, none⟩ = some (.int .u64 ((M1 k).2.2.1 : Int)) ∧ W.cell? ⟨C, k * 4 + 3, none⟩ = some (.int .u64 ((M1 k).2.2.2 : Int)) ∧ B < W.heap.size ∧ W.cell? ⟨B, 0, none⟩ = some (.slice a.mo nms a.mc) ∧ W.cell? ⟨B, 1, none⟩ = some (.slice a.no nn a.nc) ∧ W.cell? ⟨B, 2, none⟩ = some (.slice a.ho nh a.hc) ∧ W.cell? ⟨B, 3, none⟩ = some (.slice a.wo nw a.wc) ∧ W.cell? ⟨B, 4, none⟩ = some (.int .i64 gr.st) from ⟨Nat.lt_of_lt_of_le ml h.size, keepc m0 h, keepc m1 h, keepc m2 h, keepc m3 h, Nat.lt_of_lt_of_le gl h.size, keepc g0 h, keepc g1 h, keepc g2 h, keepc g3 h, keepc g4 h⟩)
            clear m0 m1 m2 m3 ml g0 g1 g2 g3 g4 gl
            refine heldTo.take (i := 0) (v := ?_) rfl (by kernel_rfl) (by kernel_rfl) (by kernel_rfl) (by kernel_rfl) (fun _ _ _ h => h) (Or.inl ⟨by rfl, ?_⟩) HSS.out ?_
            rotate_left
            · intro Wx hWx
              obtain ⟨q0, q1, q2, q3, q4, q5, q6, q7, q8, q9, qA⟩ := hWx
              go_simp
              try with_reducible rfl
            go_simp
            refine heldTo.take (i := 1) (v := ?_) rfl (by kernel_rfl) (by kernel_rfl) (by kernel_rfl) (by kernel_rfl) (fun _ _ _ h => h) (Or.inl ⟨by rfl, ?_⟩) HSS.out ?_
            rotate_left
            · intro Wx hWx
              obtain ⟨q0, q1, q2, q3, q4, q5, q6, q7, q8, q9, qA⟩ := hWx
              go_simp
              try with_reducible rfl
            go_simp
            refine heldTo.take (i := 2) (v := ?_) rfl (by kernel_rfl) (by kernel_rfl) (by kernel_rfl) (by kernel_rfl) (fun _ _ _ h => h) (Or.inl ⟨by rfl, ?_⟩) HSS.out ?_
            rotate_left
            · intro Wx hWx
              obtain ⟨q0, q1, q2, q3, q4, q5, q6, q7, q8, q9, qA⟩ := hWx
              go_simp
              try with_reducible rfl
            go_simp
            refine heldTo.take (i := 3) (v := ?_) rfl (by kernel_rfl) (by kernel_rfl) (by kernel_rfl) (by kernel_rfl) (fun _ _ _ h => h) (Or.inl ⟨by rfl, ?_⟩) HSS.out ?_
            rotate_left
            · intro Wx hWx
              obtain ⟨q0, q1, q2, q3, q4, q5, q6, q7, q8, q9, qA⟩ := hWx
              go_simp
              try with_reducible rfl
            go_simp
            refine heldTo.take (i := 4) (v := ?_) rfl (by kernel_rfl) (by kernel_rfl) (by kernel_rfl) (by kernel_rfl) (fun _ _ _ h => h) (Or.inl ⟨by rfl, ?_⟩) HSS.out ?_
            rotate_left
            · intro Wx hWx
              obtain ⟨q0, q1, q2, q3, q4, q5, q6, q7, q8, q9, qA⟩ := hWx
              go_simp
              try with_reducible rfl
            go_simp
            refine heldTo.take (i := 5) (v := ?_) rfl (by kernel_rfl) (by kernel_rfl) (by kernel_rfl) (by kernel_rfl) (fun _ _ _ h => h) (Or.inl ⟨by rfl, ?_⟩) HSS.out ?_
            rotate_left
            · intro Wx hWx
              obtain ⟨q0, q1, q2, q3, q4, q5, q6, q7, q8, q9, qA⟩ := hWx
              go_simp
              try with_reducible rfl
            go_simp
            refine heldTo.take (i := 6) (v := ?_) rfl (by kernel_rfl) (by kernel_rfl) (by kernel_rfl) (by kernel_rfl) (fun _ _ _ h => h) (Or.inl ⟨by rfl, ?_⟩) HSS.out ?_
            rotate_left
            · intro Wx hWx
              obtain ⟨q0, q1, q2, q3, q4, q5, q6, q7, q8, q9, qA⟩ := hWx
              go_simp
              try with_reducible rfl
            go_simp
            refine heldTo.take (i := 7) (v := ?_) rfl (by kernel_rfl) (by kernel_rfl) (by kernel_rfl) (by kernel_rfl) (fun _ _ _ h => h) (Or.inl ⟨by rfl, ?_⟩) HSS.out ?_
            rotate_left
            · intro Wx hWx
              obtain ⟨q0, q1, q2, q3, q4, q5, q6, q7, q8, q9, qA⟩ := hWx
              go_simp
              try with_reducible rfl
            go_simp
            refine heldTo.two (i := 8) (k := 10) (by kernel_rfl) (op_call (f := 76) (vs := #[.agg #[.slice a.mo nms a.mc, .slice a.no nn a.nc, .slice a.ho nh a.hc, .slice a.wo nw a.wc, .int .i64 gr.st], .slice (some ⟨u, 0, none⟩) nn nn, .slice (some ⟨C, 0, none⟩) nn nn, .int .i64 (k : Int)]) rfl (by kernel_rfl) (by go_simp) ((HC.out (World.drew wr) ((Below.refl _ _).drew)).mono ?_)) (op_value (v := .pointer (some ⟨(World.drew wr).heap.size, 0, none⟩)) (w' := (World.drew wr).alloc (.cells #[.int .u64 0, .int .u64 0, .int .u64 0, .int .u64 0] 39)) rfl (by kernel_rfl) (by go_simp) ?_)
            · rintro e v1 ⟨he, hbq⟩
              refine ⟨_, he, ?_⟩
              have hb1 : Below wr.heap.size wr v1 := ((Below.refl _ _).drew).trans hbq
              refine ⟨.inr (HKS.out v1 hb1), ?_⟩
              go_simp
              refine heldTo.two (i := 9) (k := 10) (by kernel_rfl) (op_call (f := 44) (vs := #[.agg #[.int .u64 ((M1 k).1 : Int), .int .u64 ((M1 k).2.1 : Int), .int .u64 ((M1 k).2.2.1 : Int), .int .u64 ((M1 k).2.2.2 : Int)], .agg #[.int .u64 (s.1 : Int), .int .u64 (s.2.1 : Int), .int .u64 (s.2.2.1 : Int), .int .u64 (s.2.2.2 : Int)]]) rfl (by kernel_rfl) (by go_simp) ((HOR.out v1).mono ?_)) (op_value (v := .pointer (some ⟨v1.heap.size, 0, none⟩)) (w' := v1.alloc (.cells #[.int .u64 0, .int .u64 0, .int .u64 0, .int .u64 0] 39)) rfl (by kernel_rfl) (by go_simp) ?_)
              · rintro e v2 ⟨he2, hbq2⟩
                refine ⟨_, he2, ?_⟩
                have hb2 : Below wr.heap.size wr v2 := hb1.trans (hbq2.mono hb1.size)
                refine ⟨.inr (HKS.out v2 hb2), ?_⟩
                go_simp
                refine heldTo.one (i := 10) (by kernel_rfl) (op_value (v := .pointer (some ⟨v2.heap.size, 0, none⟩)) (w' := v2.alloc (.cells #[.int .u64 0, .int .u64 0, .int .u64 0, .int .u64 0] 39)) rfl (by kernel_rfl) (by go_simp) ?_)
                have hba : Below v2.heap.size v2 (v2.alloc (.cells #[.int .u64 0, .int .u64 0, .int .u64 0, .int .u64 0] 39)) := (Below.refl _ _).alloc (Nat.le_refl _) _
                have hb3 := hb2.trans (hba.mono hb2.size)
                have HO3 := Lib.hid (Own.fresh v2 39 [.int .u64 0, .int .u64 0, .int .u64 0, .int .u64 0])
                refine ⟨.inr (HKS.out _ hb3), ?_⟩
                clear hba
                obtain ⟨D, hD0⟩ : ∃ D, v2.heap.size = D := ⟨_, rfl⟩
                have hDl : wr.heap.size ≤ D := by rw [← hD0]; exact hb2.size
                rw [hD0] at HO3
                generalize v2.alloc (.cells #[.int .u64 0, .int .u64 0, .int .u64 0, .int .u64 0] 39) = v3 at *
                try rw [hD0]
                clear hD0
                go_simp
                obtain ⟨t0, t1, t2, t3, f0, f1, f2, f3⟩ := HO3.out.four
                have tl := HO3.out.lt
                refine heldTo.one (i := 11) (by kernel_rfl) (op_store (w' := set4 v3 D (.int .u64 (s.1 : Int)) (.int .u64 (s.2.1 : Int)) (.int .u64 (s.2.2.1 : Int)) (.int .u64 (s.2.2.2 : Int))) rfl (by kernel_rfl) 39 (.tmp 7) (.tmp 30) rfl _ _ rfl rfl (by go_simp; try rfl) ⟨.inl rfl, ?_⟩)
                refine heldTo.done (by kernel_rfl) ?_ _
                go_simp
                try go_wp2
                go_meet
                exact ⟨D, rfl, Lib.hid ⟨Nat.lt_of_lt_of_le HBD.out.1 hDl, Nat.lt_of_lt_of_le HBD.out.2 hDl, Nat.le_trans HWR.out hDl⟩, Lib.hid HO3.out.put4, Lib.hid (below_put4 hb3 hDl _ _ _ _)⟩
              · have hba : Below v1.heap.size v1 (v1.alloc (.cells #[.int .u64 0, .int .u64 0, .int .u64 0, .int .u64 0] 39)) := (Below.refl _ _).alloc (Nat.le_refl _) _
                have hb2 := hb1.trans (hba.mono hb1.size)
                have HO2 := Lib.hid (Own.fresh v1 39 [.int .u64 0, .int .u64 0, .int .u64 0, .int .u64 0])
                refine ⟨.inr (HKS.out _ hb2), ?_⟩
                clear hba
                obtain ⟨D, hD0⟩ : ∃ D, v1.heap.size = D := ⟨_, rfl⟩
                have hDl : wr.heap.size ≤ D := by rw [← hD0]; exact hb1.size
                rw [hD0] at HO2
                generalize v1.alloc (.cells #[.int .u64 0, .int .u64 0, .int .u64 0, .int .u64 0] 39) = v2 at *
                try rw [hD0]
                clear hD0
                go_simp
                refine heldTo.one (i := 9) (by kernel_rfl) (op_call (f := 44) (vs := #[.agg #[.int .u64 ((M1 k).1 : Int), .int .u64 ((M1 k).2.1 : Int), .int .u64 ((M1 k).2.2.1 : Int), .int .u64 ((M1 k).2.2.2 : Int)], .agg #[.int .u64 (s.1 : Int), .int .u64 (s.2.1 : Int), .int .u64 (s.2.2.1 : Int), .int .u64 (s.2.2.2 : Int)]]) rfl (by kernel_rfl) (by go_simp) ((HOR.out v2).mono ?_))
                rintro e v3 ⟨he3, hbq3⟩
                refine ⟨_, he3, ?_⟩
                have hb3 := hb2.trans (hbq3.mono hb2.size)
                have HO3 := Lib.hid (HO2.out.under hbq3 HO2.out.lt)
                refine ⟨.inr (HKS.out _ hb3), ?_⟩
                go_simp
                obtain ⟨t0, t1, t2, t3, f0, f1, f2, f3⟩ := HO3.out.four
                have tl := HO3.out.lt
                refine heldTo.one (i := 11) (by kernel_rfl) (op_store (w' := set4 v3 D (.int .u64 (s.1 : Int)) (.int .u64 (s.2.1 : Int)) (.int .u64 (s.2.2.1 : Int)) (.int .u64 (s.2.2.2 : Int))) rfl (by kernel_rfl) 39 (.tmp 7) (.tmp 30) rfl _ _ rfl rfl (by go_simp; try rfl) ⟨.inl rfl, ?_⟩)
                refine heldTo.done (by kernel_rfl) ?_ _
                go_simp
                try go_wp2
                go_meet
                exact ⟨D, rfl, Lib.hid ⟨Nat.lt_of_lt_of_le HBD.out.1 hDl, Nat.lt_of_lt_of_le HBD.out.2 hDl, Nat.le_trans HWR.out hDl⟩, Lib.hid HO3.out.put4, Lib.hid (below_put4 hb3 hDl _ _ _ _)⟩
            · have hb1 : Below wr.heap.size wr ((World.drew wr).alloc (.cells #[.int .u64 0, .int .u64 0, .int .u64 0, .int .u64 0] 39)) := ((Below.refl _ _).drew).alloc (Nat.le_refl _) _
              have HO1 := Lib.hid (Own.fresh (World.drew wr) 39 [.int .u64 0, .int .u64 0, .int .u64 0, .int .u64 0])
              refine ⟨.inr (HKS.out _ hb1), ?_⟩
              obtain ⟨D, hD0⟩ : ∃ D, (World.drew wr).heap.size = D := ⟨_, rfl⟩
              have hDl : wr.heap.size ≤ D := Nat.le_of_eq hD0
              rw [hD0] at HO1
              generalize (World.drew wr).alloc (.cells #[.int .u64 0, .int .u64 0, .int .u64 0, .int .u64 0] 39) = v1 at *
              try rw [hD0]
              clear hD0
              go_simp
              refine heldTo.one (i := 8) (by kernel_rfl) (op_call (f := 76) (vs := #[.agg #[.slice a.mo nms a.mc, .slice a.no nn a.nc, .slice a.ho nh a.hc, .slice a.wo nw a.wc, .int .i64 gr.st], .slice (some ⟨u, 0, none⟩) nn nn, .slice (some ⟨C, 0, none⟩) nn nn, .int .i64 (k : Int)]) rfl (by kernel_rfl) (by go_simp) ((HC.out v1 hb1).mono ?_))
              rintro e v2 ⟨he2, hbq2⟩
              refine ⟨_, he2, ?_⟩
              have hb2 := hb1.trans (hbq2.mono hb1.size)
              have HO2 := Lib.hid (HO1.out.under hbq2 HO1.out.lt)
              refine ⟨.inr (HKS.out _ hb2), ?_⟩
              go_simp
              refine heldTo.one (i := 9) (by kernel_rfl) (op_call (f := 44) (vs := #[.agg #[.int .u64 ((M1 k).1 : Int), .int .u64 ((M1 k).2.1 : Int), .int .u64 ((M1 k).2.2.1 : Int), .int .u64 ((M1 k).2.2.2 : Int)], .agg #[.int .u64 (s.1 : Int), .int .u64 (s.2.1 : Int), .int .u64 (s.2.2.1 : Int), .int .u64 (s.2.2.2 : Int)]]) rfl (by kernel_rfl) (by go_simp) ((HOR.out v2).mono ?_))
              rintro e v3 ⟨he3, hbq3⟩
              refine ⟨_, he3, ?_⟩
              have hb3 := hb2.trans (hbq3.mono hb2.size)
              have HO3 := Lib.hid (HO2.out.under hbq3 HO2.out.lt)
              refine ⟨.inr (HKS.out _ hb3), ?_⟩
              go_simp
              obtain ⟨t0, t1, t2, t3, f0, f1, f2, f3⟩ := HO3.out.four
              have tl := HO3.out.lt
              refine heldTo.one (i := 11) (by kernel_rfl) (op_store (w' := set4 v3 D (.int .u64 (s.1 : Int)) (.int .u64 (s.2.1 : Int)) (.int .u64 (s.2.2.1 : Int)) (.int .u64 (s.2.2.2 : Int))) rfl (by kernel_rfl) 39 (.tmp 7) (.tmp 30) rfl _ _ rfl rfl (by go_simp; try rfl) ⟨.inl rfl, ?_⟩)
              refine heldTo.done (by kernel_rfl) ?_ _
              go_simp
              try go_wp2
              go_meet
              exact ⟨D, rfl, Lib.hid ⟨Nat.lt_of_lt_of_le HBD.out.1 hDl, Nat.lt_of_lt_of_le HBD.out.2 hDl, Nat.le_trans HWR.out hDl⟩, Lib.hid HO3.out.put4, Lib.hid (below_put4 hb3 hDl _ _ _ _)⟩
          case rest =>
            obtain ⟨D, rfl, HDL, HSZ, hcb⟩ := hcut
            have hba := hcb.out
            generalize wc = wz at *
            have HMz := Lib.hid (HMx.out.under hba HMx.out.lt)
            have HOz := Lib.hid (HOx.out.under hba HOx.out.lt)
            have HUz := Lib.hid (HUx.out.under hba HUx.out.lt)
            have HGz := Lib.hid (HGx.out.below hba)
            have HBz := Lib.hid (HBx.out.trans (hba.mono HBx.out.size))
            clear hba hcb HMx HOx HGx HBx HUx g0 g1 g2 g3 g4 gl m0 m1 m2 m3 ml HC HOR
            unfold wrdS at HSZ
            obtain ⟨d0, d1, d2, d3, -⟩ := HSZ.out.four
            have dl := HSZ.out.lt
            have m0 : wz.cell? ⟨C, k * 4, none⟩ = some (.int .u64 ((M1 k).1 : Int)) := by rw [HMz.out.cell]; exact rowS_at M1 nn k 0 hk (by decide)
            have m1 : wz.cell? ⟨C, k * 4 + 1, none⟩ = some (.int .u64 ((M1 k).2.1 : Int)) := by rw [HMz.out.cell]; exact rowS_at M1 nn k 1 hk (by decide)
            have m2 : wz.cell? ⟨C, k * 4 + 2, none⟩ = some (.int .u64 ((M1 k).2.2.1 : Int)) := by rw [HMz.out.cell]; exact rowS_at M1 nn k 2 hk (by decide)
            have m3 : wz.cell? ⟨C, k * 4 + 3, none⟩ = some (.int .u64 ((M1 k).2.2.2 : Int)) := by rw [HMz.out.cell]; exact rowS_at M1 nn k 3 hk (by decide)
            have ml := HMz.out.lt
            have HEQ := Lib.hid (eqQS_yes (x := s) (y := M1 k))
            obtain ⟨q, hq⟩ : ∃ q, M1 k = q := ⟨_, rfl⟩
            have HQ := Lib.hid hq
            rw [hq] at m0 m1 m2 m3 HEQ
            clear hq
            obtain ⟨b, hb⟩ : ∃ b, eqQS s q = b := ⟨_, rfl⟩
            rw [hb] at HEQ
            go_wp2_with fail
            go_quiet (fail)
            clear hb
            have hbd := below_drewN (Below.refl wz.heap.size wz) nq
            have HMw := Lib.hid (HMz.out.under hbd HMz.out.lt)
            have HOw := Lib.hid (HOz.out.under hbd HOz.out.lt)
            have HUw := Lib.hid (HUz.out.under hbd HUz.out.lt)
            have HSw := Lib.hid (HSZ.out.under hbd HSZ.out.lt)
            have HGw := Lib.hid (HGz.out.below hbd)
            have HBw := Lib.hid (HBz.out.trans (hbd.mono HBz.out.size))
            clear hbd HMz HOz HUz HSZ HGz HBz d0 d1 d2 d3 dl m0 m1 m2 m3 ml
            generalize wz.drewN nq = wv at *
            cases b with
            | true =>
              have HPN := Lib.hid (show passS R nn 0 M false = passS R (nn - (k + 1)) (k + 1) M1 z from HP.out.trans (passS_miss hk (by rw [HSK.out, HQ.out]; exact HEQ.out.1 rfl)))
              go_wp2
              go_roundg j
              case measure => omega
              case rel => exact ⟨k + 1, M1, z, rfl, by go_num, by omega, HPN, HIx, HMw, HOw, HUw, HGw, HBw⟩
            | false =>
              have HPN := Lib.hid (show passS R nn 0 M false = passS R (nn - (k + 1)) (k + 1) (setS M1 k s) true from by
                rw [HP.out, passS_hit hk (by rw [HSK.out, HQ.out]; intro e; have := HEQ.out.2 e; cases this), HSK.out])
              have HIN := Lib.hid (show InvS R (setS M1 k s) from by have := HIx.out.set HRUL.out k; rwa [HSK.out] at this)
              obtain ⟨d0, d1, d2, d3, -⟩ := HSw.out.four
              have dl := HSw.out.lt
              have f0 : wv.frozen? ⟨C, k * 4, none⟩ = false := HMw.out.thaw _
              have f1 : wv.frozen? ⟨C, k * 4 + 1, none⟩ = false := HMw.out.thaw _
              have f2 : wv.frozen? ⟨C, k * 4 + 2, none⟩ = false := HMw.out.thaw _
              have f3 : wv.frozen? ⟨C, k * 4 + 3, none⟩ = false := HMw.out.thaw _
              have m0 : wv.cell? ⟨C, k * 4, none⟩ = some (.int .u64 ((M1 k).1 : Int)) := by rw [HMw.out.cell]; exact rowS_at M1 nn k 0 hk (by decide)
              have m1 : wv.cell? ⟨C, k * 4 + 1, none⟩ = some (.int .u64 ((M1 k).2.1 : Int)) := by rw [HMw.out.cell]; exact rowS_at M1 nn k 1 hk (by decide)
              have m2 : wv.cell? ⟨C, k * 4 + 2, none⟩ = some (.int .u64 ((M1 k).2.2.1 : Int)) := by rw [HMw.out.cell]; exact rowS_at M1 nn k 2 hk (by decide)
              have m3 : wv.cell? ⟨C, k * 4 + 3, none⟩ = some (.int .u64 ((M1 k).2.2.2 : Int)) := by rw [HMw.out.cell]; exact rowS_at M1 nn k 3 hk (by decide)
              have ml := HMw.out.lt
              obtain ⟨W4, hW4⟩ : ∃ W4, (((wv.setCell ⟨C, k * 4, none⟩ (.int .u64 (s.1 : Int))).setCell ⟨C, k * 4 + 1, none⟩ (.int .u64 (s.2.1 : Int))).setCell ⟨C, k * 4 + 2, none⟩ (.int .u64 (s.2.2.1 : Int))).setCell ⟨C, k * 4 + 3, none⟩ (.int .u64 (s.2.2.2 : Int)) = W4 := ⟨_, rfl⟩
              have hbt : But (fun j => j = C) wv W4 := by
                rw [← hW4]
                exact ((((But.refl (fun j => j = C) wv).setCell (p := ⟨C, k * 4, none⟩) (fun _ => rfl) _).setCell (p := ⟨C, k * 4 + 1, none⟩) (fun _ => rfl) _).setCell (p := ⟨C, k * 4 + 2, none⟩) (fun _ => rfl) _).setCell (p := ⟨C, k * 4 + 3, none⟩) (fun _ => rfl) _
              have HMq := Lib.hid (show Own W4 C 39 (rowS (setS M1 k s) nn) from by
                rw [← hW4, ← rowS_set M1 nn k s hk]
                exact (((HMw.out.put (k * 4) (.int .u64 (s.1 : Int))).put (k * 4 + 1) (.int .u64 (s.2.1 : Int))).put (k * 4 + 2) (.int .u64 (s.2.2.1 : Int))).put (k * 4 + 3) (.int .u64 (s.2.2.2 : Int)))
              have HOq := Lib.hid (HOw.out.but hbt (by have := HDL.out; have := HO2l.out; show ¬ B = C; omega))
              have HUq := Lib.hid (HUw.out.but hbt (by have := HU2l.out; show ¬ u = C; omega))
              have HGq := Lib.hid (HGw.out.but hbt (fun j _ hj h => by have := HBE.out; have := HO2l.out; have : j = C := h; omega))
              have HBq := Lib.hid (HBw.out.trans (hbt.below (B := w.heap.size) HBw.out.size (fun j h => by have := HBE.out; have := HO2l.out; omega)))
              have HW4 := Lib.hid hW4
              clear hbt hW4 HMw HOw HUw HGw HBw
              go_wp2
              rw [HW4.out]
              go_roundg j
              case measure => omega
              case rel => exact ⟨k + 1, setS M1 k s, true, rfl, by go_num, by omega, HPN, HIN, HMq, HOq, HUq, HGq, HBq⟩
        · have hk1 : decide ((k : Int) < (nn : Int)) = false := decide_eq_false (by omega)
          have hk2 : decide (k < nn) = false := decide_eq_false hk
          have HP2 := Lib.hid (show passS R nn 0 M false = (M1, z) from HP.out.trans (by rw [show nn - k = 0 by omega]; rfl))
          have HSN := Lib.hid (show RES = if z = true then leastS R nn f M1 else M1 from by
            rw [HS1.out]
            show (match passS R nn 0 M false with
              | (M', true) => leastS R nn f M'
              | (M', false) => M') = _
            rw [HP2.out]
            cases z <;> rfl)
          have HLN := Lib.hid (show z = true → lackS M1 nn < f from fun h => by
            have h1 := (passS_lack HRUL.out nn nn 0 M false (by omega) HI.out).2 rfl (by rw [HP2.out]; exact h)
            rw [HP2.out] at h1
            have h1 : lackS M1 nn < lackS M nn := h1
            have h2 := HL1.out
            omega)
          go_wp2
          go_roundg f
          case measure => omega
          case rel => exact ⟨M1, z, rfl, HSN, HLN, HIx, HMx, HOx, HUx, HGx, HBx⟩
end Go.Proofs.Ytgikhkjnemglbaa

namespace Go.Proofs.Ytgikhkjnemglbaa
set_option linter.unusedVariables false
open Go.RowKit Go.Sort

set_option maxRecDepth 1000000 in
set_option maxHeartbeats 1600000 in
theorem sames_any (M : Nat → Set4) (N g h : Nat) (hN : N ≤ 160) (w : World) (hm : Own w g 39 (rowS M N)) (hh : Own w h 39 (rowS M N)) :
    Calls Try.prog 41 #[.slice (some ⟨g, 0, none⟩) N N, .slice (some ⟨h, 0, none⟩) N N] w fun e w' => e = .returned (.bool true) ∧ Below w.heap.size w w' := by
  have HM := Lib.hid hm
  have HH := Lib.hid hh
  have HB0 := Lib.hid (Below.refl w.heap.size w)
  clear hm hh
  have hNi : (N : Int) ≤ 160 := by omega
  go_enter Try.func41, Try.ntmps41
  go_wp2_with fail
  go_loopw [5] (fun v5 wr => ∃ k : Nat, v5 = .int .i64 (k : Int) ∧ (k : Int) ≤ N ∧ Hid (Below w.heap.size w wr)) (fun v5 _ => N - (intOf v5).toNat)
  case atStart => exact ⟨0, rfl, by omega, HB0⟩
  case round =>
    obtain ⟨k, rfl, hk, HB⟩ := hrel
    by_cases hkn : (k : Int) < N
    · have hkn1 : decide ((k : Int) < N) = true := decide_eq_true hkn
      have hkn2 : decide (k < N) = true := decide_eq_true (by omega)
      have HMr := Lib.hid (HM.out.under HB.out HM.out.lt)
      have HHr := Lib.hid (HH.out.under HB.out HH.out.lt)
      obtain ⟨s, hs⟩ : ∃ s, M k = s := ⟨_, rfl⟩
      have m0 : wr.cell? ⟨g, k * 4, none⟩ = some (.int .u64 (s.1 : Int)) := by rw [HMr.out.cell, ← hs]; exact rowS_at M N k 0 (by omega) (by decide)
      have m1 : wr.cell? ⟨g, k * 4 + 1, none⟩ = some (.int .u64 (s.2.1 : Int)) := by rw [HMr.out.cell, ← hs]; exact rowS_at M N k 1 (by omega) (by decide)
      have m2 : wr.cell? ⟨g, k * 4 + 2, none⟩ = some (.int .u64 (s.2.2.1 : Int)) := by rw [HMr.out.cell, ← hs]; exact rowS_at M N k 2 (by omega) (by decide)
      have m3 : wr.cell? ⟨g, k * 4 + 3, none⟩ = some (.int .u64 (s.2.2.2 : Int)) := by rw [HMr.out.cell, ← hs]; exact rowS_at M N k 3 (by omega) (by decide)
      have h0 : wr.cell? ⟨h, k * 4, none⟩ = some (.int .u64 (s.1 : Int)) := by rw [HHr.out.cell, ← hs]; exact rowS_at M N k 0 (by omega) (by decide)
      have h1 : wr.cell? ⟨h, k * 4 + 1, none⟩ = some (.int .u64 (s.2.1 : Int)) := by rw [HHr.out.cell, ← hs]; exact rowS_at M N k 1 (by omega) (by decide)
      have h2 : wr.cell? ⟨h, k * 4 + 2, none⟩ = some (.int .u64 (s.2.2.1 : Int)) := by rw [HHr.out.cell, ← hs]; exact rowS_at M N k 2 (by omega) (by decide)
      have h3 : wr.cell? ⟨h, k * 4 + 3, none⟩ = some (.int .u64 (s.2.2.2 : Int)) := by rw [HHr.out.cell, ← hs]; exact rowS_at M N k 3 (by omega) (by decide)
      have ml := HMr.out.lt
      have hl := HHr.out.lt
      have hw1 : IntKind.i64.wrap ((k : Int) + 1) = (k : Int) + 1 := by rw [IntKind.wrap_i64]; omega
      have hqq : eqQS s s = true := eqQS_yes.2 rfl
      clear hs
      go_wp2_with fail
      go_quiet (fail)
      have HBn := Lib.hid (below_drewN HB.out nq)
      go_wp2
      go_roundw
      case rel => exact ⟨k + 1, by go_num, by omega, HBn⟩
      case measure => simp [intOf]; omega
    · have hkn1 : decide ((k : Int) < N) = false := decide_eq_false hkn
      have hkn2 : decide (k < N) = false := decide_eq_false (by omega)
      go_wp2
      go_ret
      exact ⟨rfl, HB.out⟩
end Go.Proofs.Ytgikhkjnemglbaa

namespace Go.Proofs.Ytgikhkjnemglbaa
set_option linter.unusedVariables false
open Go.RowKit Go.Sort

set_option maxRecDepth 1000000 in
set_option maxHeartbeats 9600000 in
theorem tells15_walk (l : List ByteArray) (ao : Option Addr) (cap : Nat) (s : ByteArray) (w : World) (hl : HasN w ao l) : Calls Try.prog 11 #[.slice ao l.length cap, .string s] w fun e w' => e = .returned (.bool true) ∧ Below w.heap.size w w' := by
  have HJD := Lib.hid (joined15_any l ao cap s w hl)
  obtain ⟨R, hR⟩ : ∃ R, jndO l s = R := ⟨_, rfl⟩
  have HR := Lib.hid hR
  rw [hR] at HJD
  obtain ⟨nl, hnl⟩ : ∃ n, l.length = n := ⟨_, rfl⟩
  rw [hnl] at HJD
  rw [hnl]
  clear hl hR hnl
  go_enter Try.func11, Try.ntmps11
  go_wp2_with fail
  refine HJD.out.mono ?_
  rintro e w2 ⟨hE, hb2⟩
  have HB2 := Lib.hid hb2
  clear hb2 HJD
  cases R with
  | none =>
    have hE' : e = .returned (.tuple #[.agg #[.slice none 0 0, .slice none 0 0, .slice none 0 0, .slice none 0 0, .int .i64 0], .bool false]) := hE
    subst hE'
    have hbl : Below w2.heap.size w2 (w2.alloc (.cells #[.slice none 0 0, .slice none 0 0, .slice none 0 0, .slice none 0 0, .int .i64 0] 31)) := (Below.refl _ _).alloc (Nat.le_refl _) _
    have HB3 := Lib.hid (HB2.out.trans (hbl.mono HB2.out.size))
    clear hbl hE
    go_upto_region 2 with fail
    generalize w2.alloc (.cells #[.slice none 0 0, .slice none 0 0, .slice none 0 0, .slice none 0 0, .int .i64 0] 31) = w3 at *
    have HAW := Lib.hid (awake15_any w3)
    go_wp2_with fail
    refine HAW.out.mono ?_
    rintro e w4 ⟨he, hb4⟩
    subst he
    have HB4 := Lib.hid (HB3.out.trans (hb4.mono HB3.out.size))
    clear hb4
    go_wp2
    go_ret
    exact ⟨rfl, HB4.out⟩
  | some gr =>
    obtain ⟨a, he, hG⟩ : ∃ a, e = .returned (.tuple #[grv gr a, .bool true]) ∧ HasG w2 gr a := hE
    subst he
    have hg : Good gr := jnd_good HR.out
    have HGD := Lib.hid hg
    have har := jnd_ar HR.out
    have HAR := Lib.hid har
    have hgs : Gst gr := ⟨hg, fun x hx => (har x hx).2, fun x hx h1 => ((har x hx).text h1).1⟩
    have hbl : Below w2.heap.size w2 (w2.alloc (.cells #[.slice a.mo gr.ms.length a.mc, .slice a.no gr.ns.length a.nc, .slice a.ho gr.hs.length a.hc, .slice a.wo gr.ws.length a.wc, .int .i64 gr.st] 31)) := (Below.refl _ _).alloc (Nat.le_refl _) _
    have HB3 := Lib.hid (HB2.out.trans (hbl.mono HB2.out.size))
    have HG3 := Lib.hid (hG.below hbl)
    have HO3 := Lib.hid (Own.fresh w2 31 [.slice a.mo gr.ms.length a.mc, .slice a.no gr.ns.length a.nc, .slice a.ho gr.hs.length a.hc, .slice a.wo gr.ws.length a.wc, .int .i64 gr.st])
    have HN := Lib.hid (fun W (h : HasG W gr a) => ffirst_any gr a hgs W h)
    have HM := Lib.hid (fun W (h : HasG W gr a) => rfirst_any gr a hgs W h)
    unfold FsE at HN HM
    unfold grv
    unfold grv at HN HM
    have hn160 := hg.len
    obtain ⟨F, hF⟩ : ∃ F, firG gr = F := ⟨_, rfl⟩
    rw [hF] at HN HM
    have HSA := Lib.hid (fun (W : World) g h h1 h2 => sames_any F gr.ns.length g h hg.len W h1 h2)
    obtain ⟨nn, hnn⟩ : ∃ z, gr.ns.length = z := ⟨_, rfl⟩
    obtain ⟨nh, hnh⟩ : ∃ z, gr.hs.length = z := ⟨_, rfl⟩
    obtain ⟨nms, hnms⟩ : ∃ z, gr.ms.length = z := ⟨_, rfl⟩
    obtain ⟨nw, hnw⟩ : ∃ z, gr.ws.length = z := ⟨_, rfl⟩
    have HNN := Lib.hid (And.intro hnn hnh)
    simp only [hnn, hnh, hnms, hnw] at HB3 HG3 HO3 HN HM HSA hbl
    rw [hnn] at hn160
    rw [hnn, hnh, hnms, hnw]
    clear hnn hnh hnms hnw hG hg hbl hF har hgs
    go_upto_region 2 with fail
    obtain ⟨B, hB⟩ : ∃ B, w2.heap.size = B := ⟨_, rfl⟩
    rw [hB] at HO3
    generalize w2.alloc (.cells #[.slice a.mo nms a.mc, .slice a.no nn a.nc, .slice a.ho nh a.hc, .slice a.wo nw a.wc, .int .i64 gr.st] 31) = w3 at *
    try rw [hB]
    clear hB HB2
    have HC := Lib.hid (show ∀ W, Below w3.heap.size w3 W → W.cell? ⟨B, 0, none⟩ = some (.slice a.mo nms a.mc) ∧ W.cell? ⟨B, 1, none⟩ = some (.slice a.no nn a.nc) ∧ W.cell? ⟨B, 2, none⟩ = some (.slice a.ho nh a.hc) ∧ W.cell? ⟨B, 3, none⟩ = some (.slice a.wo nw a.wc) ∧ W.cell? ⟨B, 4, none⟩ = some (.int .i64 gr.st) ∧ B < W.heap.size from fun W h => by
      have q := HO3.out.under h HO3.out.lt
      exact ⟨q.cell 0, q.cell 1, q.cell 2, q.cell 3, q.cell 4, q.lt⟩)
    obtain ⟨g0, g1, g2, g3, g4, gl⟩ := HC.out w3 (Below.refl _ _)
    go_wp2_with fail
    have HZ0 := Lib.hid (show Below w3.heap.size w3 (World.drew w3) from (Below.refl _ _).drew)
    go_region_with (first
      | (go_at_call 40; refine (awake15_any _).mono ?_; rintro e wA ⟨rfl, hbA⟩; have HA := Lib.hid (HZ0.out.trans (hbA.mono HZ0.out.size)); clear hbA; obtain ⟨k0, k1, k2, k3, k4, kl⟩ := HC.out wA HA.out)
      | (go_at_call 42; refine (HN.out wA (HG3.out.below HA.out)).mono ?_; rintro e wB ⟨g1, rfl, o1, -, hbB⟩; have HO1 := Lib.hid o1; have HBq := Lib.hid (HA.out.trans (hbB.mono HA.out.size)); clear o1 hbB; clear k0 k1 k2 k3 k4 kl; obtain ⟨k0, k1, k2, k3, k4, kl⟩ := HC.out wB HBq.out)
      | (go_at_call 43; refine (HM.out wB (HG3.out.below HBq.out)).mono ?_; rintro e wC ⟨g2, rfl, o2, -, hbC⟩; have HO2 := Lib.hid (And.intro (HO1.out.under hbC HO1.out.lt) o2); have HC2 := Lib.hid (HBq.out.trans (hbC.mono HBq.out.size)); clear o2 hbC)
      | (go_at_call 41; refine (HSA.out _ g1 g2 HO2.out.1 HO2.out.2).mono ?_; rintro e wG ⟨rfl, hbG⟩; have HG9 := Lib.hid (HC2.out.trans (hbG.mono HC2.out.size)); clear hbG))
    all_goals
      have HBZ := Lib.hid (HB3.out.trans (HG9.out.mono HB3.out.size))
      go_wp2
      go_ret
      exact ⟨rfl, HBZ.out⟩
end Go.Proofs.Ytgikhkjnemglbaa
