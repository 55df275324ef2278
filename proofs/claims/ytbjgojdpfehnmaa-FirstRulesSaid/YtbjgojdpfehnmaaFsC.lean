/- First bytes: the program's, walked. -/
import Derived.Test.YtbjgojdpfehnmaaFsB
import Derived.Deep.LoopGhost
import Derived.Deep.CutBlock
namespace Go.Proofs.Ytbjgojdpfehnmaa
set_option linter.unusedVariables false
open Go.RowKit Go.Sort
theorem info_setS : (Try.prog.info? 40).map (fun i => (i.zero, i.size, i.bytes)) = some (some (.agg #[.int .u64 0, .int .u64 0, .int .u64 0, .int .u64 0]), 4, 32) := by kernel_rfl
theorem made4 (n : Nat) : madeCells #[Value.int .u64 0, .int .u64 0, .int .u64 0, .int .u64 0] (n * 4) = Array.replicate (n * 4) (Value.int .u64 0) := by
 apply Array.ext
 ·
  simp [madeCells]
 ·
  intro i h1 h2
  have h4 : i % 4 = 0 ∨ i % 4 = 1 ∨ i % 4 = 2 ∨ i % 4 = 3 := by omega
  simp only [madeCells, Array.getElem_map, Array.getElem_range, Array.getElem_replicate]
  show #[Value.int .u64 0, .int .u64 0, .int .u64 0, .int .u64 0][i % 4]! = _
  rcases h4 with h | h | h | h <;> rw [h] <;> rfl
theorem run_setsS (n : Nat) (hn : (n : Int) ≤ 1000) (w : World) : (Instr.makeSlice 49 (.int .i64 (n : Int)) (.int .i64 (n : Int))).run Try.prog w = .ok (.slice (some ⟨w.heap.size, 0, none⟩) n n) (w.alloc (.cells (Array.replicate (n * 4) (Value.int .u64 0)) 40)) := by
 obtain ⟨j0, hj, hy0, hy1, hy2⟩ := info_parts info_setS
 have h := run_make (P := Try.prog) w 49 40 j0 (.agg #[.int .u64 0, .int .u64 0, .int .u64 0, .int .u64 0]) Try.underlying49 hj hy0 .i64 .i64 n n (by omega) (Int.le_refl _) (by rw [hy2]; omega) (by omega)
 rw [h, hy1, Int.toNat_natCast, ← made4]
 rfl
def eqQS (x y : Set4) : Bool := (x.1 : Int) == (y.1 : Int) && (x.2.1 : Int) == (y.2.1 : Int) && (x.2.2.1 : Int) == (y.2.2.1 : Int) && (x.2.2.2 : Int) == (y.2.2.2 : Int)
theorem eqQS_yes {x y : Set4} : eqQS x y = true ↔ x = y := by
 unfold eqQS
 simp only [Bool.and_eq_true, beq_iff_eq]
 constructor
 ·
  rintro ⟨⟨⟨h1, h2⟩, h3⟩, h4⟩
  obtain ⟨a, b, c, d⟩ := x
  obtain ⟨a', b', c', d'⟩ := y
  have h1 : (a : Int) = a' := h1
  have h2 : (b : Int) = b' := h2
  have h3 : (c : Int) = c' := h3
  have h4 : (d : Int) = d' := h4
  rw [Int.ofNat_inj.1 h1, Int.ofNat_inj.1 h2, Int.ofNat_inj.1 h3, Int.ofNat_inj.1 h4]
 ·
  rintro rfl
  exact ⟨⟨⟨rfl, rfl⟩, rfl⟩, rfl⟩
@[go_sem 2000] theorem eqS4 (x y : Set4) (w : World) :
  (Op.equalIn 10000 40 (.agg #[.int .u64 (x.1 : Int), .int .u64 (x.2.1 : Int), .int .u64 (x.2.2.1 : Int), .int .u64 (x.2.2.2 : Int)]) (.agg #[.int .u64 (y.1 : Int), .int .u64 (y.2.1 : Int), .int .u64 (y.2.2.1 : Int), .int .u64 (y.2.2.2 : Int)])).run Try.prog w = .ok (eqQS x y) w := eq4 ..
def FsE (gr : Gj) (w : World) (e : Ending) (w' : World) : Prop := ∃ g, e = .returned (.slice (some ⟨g, 0, none⟩) gr.ns.length gr.ns.length) ∧ Own w' g 40 (rowS (firG gr) gr.ns.length) ∧ w.heap.size ≤ g ∧ Below w.heap.size w w'
set_option maxRecDepth 1000000 in
set_option maxHeartbeats 3200000 in
theorem ffirst_any (gr : Gj) (a : Gv) (hg : Gst gr) (w : World) (hG : HasG w gr a) : Calls Try.prog 26 #[grv gr a] w (FsE gr w) := by
 have HGS := Lib.hid hg
 have HB1 := Lib.hid (show Below w.heap.size w (w.alloc (.cells #[.slice a.mo gr.ms.length a.mc, .slice a.no gr.ns.length a.nc, .slice a.ho gr.hs.length a.hc, .slice a.wo gr.ws.length a.wc, .int .i64 gr.st] 27)) from (Below.refl _ _).alloc (Nat.le_refl _) _)
 have HO1 := Lib.hid (Own.fresh w 27 [.slice a.mo gr.ms.length a.mc, .slice a.no gr.ns.length a.nc, .slice a.ho gr.hs.length a.hc, .slice a.wo gr.ws.length a.wc, .int .i64 gr.st])
 have HG1 := Lib.hid ((hG.mono (T := fun b => b < w.heap.size) (fun _ h _ => h)).below HB1.out)
 have HNU := Lib.hid (fun W h => enull_any gr a hg.good W h)
 have HBG := Lib.hid (fun (M : Nat → Set4) (hM : ∀ j, fits (M j)) n g h hn W h1 h2 h3 => fbeg_any gr a hg (nulG gr) M hM n g h hn W h1 h2 h3)
 obtain ⟨R, hR⟩ : ∃ R, begB gr (nulG gr) = R := ⟨_, rfl⟩
 have hrul : Rul R := by rw [← hR]; exact begB_rul hg.sets _
 have HRUL := Lib.hid hrul
 obtain ⟨RES, hRES⟩ : ∃ z, firG gr = z := ⟨_, rfl⟩
 have HR0 := Lib.hid (show leastS R gr.ns.length (256 * gr.ns.length + 1) (fun _ => set0) = RES from by rw [← hR, ← hRES]; rfl)
 unfold FsE
 rw [hRES]
 have HBR := Lib.hid (fun (M : Nat → Set4) n => show begB gr (nulG gr) M n = R M n from by rw [hR])
 unfold BoE at HNU
 unfold grv
 unfold grv at HNU HBG
 obtain ⟨nn, hnn⟩ : ∃ z, gr.ns.length = z := ⟨_, rfl⟩
 obtain ⟨nh, hnh⟩ : ∃ z, gr.hs.length = z := ⟨_, rfl⟩
 obtain ⟨nms, hnms⟩ : ∃ z, gr.ms.length = z := ⟨_, rfl⟩
 obtain ⟨nw, hnw⟩ : ∃ z, gr.ws.length = z := ⟨_, rfl⟩
 have hn160 : (nn : Int) ≤ 160 := by have := hg.good.len; omega
 rw [hnn] at HR0
 rw [hnn, hnh, hnms, hnw] at HNU HBG HB1 HO1 HG1
 rw [hnn, hnh, hnms, hnw]
 obtain ⟨B, hB⟩ : ∃ B, w.heap.size = B := ⟨_, rfl⟩
 have HW1 := Lib.hid (show (w.alloc (.cells #[.slice a.mo nms a.mc, .slice a.no nn a.nc, .slice a.ho nh a.hc, .slice a.wo nw a.wc, .int .i64 gr.st] 27)).heap.size = B + 1 from by rw [← hB]; simp)
 have HBE := Lib.hid hB
 rw [hB] at HO1
 clear hg hG hRES hR hrul hnn hnh hnms hnw
 have hmk : ∀ W : World, (Instr.makeSlice 49 (.int .i64 (nn : Int)) (.int .i64 (nn : Int))).run Try.prog W = .ok (.slice (some ⟨W.heap.size, 0, none⟩) nn nn) (W.alloc (.cells (Array.replicate (nn * 4) (Value.int .u64 0)) 40)) := fun W => run_setsS nn (by omega) W
 go_enter Try.func26, Try.ntmps26
 go_upto_region 1 with fail
 generalize w.alloc (.cells #[.slice a.mo nms a.mc, .slice a.no nn a.nc, .slice a.ho nh a.hc, .slice a.wo nw a.wc, .int .i64 gr.st] 27) = w1 at *
 try rw [hB]
 clear hB
 have g0 : w1.cell? ⟨B, 0, none⟩ = some (.slice a.mo nms a.mc) := HO1.out.cell 0
 have g1 : w1.cell? ⟨B, 1, none⟩ = some (.slice a.no nn a.nc) := HO1.out.cell 1
 have g2 : w1.cell? ⟨B, 2, none⟩ = some (.slice a.ho nh a.hc) := HO1.out.cell 2
 have g3 : w1.cell? ⟨B, 3, none⟩ = some (.slice a.wo nw a.wc) := HO1.out.cell 3
 have g4 : w1.cell? ⟨B, 4, none⟩ = some (.int .i64 gr.st) := HO1.out.cell 4
 have gl := HO1.out.lt
 go_wp2_with fail
 refine (HNU.out w1 (HG1.out.mono fun _ _ _ => trivial)).mono ?_
 rintro e w2 ⟨u, he, hu, hul, hb2⟩
 subst he
 have HB2 := Lib.hid (HB1.out.trans (hb2.mono HB1.out.size))
 have HO2 := Lib.hid (HO1.out.under hb2 HO1.out.lt)
 have HG2 := Lib.hid (HG1.out.below hb2)
 have HU2 := Lib.hid hu
 have HUL := Lib.hid (show B + 1 ≤ u from by have := HW1.out; omega)
 clear g0 g1 g2 g3 g4 gl hu hul hb2 HO1 HG1 HB1
 have g1 : w2.cell? ⟨B, 1, none⟩ = some (.slice a.no nn a.nc) := HO2.out.cell 1
 have gl := HO2.out.lt
 have hbl : Below w2.heap.size w2 (w2.alloc (.cells (Array.replicate (nn * 4) (Value.int .u64 0)) 40)) := (Below.refl _ _).alloc (Nat.le_refl _) _
 have HB3 := Lib.hid (HB2.out.trans (hbl.mono HB2.out.size))
 have HG3 := Lib.hid (HG2.out.below hbl)
 have HO3 := Lib.hid (HO2.out.under hbl HO2.out.lt)
 have HU3 := Lib.hid (HU2.out.under hbl HU2.out.lt)
 have HM3 := Lib.hid (show Own (w2.alloc (.cells (Array.replicate (nn * 4) (Value.int .u64 0)) 40)) w2.heap.size 40 (rowS (fun _ => set0) nn) from by
  rw [rowS_zero, ← List.toArray_replicate]; exact Own.fresh w2 40 _)
 have HU2l := Lib.hid HU2.out.lt
 have HO2l := Lib.hid HO2.out.lt
 clear hbl
 go_upto_region 4 with fail
 obtain ⟨C, hC⟩ : ∃ C, w2.heap.size = C := ⟨_, rfl⟩
 rw [hC] at HM3 HU2l HO2l
 generalize w2.alloc (.cells (Array.replicate (nn * 4) (Value.int .u64 0)) 40) = w3 at *
 try rw [hC]
 clear hC g1 gl hmk HO2 HG2 HB2 HU2
 go_loopg [5] (256 * nn + 1) (fun f v5 wr => ∃ (M : Nat → Set4) (z : Bool), v5 = .bool z ∧ Hid (RES = if z = true then leastS R nn f M else M) ∧ Hid (z = true → lackS M nn < f) ∧ Hid (InvS R M) ∧ Hid (Own wr C 40 (rowS M nn)) ∧ Hid (Own wr B 27 [.slice a.mo nms a.mc, .slice a.no nn a.nc, .slice a.ho nh a.hc, .slice a.wo nw a.wc, .int .i64 gr.st]) ∧ Hid (Own wr u 4 (rowB (nulG gr) nn)) ∧ Hid (HasGR wr (fun b => b < w.heap.size) gr a) ∧ Hid (Below w.heap.size w wr))
 case atStart => exact ⟨fun _ => set0, true, rfl, Lib.hid (by rw [if_pos rfl]; exact HR0.out.symm), Lib.hid (fun _ => by have := lackS_le (fun _ => set0) nn; omega), Lib.hid (inv0 R), HM3, HO3, HU3, HG3, HB3⟩
 case round =>
  obtain ⟨M, z, rfl, HS, HLK, HI, HM, HO, HU, HG, HB⟩ := hrel
  cases z with
  | false =>
   have HE := Lib.hid (show RES = M from by rw [HS.out, if_neg (by decide)])
   go_wp2
   go_ret
   exact ⟨C, rfl, by rw [HE.out]; exact HM.out, by have := HBE.out; have := HO2l.out; omega, HB.out⟩
  | true =>
   obtain ⟨f, rfl⟩ : ∃ f, gk = f + 1 := ⟨gk - 1, by have := HLK.out rfl; omega⟩
   have HS1 := Lib.hid (show RES = leastS R nn (f + 1) M from by rw [HS.out, if_pos rfl])
   have HL1 := Lib.hid (HLK.out rfl)
   clear HM3 HO3 HG3 HB3 HU3 HS HLK
   have g1 : wr.cell? ⟨B, 1, none⟩ = some (.slice a.no nn a.nc) := HO.out.cell 1
   have gl := HO.out.lt
   go_wp2_with fail
   go_loopg [5, 18] nn (fun j v5 v18 wx => ∃ (k : Nat) (M1 : Nat → Set4) (z : Bool), v5 = .bool z ∧ v18 = .int .i64 (k : Int) ∧ k + j = nn ∧ Hid (passS R nn 0 M false = passS R (nn - k) k M1 z) ∧ Hid (InvS R M1) ∧ Hid (Own wx C 40 (rowS M1 nn)) ∧ Hid (Own wx B 27 [.slice a.mo nms a.mc, .slice a.no nn a.nc, .slice a.ho nh a.hc, .slice a.wo nw a.wc, .int .i64 gr.st]) ∧ Hid (Own wx u 4 (rowB (nulG gr) nn)) ∧ Hid (HasGR wx (fun b => b < w.heap.size) gr a) ∧ Hid (Below w.heap.size w wx))
   case atStart => exact ⟨0, M, false, rfl, rfl, by omega, Lib.hid rfl, HI, HM, HO, HU, HG, HB⟩
   case round =>
    obtain ⟨k, M1, z, rfl, rfl, hkj, HP, HIx, HMx, HOx, HUx, HGx, HBx⟩ := hrel
    clear HM HO HG HB HU g1 gl
    by_cases hk : k < nn
    ·
     obtain ⟨j, rfl⟩ : ∃ j, gk = j + 1 := ⟨gk - 1, by omega⟩
     have hk1 : decide ((k : Int) < (nn : Int)) = true := decide_eq_true (by omega)
     have hk2 : decide (k < nn) = true := decide_eq_true hk
     have hw1 : IntKind.i64.wrap ((k : Int) + 1) = (k : Int) + 1 := by rw [IntKind.wrap_i64]; omega
     have g0 : wr.cell? ⟨B, 0, none⟩ = some (.slice a.mo nms a.mc) := HOx.out.cell 0
     have g1 : wr.cell? ⟨B, 1, none⟩ = some (.slice a.no nn a.nc) := HOx.out.cell 1
     have g2 : wr.cell? ⟨B, 2, none⟩ = some (.slice a.ho nh a.hc) := HOx.out.cell 2
     have g3 : wr.cell? ⟨B, 3, none⟩ = some (.slice a.wo nw a.wc) := HOx.out.cell 3
     have g4 : wr.cell? ⟨B, 4, none⟩ = some (.int .i64 gr.st) := HOx.out.cell 4
     have gl := HOx.out.lt
     have HC := Lib.hid (HBG.out M1 HIx.out.2 k u C hk wr (HGx.out.mono fun _ _ _ => trivial) HUx.out HMx.out)
     obtain ⟨s, hs⟩ : ∃ s, begB gr (nulG gr) M1 k = s := ⟨_, rfl⟩
     have HSK := Lib.hid (show R M1 k = s from by rw [← HBR.out, hs])
     rw [hs] at HC
     clear hs
     unfold setV at HC
     go_wp2_with fail
     refine HC.out.mono ?_
     rintro e wy ⟨he, hby⟩
     subst he
     have HMy := Lib.hid (HMx.out.under hby HMx.out.lt)
     have HOy := Lib.hid (HOx.out.under hby HOx.out.lt)
     have HUy := Lib.hid (HUx.out.under hby HUx.out.lt)
     have HGy := Lib.hid (HGx.out.below hby)
     have HBy := Lib.hid (HBx.out.trans (hby.mono HBx.out.size))
     clear hby HMx HOx HGx HBx HUx g0 g1 g2 g3 g4 gl HC
     have HSZ := Lib.hid (Own.fresh wy 40 (wrdS s))
     have hba : Below wy.heap.size wy (wy.alloc (.cells #[.int .u64 (s.1 : Int), .int .u64 (s.2.1 : Int), .int .u64 (s.2.2.1 : Int), .int .u64 (s.2.2.2 : Int)] 40)) := (Below.refl _ _).alloc (Nat.le_refl _) _
     have HMz := Lib.hid (HMy.out.under hba HMy.out.lt)
     have HOz := Lib.hid (HOy.out.under hba HOy.out.lt)
     have HUz := Lib.hid (HUy.out.under hba HUy.out.lt)
     have HGz := Lib.hid (HGy.out.below hba)
     have HBz := Lib.hid (HBy.out.trans (hba.mono HBy.out.size))
     have HMl := Lib.hid (show C < wy.heap.size from HMy.out.lt)
     clear hba HMy HOy HUy HGy HBy
     go_upto_region 10 with fail
     obtain ⟨D, hD⟩ : ∃ D, wy.heap.size = D := ⟨_, rfl⟩
     have HDL := Lib.hid (show B < D ∧ C < D from by have := HMl.out; have := HO2l.out; omega)
     unfold wrdS at HSZ
     rw [hD] at HSZ
     generalize wy.alloc (.cells #[.int .u64 (s.1 : Int), .int .u64 (s.2.1 : Int), .int .u64 (s.2.2.1 : Int), .int .u64 (s.2.2.2 : Int)] 40) = wz at *
     try rw [hD]
     clear hD
     obtain ⟨d0, d1, d2, d3, -⟩ := HSZ.out.four
     have dl := HSZ.out.lt
     have m0 : wz.cell? ⟨C, k * 4, none⟩ = some (.int .u64 ((M1 k).1 : Int)) := by rw [HMz.out.cell]; exact rowS_at M1 nn k 0 hk (by decide)
     have m1 : wz.cell? ⟨C, k * 4 + 1, none⟩ = some (.int .u64 ((M1 k).2.1 : Int)) := by rw [HMz.out.cell]; exact rowS_at M1 nn k 1 hk (by decide)
     have m2 : wz.cell? ⟨C, k * 4 + 2, none⟩ = some (.int .u64 ((M1 k).2.2.1 : Int)) := by rw [HMz.out.cell]; exact rowS_at M1 nn k 2 hk (by decide)
     have m3 : wz.cell? ⟨C, k * 4 + 3, none⟩ = some (.int .u64 ((M1 k).2.2.2 : Int)) := by rw [HMz.out.cell]; exact rowS_at M1 nn k 3 hk (by decide)
     have ml := HMz.out.lt
     have HEQ := Lib.hid (eqQS_yes (x := s) (y := M1 k))
     obtain ⟨q, hq⟩ : ∃ q, M1 k = q := ⟨_, rfl⟩
     have HQ := Lib.hid hq
     rw [hq] at m0 m1 m2 m3 HEQ
     clear hq
     obtain ⟨b, hb⟩ : ∃ b, eqQS s q = b := ⟨_, rfl⟩
     rw [hb] at HEQ
     go_wp2_with fail
     go_quiet (fail)
     clear hb
     have hbd := below_drewN (Below.refl wz.heap.size wz) nq
     have HMw := Lib.hid (HMz.out.under hbd HMz.out.lt)
     have HOw := Lib.hid (HOz.out.under hbd HOz.out.lt)
     have HUw := Lib.hid (HUz.out.under hbd HUz.out.lt)
     have HSw := Lib.hid (HSZ.out.under hbd HSZ.out.lt)
     have HGw := Lib.hid (HGz.out.below hbd)
     have HBw := Lib.hid (HBz.out.trans (hbd.mono HBz.out.size))
     clear hbd HMz HOz HUz HSZ HGz HBz d0 d1 d2 d3 dl m0 m1 m2 m3 ml
     generalize wz.drewN nq = wv at *
     cases b with
     | true =>
      have HPN := Lib.hid (show passS R nn 0 M false = passS R (nn - (k + 1)) (k + 1) M1 z from HP.out.trans (passS_miss hk (by rw [HSK.out, HQ.out]; exact HEQ.out.1 rfl)))
      go_wp2
      go_roundg j
      case measure => omega
      case rel => exact ⟨k + 1, M1, z, rfl, by go_num, by omega, HPN, HIx, HMw, HOw, HUw, HGw, HBw⟩
     | false =>
      have HPN := Lib.hid (show passS R nn 0 M false = passS R (nn - (k + 1)) (k + 1) (setS M1 k s) true from by
       rw [HP.out, passS_hit hk (by rw [HSK.out, HQ.out]; intro e; have := HEQ.out.2 e; cases this), HSK.out])
      have HIN := Lib.hid (show InvS R (setS M1 k s) from by have := HIx.out.set HRUL.out k; rwa [HSK.out] at this)
      obtain ⟨d0, d1, d2, d3, -⟩ := HSw.out.four
      have dl := HSw.out.lt
      have f0 : wv.frozen? ⟨C, k * 4, none⟩ = false := HMw.out.thaw _
      have f1 : wv.frozen? ⟨C, k * 4 + 1, none⟩ = false := HMw.out.thaw _
      have f2 : wv.frozen? ⟨C, k * 4 + 2, none⟩ = false := HMw.out.thaw _
      have f3 : wv.frozen? ⟨C, k * 4 + 3, none⟩ = false := HMw.out.thaw _
      have m0 : wv.cell? ⟨C, k * 4, none⟩ = some (.int .u64 ((M1 k).1 : Int)) := by rw [HMw.out.cell]; exact rowS_at M1 nn k 0 hk (by decide)
      have m1 : wv.cell? ⟨C, k * 4 + 1, none⟩ = some (.int .u64 ((M1 k).2.1 : Int)) := by rw [HMw.out.cell]; exact rowS_at M1 nn k 1 hk (by decide)
      have m2 : wv.cell? ⟨C, k * 4 + 2, none⟩ = some (.int .u64 ((M1 k).2.2.1 : Int)) := by rw [HMw.out.cell]; exact rowS_at M1 nn k 2 hk (by decide)
      have m3 : wv.cell? ⟨C, k * 4 + 3, none⟩ = some (.int .u64 ((M1 k).2.2.2 : Int)) := by rw [HMw.out.cell]; exact rowS_at M1 nn k 3 hk (by decide)
      have ml := HMw.out.lt
      obtain ⟨W4, hW4⟩ : ∃ W4, (((wv.setCell ⟨C, k * 4, none⟩ (.int .u64 (s.1 : Int))).setCell ⟨C, k * 4 + 1, none⟩ (.int .u64 (s.2.1 : Int))).setCell ⟨C, k * 4 + 2, none⟩ (.int .u64 (s.2.2.1 : Int))).setCell ⟨C, k * 4 + 3, none⟩ (.int .u64 (s.2.2.2 : Int)) = W4 := ⟨_, rfl⟩
      have hbt : But (fun j => j = C) wv W4 := by
       rw [← hW4]
       exact ((((But.refl (fun j => j = C) wv).setCell (p := ⟨C, k * 4, none⟩) (fun _ => rfl) _).setCell (p := ⟨C, k * 4 + 1, none⟩) (fun _ => rfl) _).setCell (p := ⟨C, k * 4 + 2, none⟩) (fun _ => rfl) _).setCell (p := ⟨C, k * 4 + 3, none⟩) (fun _ => rfl) _
      have HMq := Lib.hid (show Own W4 C 40 (rowS (setS M1 k s) nn) from by
       rw [← hW4, ← rowS_set M1 nn k s hk]
       exact (((HMw.out.put (k * 4) (.int .u64 (s.1 : Int))).put (k * 4 + 1) (.int .u64 (s.2.1 : Int))).put (k * 4 + 2) (.int .u64 (s.2.2.1 : Int))).put (k * 4 + 3) (.int .u64 (s.2.2.2 : Int)))
      have HOq := Lib.hid (HOw.out.but hbt (by have := HDL.out; have := HO2l.out; show ¬ B = C; omega))
      have HUq := Lib.hid (HUw.out.but hbt (by have := HU2l.out; show ¬ u = C; omega))
      have HGq := Lib.hid (HGw.out.but hbt (fun j _ hj h => by have := HBE.out; have := HO2l.out; have : j = C := h; omega))
      have HBq := Lib.hid (HBw.out.trans (hbt.below (B := w.heap.size) HBw.out.size (fun j h => by have := HBE.out; have := HO2l.out; omega)))
      have HW4 := Lib.hid hW4
      clear hbt hW4 HMw HOw HUw HGw HBw
      go_wp2
      rw [HW4.out]
      go_roundg j
      case measure => omega
      case rel => exact ⟨k + 1, setS M1 k s, true, rfl, by go_num, by omega, HPN, HIN, HMq, HOq, HUq, HGq, HBq⟩
    ·
     have hk1 : decide ((k : Int) < (nn : Int)) = false := decide_eq_false (by omega)
     have hk2 : decide (k < nn) = false := decide_eq_false hk
     have HP2 := Lib.hid (show passS R nn 0 M false = (M1, z) from HP.out.trans (by rw [show nn - k = 0 by omega]; rfl))
     have HSN := Lib.hid (show RES = if z = true then leastS R nn f M1 else M1 from by
      rw [HS1.out]
      show (match passS R nn 0 M false with
       | (M', true) => leastS R nn f M'
       | (M', false) => M') = _
      rw [HP2.out]
      cases z <;> rfl)
     have HLN := Lib.hid (show z = true → lackS M1 nn < f from fun h => by
      have h1 := (passS_lack HRUL.out nn nn 0 M false (by omega) HI.out).2 rfl (by rw [HP2.out]; exact h)
      rw [HP2.out] at h1
      have h1 : lackS M1 nn < lackS M nn := h1
      have h2 := HL1.out
      omega)
     go_wp2
     go_roundg f
     case measure => omega
     case rel => exact ⟨M1, z, rfl, HSN, HLN, HIx, HMx, HOx, HUx, HGx, HBx⟩
end Go.Proofs.Ytbjgojdpfehnmaa
