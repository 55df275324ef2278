/- The least marks of a rule: the program's, walked. What may take nothing, what may fail: the program's, walked. -/
import Derived.Test.YtbjgojdpfehnmaaIa
import Derived.Deep.LoopGhost
import Derived.Deep.CutBlock
namespace Go.Proofs.Ytbjgojdpfehnmaa
set_option linter.unusedVariables false
open Go.RowKit Go.Sort
theorem info_boolE : (Try.prog.info? 4).map (fun i => (i.zero, i.size, i.bytes)) = some (some (.bool false), 1, 1) := by kernel_rfl
theorem run_boolsE (n : Nat) (hn : (n : Int) ≤ 1000) (w : World) : (Instr.makeSlice 35 (.int .i64 (n : Int)) (.int .i64 (n : Int))).run Try.prog w = .ok (.slice (some ⟨w.heap.size, 0, none⟩) n n) (w.alloc (.cells (Array.replicate n (Value.bool false)) 4)) := by
 obtain ⟨j0, hj, hy0, hy1, hy2⟩ := info_parts info_boolE
 have h := run_make (P := Try.prog) w 35 4 j0 (.bool false) Try.underlying35 hj hy0 .i64 .i64 n n (by omega) (Int.le_refl _) (by rw [hy2]; omega) (by omega)
 rw [h, hy1, Int.toNat_natCast, Nat.mul_one, ← List.toArray_replicate, ← toList_madeCells_one]
 rfl
theorem rowB_zero (N : Nat) : rowB (fun _ => false) N = List.replicate N (Value.bool false) := by
 unfold rowB
 rw [List.map_const', List.length_range]
theorem passB_mark {R : (Nat → Bool) → Nat → Bool} {N k : Nat} {M : Nat → Bool} {z : Bool} (hk : k < N) (h1 : M k = false) (h2 : R M k = true) : passB R (N - k) k M z = passB R (N - (k + 1)) (k + 1) (setB M k) true := by
 rw [show N - k = (N - (k + 1)) + 1 by omega]
 show (if (!M k && R M k) = true then passB R (N - (k + 1)) (k + 1) (setB M k) true else passB R (N - (k + 1)) (k + 1) M z) = _
 rw [h1, h2]
 exact if_pos rfl
theorem passB_keep {R : (Nat → Bool) → Nat → Bool} {N k : Nat} {M : Nat → Bool} {z : Bool} (hk : k < N) (h : (!M k && R M k) = false) : passB R (N - k) k M z = passB R (N - (k + 1)) (k + 1) M z := by
 rw [show N - k = (N - (k + 1)) + 1 by omega]
 show (if (!M k && R M k) = true then passB R (N - (k + 1)) (k + 1) (setB M k) true else passB R (N - (k + 1)) (k + 1) M z) = _
 rw [h]
 exact if_neg (by decide)
set_option maxRecDepth 1000000 in
set_option maxHeartbeats 3200000 in
theorem eleast_any (gr : Gj) (a : Gv) (hg : Good gr) (R : (Nat → Bool) → Nat → Bool) (fid : Nat) (eg : ∀ args W, (callFunc fid args).run Try.prog W = .ok (.enter fid args) W)
  (hF : ∀ (M : Nat → Bool) (n g : Nat) (W : World), n < gr.ns.length → HasG W gr a → Own W g 4 (rowB M gr.ns.length) → Calls Try.prog fid #[grv gr a, .slice (some ⟨g, 0, none⟩) gr.ns.length gr.ns.length, .int .i64 (n : Int)] W fun e w' => e = .returned (.bool (R M n)) ∧ Below W.heap.size W w')
  (w : World) (hG : HasG w gr a) :
  Calls Try.prog 50 #[grv gr a, .func (.func fid) #[] #[]] w fun e w' => ∃ g, e = .returned (.slice (some ⟨g, 0, none⟩) gr.ns.length gr.ns.length) ∧ Own w' g 4 (rowB (leastB R gr.ns.length (gr.ns.length + 1) (fun _ => false)) gr.ns.length) ∧ w.heap.size ≤ g ∧ Below w.heap.size w w' := by
 have HF := Lib.hid hF
 have HB1 := Lib.hid (show Below w.heap.size w (w.alloc (.cells #[.slice a.mo gr.ms.length a.mc, .slice a.no gr.ns.length a.nc, .slice a.ho gr.hs.length a.hc, .slice a.wo gr.ws.length a.wc, .int .i64 gr.st] 27)) from (Below.refl _ _).alloc (Nat.le_refl _) _)
 have HO1 := Lib.hid (Own.fresh w 27 [.slice a.mo gr.ms.length a.mc, .slice a.no gr.ns.length a.nc, .slice a.ho gr.hs.length a.hc, .slice a.wo gr.ws.length a.wc, .int .i64 gr.st])
 have HG1 := Lib.hid ((hG.mono (T := fun b => b < w.heap.size) (fun _ h _ => h)).below HB1.out)
 obtain ⟨RES, hRES⟩ : ∃ z, leastB R gr.ns.length (gr.ns.length + 1) (fun _ => false) = z := ⟨_, rfl⟩
 have HR0 := Lib.hid hRES
 rw [hRES]
 unfold grv
 unfold grv at HF
 obtain ⟨nn, hnn⟩ : ∃ z, gr.ns.length = z := ⟨_, rfl⟩
 obtain ⟨nh, hnh⟩ : ∃ z, gr.hs.length = z := ⟨_, rfl⟩
 obtain ⟨nms, hnms⟩ : ∃ z, gr.ms.length = z := ⟨_, rfl⟩
 obtain ⟨nw, hnw⟩ : ∃ z, gr.ws.length = z := ⟨_, rfl⟩
 have hn160 : (nn : Int) ≤ 160 := by have := hg.len; omega
 rw [hnn] at HR0
 rw [hnn, hnh, hnms, hnw] at HF HB1 HO1 HG1
 rw [hnn, hnh, hnms, hnw]
 obtain ⟨B, hB⟩ : ∃ B, w.heap.size = B := ⟨_, rfl⟩
 have HW1 := Lib.hid (show (w.alloc (.cells #[.slice a.mo nms a.mc, .slice a.no nn a.nc, .slice a.ho nh a.hc, .slice a.wo nw a.wc, .int .i64 gr.st] 27)).heap.size = B + 1 from by rw [← hB]; simp)
 have HBE := Lib.hid hB
 rw [hB] at HO1
 clear hg hG hF hRES hnn hnh hnms hnw
 have hmk : ∀ W : World, (Instr.makeSlice 35 (.int .i64 (nn : Int)) (.int .i64 (nn : Int))).run Try.prog W = .ok (.slice (some ⟨W.heap.size, 0, none⟩) nn nn) (W.alloc (.cells (Array.replicate nn (Value.bool false)) 4)) := fun W => run_boolsE nn (by omega) W
 go_enter Try.func50, Try.ntmps50
 go_upto_region 1 with fail
 generalize w.alloc (.cells #[.slice a.mo nms a.mc, .slice a.no nn a.nc, .slice a.ho nh a.hc, .slice a.wo nw a.wc, .int .i64 gr.st] 27) = w1 at *
 try rw [hB]
 clear hB
 have g0 : w1.cell? ⟨B, 0, none⟩ = some (.slice a.mo nms a.mc) := HO1.out.cell 0
 have g1 : w1.cell? ⟨B, 1, none⟩ = some (.slice a.no nn a.nc) := HO1.out.cell 1
 have gl := HO1.out.lt
 have hbl : Below w1.heap.size w1 (w1.alloc (.cells (Array.replicate nn (Value.bool false)) 4)) := (Below.refl _ _).alloc (Nat.le_refl _) _
 have HB2 := Lib.hid (HB1.out.trans (hbl.mono HB1.out.size))
 have HG2 := Lib.hid (HG1.out.below hbl)
 have HO2 := Lib.hid (HO1.out.under hbl HO1.out.lt)
 have HM2 := Lib.hid (show Own (w1.alloc (.cells (Array.replicate nn (Value.bool false)) 4)) (B + 1) 4 (rowB (fun _ => false) nn) by
  rw [rowB_zero, ← List.toArray_replicate, ← HW1.out]; exact Own.fresh w1 4 _)
 clear hbl
 go_upto_region 3 with fail
 generalize w1.alloc (.cells (Array.replicate nn (Value.bool false)) 4) = w2 at *
 try rw [HW1.out]
 clear g0 g1 gl hmk HO1 HG1 HB1
 go_loopg [6] (nn + 1) (fun f v6 wr => ∃ (M : Nat → Bool) (z : Bool), v6 = .bool z ∧ Hid (RES = if z = true then leastB R nn f M else M) ∧ Hid (z = true → lackB M nn < f) ∧ Hid (Own wr (B + 1) 4 (rowB M nn)) ∧ Hid (Own wr B 27 [.slice a.mo nms a.mc, .slice a.no nn a.nc, .slice a.ho nh a.hc, .slice a.wo nw a.wc, .int .i64 gr.st]) ∧ Hid (HasGR wr (fun b => b < w.heap.size) gr a) ∧ Hid (Below w.heap.size w wr))
 case atStart => exact ⟨fun _ => false, true, rfl, Lib.hid (by rw [if_pos rfl]; exact HR0.out.symm), Lib.hid (fun _ => by have := lackB_le (fun _ => false) nn; omega), HM2, HO2, HG2, HB2⟩
 case round =>
  obtain ⟨M, z, rfl, HS, HLK, HM, HO, HG, HB⟩ := hrel
  cases z with
  | false =>
   have HE := Lib.hid (show RES = M from by rw [HS.out, if_neg (by decide)])
   go_wp2
   go_ret
   exact ⟨B + 1, rfl, by rw [HE.out]; exact HM.out, by have := HBE.out; omega, HB.out⟩
  | true =>
   obtain ⟨f, rfl⟩ : ∃ f, gk = f + 1 := ⟨gk - 1, by have := HLK.out rfl; omega⟩
   have HS1 := Lib.hid (show RES = leastB R nn (f + 1) M from by rw [HS.out, if_pos rfl])
   have HL1 := Lib.hid (HLK.out rfl)
   clear HM2 HO2 HG2 HB2 HS HLK
   have g1 : wr.cell? ⟨B, 1, none⟩ = some (.slice a.no nn a.nc) := HO.out.cell 1
   have gl := HO.out.lt
   go_wp2_with fail
   go_loopg [6, 16] nn (fun j v6 v16 wx => ∃ (k : Nat) (M1 : Nat → Bool) (z : Bool), v6 = .bool z ∧ v16 = .int .i64 (k : Int) ∧ k + j = nn ∧ Hid (passB R nn 0 M false = passB R (nn - k) k M1 z) ∧ Hid (lackB M1 nn + (if z = true then 1 else 0) ≤ lackB M nn) ∧ Hid (Own wx (B + 1) 4 (rowB M1 nn)) ∧ Hid (Own wx B 27 [.slice a.mo nms a.mc, .slice a.no nn a.nc, .slice a.ho nh a.hc, .slice a.wo nw a.wc, .int .i64 gr.st]) ∧ Hid (HasGR wx (fun b => b < w.heap.size) gr a) ∧ Hid (Below w.heap.size w wx))
   case atStart => exact ⟨0, M, false, rfl, rfl, by omega, Lib.hid rfl, Lib.hid (Nat.le_refl _), HM, HO, HG, HB⟩
   case round =>
    obtain ⟨k, M1, z, rfl, rfl, hkj, HP, HL, HMx, HOx, HGx, HBx⟩ := hrel
    clear HM HO HG HB g1 gl
    by_cases hk : k < nn
    ·
     obtain ⟨j, rfl⟩ : ∃ j, gk = j + 1 := ⟨gk - 1, by omega⟩
     have hk1 : decide ((k : Int) < (nn : Int)) = true := decide_eq_true (by omega)
     have hk2 : decide (k < nn) = true := decide_eq_true hk
     have hw1 : IntKind.i64.wrap ((k : Int) + 1) = (k : Int) + 1 := by rw [IntKind.wrap_i64]; omega
     have m0 : wr.cell? ⟨B + 1, k, none⟩ = some (.bool (M1 k)) := by rw [HMx.out.cell k]; exact rowB_at M1 nn k hk
     have ml := HMx.out.lt
     have g0 : wr.cell? ⟨B, 0, none⟩ = some (.slice a.mo nms a.mc) := HOx.out.cell 0
     have g1 : wr.cell? ⟨B, 1, none⟩ = some (.slice a.no nn a.nc) := HOx.out.cell 1
     have g2 : wr.cell? ⟨B, 2, none⟩ = some (.slice a.ho nh a.hc) := HOx.out.cell 2
     have g3 : wr.cell? ⟨B, 3, none⟩ = some (.slice a.wo nw a.wc) := HOx.out.cell 3
     have g4 : wr.cell? ⟨B, 4, none⟩ = some (.int .i64 gr.st) := HOx.out.cell 4
     have gl := HOx.out.lt
     obtain ⟨b1, hb1⟩ : ∃ z, M1 k = z := ⟨_, rfl⟩
     have HBK := Lib.hid hb1
     rw [hb1] at m0
     clear hb1
     cases b1 with
     | true =>
      have HPN := Lib.hid (show passB R nn 0 M false = passB R (nn - (k + 1)) (k + 1) M1 z from HP.out.trans (passB_keep hk (by rw [HBK.out]; rfl)))
      go_wp2
      go_roundg j
      case measure => omega
      case rel => exact ⟨k + 1, M1, z, rfl, by go_num, by omega, HPN, HL, HMx, HOx, HGx, HBx⟩
     | false =>
      have HC := Lib.hid (HF.out M1 k (B + 1) wr hk (HGx.out.mono fun _ _ _ => trivial) HMx.out)
      go_wp2_with fail
      refine HC.out.mono ?_
      rintro e wy ⟨he, hby⟩
      subst he
      have HMy := Lib.hid (HMx.out.under hby HMx.out.lt)
      have HOy := Lib.hid (HOx.out.under hby HOx.out.lt)
      have HGy := Lib.hid (HGx.out.below hby)
      have HBy := Lib.hid (HBx.out.trans (hby.mono HBx.out.size))
      clear hby HMx HOx HGx HBx g0 g1 g2 g3 g4 gl m0 ml HC
      obtain ⟨r, hr⟩ : ∃ z, R M1 k = z := ⟨_, rfl⟩
      have HRK := Lib.hid hr
      rw [hr]
      clear hr
      cases r with
      | false =>
       have HPN := Lib.hid (show passB R nn 0 M false = passB R (nn - (k + 1)) (k + 1) M1 z from HP.out.trans (passB_keep hk (by rw [HBK.out, HRK.out]; rfl)))
       go_wp2
       go_roundg j
       case measure => omega
       case rel => exact ⟨k + 1, M1, z, rfl, by go_num, by omega, HPN, HL, HMy, HOy, HGy, HBy⟩
      | true =>
       have HPN := Lib.hid (show passB R nn 0 M false = passB R (nn - (k + 1)) (k + 1) (setB M1 k) true from HP.out.trans (passB_mark hk HBK.out HRK.out))
       have HLN := Lib.hid (show lackB (setB M1 k) nn + (if true = true then 1 else 0) ≤ lackB M nn from by
        have h1 := lackB_set M1 k HBK.out nn
        have h2 := lackB_one M1 k HBK.out nn hk
        rw [if_pos hk] at h1
        have h3 := HL.out
        rw [h1, if_pos rfl]
        omega)
       have m0 : wy.cell? ⟨B + 1, k, none⟩ = some (.bool false) := by rw [HMy.out.cell k, rowB_at M1 nn k hk, HBK.out]
       have f0 : wy.frozen? ⟨B + 1, k, none⟩ = false := HMy.out.thaw k
       have ml := HMy.out.lt
       have hbt : But (fun j => j = B + 1) wy (wy.setCell ⟨B + 1, k, none⟩ (.bool true)) := (But.refl (fun j => j = B + 1) wy).setCell (p := ⟨B + 1, k, none⟩) (fun _ => rfl) _
       have HMz := Lib.hid (show Own (wy.setCell ⟨B + 1, k, none⟩ (.bool true)) (B + 1) 4 (rowB (setB M1 k) nn) from by rw [← rowB_set M1 nn k hk]; exact HMy.out.put k (.bool true))
       have HOz := Lib.hid (HOy.out.but hbt (by show ¬ B = B + 1; omega))
       have HGz := Lib.hid (HGy.out.but hbt (fun j _ hj h => by have := HBE.out; have : j = B + 1 := h; omega))
       have HBz := Lib.hid (HBy.out.trans (hbt.below (B := w.heap.size) HBy.out.size (fun j h => by have := HBE.out; omega)))
       clear hbt
       go_wp2
       go_roundg j
       case measure => omega
       case rel => exact ⟨k + 1, setB M1 k, true, rfl, by go_num, by omega, HPN, HLN, HMz, HOz, HGz, HBz⟩
    ·
     have hk1 : decide ((k : Int) < (nn : Int)) = false := decide_eq_false (by omega)
     have hk2 : decide (k < nn) = false := decide_eq_false hk
     have HP2 := Lib.hid (show passB R nn 0 M false = (M1, z) from HP.out.trans (by rw [show nn - k = 0 by omega]; rfl))
     have HSN := Lib.hid (show RES = if z = true then leastB R nn f M1 else M1 from by
      rw [HS1.out]
      show (match passB R nn 0 M false with
       | (M', true) => leastB R nn f M'
       | (M', false) => M') = _
      rw [HP2.out]
      cases z <;> rfl)
     have HLN := Lib.hid (show z = true → lackB M1 nn < f from fun h => by
      have h1 := HL.out
      have h2 := HL1.out
      rw [if_pos h] at h1
      omega)
     go_wp2
     go_roundg f
     case measure => omega
     case rel => exact ⟨M1, z, rfl, HSN, HLN, HMx, HOx, HGx, HBx⟩
def BoE (gr : Gj) (M : Nat → Bool) (w : World) (e : Ending) (w' : World) : Prop := ∃ g, e = .returned (.slice (some ⟨g, 0, none⟩) gr.ns.length gr.ns.length) ∧ Own w' g 4 (rowB M gr.ns.length) ∧ w.heap.size ≤ g ∧ Below w.heap.size w w'
set_option maxRecDepth 1000000 in
set_option maxHeartbeats 1600000 in
theorem enull_any (gr : Gj) (a : Gv) (hg : Good gr) (w : World) (hG : HasG w gr a) : Calls Try.prog 31 #[grv gr a] w (BoE gr (nulG gr) w) := by
 have HB1 := Lib.hid (show Below w.heap.size w (w.alloc (.cells #[.slice a.mo gr.ms.length a.mc, .slice a.no gr.ns.length a.nc, .slice a.ho gr.hs.length a.hc, .slice a.wo gr.ws.length a.wc, .int .i64 gr.st] 27)) from (Below.refl _ _).alloc (Nat.le_refl _) _)
 have HO1 := Lib.hid (Own.fresh w 27 [.slice a.mo gr.ms.length a.mc, .slice a.no gr.ns.length a.nc, .slice a.ho gr.hs.length a.hc, .slice a.wo gr.ws.length a.wc, .int .i64 gr.st])
 have HL := Lib.hid (eleast_any gr a hg (nulB gr) 51 (fun _ _ => rfl) (fun M n g W hn h1 h2 => etake_any gr a hg M n g hn W h1 h2) (w.alloc (.cells #[.slice a.mo gr.ms.length a.mc, .slice a.no gr.ns.length a.nc, .slice a.ho gr.hs.length a.hc, .slice a.wo gr.ws.length a.wc, .int .i64 gr.st] 27)) (hG.below HB1.out))
 unfold grv
 unfold grv at HL
 obtain ⟨B, hB⟩ : ∃ B, w.heap.size = B := ⟨_, rfl⟩
 rw [hB] at HO1
 have HBE := Lib.hid hB
 clear hg hG
 go_enter Try.func31, Try.ntmps31
 go_upto_region 1 with fail
 generalize w.alloc (.cells #[.slice a.mo gr.ms.length a.mc, .slice a.no gr.ns.length a.nc, .slice a.ho gr.hs.length a.hc, .slice a.wo gr.ws.length a.wc, .int .i64 gr.st] 27) = w1 at *
 try rw [hB]
 clear hB
 have g0 := HO1.out.cell 0
 have g1 := HO1.out.cell 1
 have g2 := HO1.out.cell 2
 have g3 := HO1.out.cell 3
 have g4 := HO1.out.cell 4
 have gl := HO1.out.lt
 simp only [List.getElem?_cons_zero, List.getElem?_cons_succ] at g0 g1 g2 g3 g4
 go_wp2_with fail
 refine HL.out.mono ?_
 rintro e w2 ⟨g, he, hO, hgs, hb⟩
 subst he
 have HO := Lib.hid hO
 have HB2 := Lib.hid (HB1.out.trans (hb.mono HB1.out.size))
 have HGS := Lib.hid (show w.heap.size ≤ g from Nat.le_trans HB1.out.size hgs)
 clear hO hb hgs g0 g1 g2 g3 g4 gl
 go_wp2
 go_ret
 exact ⟨g, rfl, HO.out, HGS.out, HB2.out⟩
end Go.Proofs.Ytbjgojdpfehnmaa
