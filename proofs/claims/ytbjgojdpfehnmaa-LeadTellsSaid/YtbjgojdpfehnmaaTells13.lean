/- LeadTells: the law's own, walked. -/
import Derived.Test.YtbjgojdpfehnmaaMd
import Derived.Test.YtbjgojdpfehnmaaMe
import Derived.Test.YtbjgojdpfehnmaaIc
import Derived.Test.YtbjgojdpfehnmaaHq
import Derived.Deep.RegionWith
import Derived.Deep.CutBlock
namespace Go.Proofs.Ytbjgojdpfehnmaa
set_option linter.unusedVariables false
open Go.RowKit Go.Sort
theorem visF_len (gr : Gj) (N : Nat) (hN : ∀ n, n < N → ∀ k ∈ nextL gr n, k < N) : ∀ (d n : Nat) (s : Fst), n < N → s.2.length + lackB s.1 N ≤ N → (visF gr d n s).2.length + lackB (visF gr d n s).1 N ≤ N
 | 0, n, s, _, h => h
 | d + 1, n, s, hn, h => by
  unfold visF
  split
  ·
   exact h
  ·
   next hm =>
   refine eachF_inl (T := fun k => k < N) (fun t => t.2.length + lackB t.1 N ≤ N) (fun k t hk ht => visF_len gr N hN d k t hk ht) _ _ (hN n hn) ?_
   have hm0 : s.1 n = false := by simpa using hm
   have h1 := lackB_set s.1 n hm0 N
   have h2 := lackB_one s.1 n hm0 N hn
   rw [if_pos hn] at h1
   have h3 := putL_len (n : Int) s.2
   show (if termB gr n = true then putL s.2 (n : Int) else s.2).length + lackB (setB s.1 n) N ≤ N
   split <;> omega
theorem leadI_len {gr : Gj} (hg : Good gr) (z : Int) : ((leadI gr z).length : Int) ≤ 1000 := by
 have hl := hg.len
 unfold leadI
 split
 ·
  next h =>
  have h1 := visF_len gr gr.ns.length (fun n hn => nextL_lt hg (fun _ h => bodyG_lt hg h) hn) (gr.ns.length + 1) z.toNat (fun _ => false, []) (by omega) (by have := lackB_le (fun _ => false) gr.ns.length; show 0 + lackB (fun _ => false) gr.ns.length ≤ _; omega)
  show ((visF gr (gr.ns.length + 1) z.toNat (fun _ => false, [])).2.length : Int) ≤ 1000
  omega
 ·
  simp
theorem IntsAt.drop {w : World} {C g off n cap : Nat} {L : List Int} (h : IntsAt w C (.slice (some ⟨g, off, none⟩) n cap) L) {i : Nat} (hi : i ≤ n) : IntsAt w C (.slice (some ⟨g, off + i, none⟩) (n - i) (cap - i)) (L.drop i) := by
 obtain ⟨ao, c, e, hc, hf⟩ := h
 injection e with e1 e2 e3
 subst e1 e2 e3
 refine ⟨_, _, by rw [List.length_drop], by rw [List.length_drop]; omega, fun j hj => ?_⟩
 rw [List.length_drop] at hj
 obtain ⟨g', off', e, h1, h2, h3⟩ := hf (i + j) (by omega)
 injection e with e
 injection e with e1 e2
 subst e1 e2
 refine ⟨_, _, rfl, h1, h2, ?_⟩
 rw [Nat.add_assoc, h3, List.getD_eq_getElem?_getD, List.getD_eq_getElem?_getD, List.getElem?_drop]
set_option maxRecDepth 1000000 in
set_option maxHeartbeats 9600000 in
theorem tells13_walk (l : List ByteArray) (ao : Option Addr) (cap : Nat) (s : ByteArray) (I : List Int) (io : Option Addr) (ic : Nat) (w : World) (hl : HasN w ao l) (hi : IntsAt w 0 (.slice io I.length ic) I) : Calls Try.prog 3 #[.slice ao l.length cap, .string s, .slice io I.length ic] w fun e w' => e = .returned (.bool true) ∧ Below w.heap.size w w' := by
 have HI0 := Lib.hid hi
 obtain ⟨ni, hni⟩ : ∃ n, I.length = n := ⟨_, rfl⟩
 have HNI := Lib.hid hni
 rw [hni] at HI0
 rw [hni]
 clear hni hi
 have HJD := Lib.hid (joined13_any l ao cap s w hl)
 obtain ⟨R, hR⟩ : ∃ R, jndO l s = R := ⟨_, rfl⟩
 have HR := Lib.hid hR
 rw [hR] at HJD
 obtain ⟨nl, hnl⟩ : ∃ n, l.length = n := ⟨_, rfl⟩
 rw [hnl] at HJD
 rw [hnl]
 clear hl hR hnl
 go_enter Try.func3, Try.ntmps3
 go_wp2_with fail
 refine HJD.out.mono ?_
 rintro e w2 ⟨hE, hb2⟩
 have HB2 := Lib.hid hb2
 clear hb2 HJD
 cases R with
 | none =>
  have hE' : e = .returned (.tuple #[.agg #[.slice none 0 0, .slice none 0 0, .slice none 0 0, .slice none 0 0, .int .i64 0], .bool false]) := hE
  subst hE'
  have hbl : Below w2.heap.size w2 (w2.alloc (.cells #[.slice none 0 0, .slice none 0 0, .slice none 0 0, .slice none 0 0, .int .i64 0] 27)) := (Below.refl _ _).alloc (Nat.le_refl _) _
  have HB3 := Lib.hid (HB2.out.trans (hbl.mono HB2.out.size))
  clear hbl hE
  go_upto_region 2 with fail
  generalize w2.alloc (.cells #[.slice none 0 0, .slice none 0 0, .slice none 0 0, .slice none 0 0, .int .i64 0] 27) = w3 at *
  have HAW := Lib.hid (awake13_any w3)
  go_wp2_with fail
  refine HAW.out.mono ?_
  rintro e w4 ⟨he, hb4⟩
  subst he
  have HB4 := Lib.hid (HB3.out.trans (hb4.mono HB3.out.size))
  clear hb4
  go_wp2
  go_ret
  exact ⟨rfl, HB4.out⟩
 | some gr =>
  obtain ⟨a, he, hG⟩ : ∃ a, e = .returned (.tuple #[grv gr a, .bool true]) ∧ HasG w2 gr a := hE
  subst he
  have hg : Good gr := jnd_good HR.out
  have HGD := Lib.hid hg
  have hbl : Below w2.heap.size w2 (w2.alloc (.cells #[.slice a.mo gr.ms.length a.mc, .slice a.no gr.ns.length a.nc, .slice a.ho gr.hs.length a.hc, .slice a.wo gr.ws.length a.wc, .int .i64 gr.st] 27)) := (Below.refl _ _).alloc (Nat.le_refl _) _
  have HB3 := Lib.hid (HB2.out.trans (hbl.mono HB2.out.size))
  have HG3 := Lib.hid (hG.below hbl)
  have HO3 := Lib.hid (Own.fresh w2 27 [.slice a.mo gr.ms.length a.mc, .slice a.no gr.ns.length a.nc, .slice a.ho gr.hs.length a.hc, .slice a.wo gr.ws.length a.wc, .int .i64 gr.st])
  have HLE := Lib.hid (fun (k : Int) W (h : HasG W gr a) => plead_any gr a hg k W h)
  have HLR := Lib.hid (fun (k : Int) W (h : HasG W gr a) => rlead_any gr a hg k W h)
  have HN1 := Lib.hid (fun W (h : HasG W gr a) => pled_any gr a hg W h)
  have HN2 := Lib.hid (fun W (h : HasG W gr a) => rled_any gr a hg W h)
  have HSA := Lib.hid (fun (M : Nat → Bool) (g h : Nat) W h1 h2 => same_any M gr.ns.length g h hg.len W h1 h2)
  have HLL := Lib.hid (fun z => leadI_len hg z)
  unfold LeE at HLE HLR
  unfold BoE at HN1 HN2
  unfold grv
  unfold grv at HN1 HN2 HLE HLR
  have hn160 := hg.len
  obtain ⟨nn, hnn⟩ : ∃ z, gr.ns.length = z := ⟨_, rfl⟩
  obtain ⟨nh, hnh⟩ : ∃ z, gr.hs.length = z := ⟨_, rfl⟩
  obtain ⟨nms, hnms⟩ : ∃ z, gr.ms.length = z := ⟨_, rfl⟩
  obtain ⟨nw, hnw⟩ : ∃ z, gr.ws.length = z := ⟨_, rfl⟩
  simp only [hnn, hnh, hnms, hnw] at HB3 HG3 HO3 HN1 HN2 HLE HLR HSA hbl
  rw [hnn] at hn160
  rw [hnn, hnh, hnms, hnw]
  clear hnn hnh hnms hnw hG hg hbl
  go_upto_region 2 with fail
  obtain ⟨B, hB⟩ : ∃ B, w2.heap.size = B := ⟨_, rfl⟩
  rw [hB] at HO3
  generalize w2.alloc (.cells #[.slice a.mo nms a.mc, .slice a.no nn a.nc, .slice a.ho nh a.hc, .slice a.wo nw a.wc, .int .i64 gr.st] 27) = w3 at *
  try rw [hB]
  clear hB HB2
  have HC := Lib.hid (show ∀ W, Below w3.heap.size w3 W → W.cell? ⟨B, 0, none⟩ = some (.slice a.mo nms a.mc) ∧ W.cell? ⟨B, 1, none⟩ = some (.slice a.no nn a.nc) ∧ W.cell? ⟨B, 2, none⟩ = some (.slice a.ho nh a.hc) ∧ W.cell? ⟨B, 3, none⟩ = some (.slice a.wo nw a.wc) ∧ W.cell? ⟨B, 4, none⟩ = some (.int .i64 gr.st) ∧ B < W.heap.size from fun W h => by
   have q := HO3.out.under h HO3.out.lt
   exact ⟨q.cell 0, q.cell 1, q.cell 2, q.cell 3, q.cell 4, q.lt⟩)
  have HI3 := Lib.hid (fun W (h : Below w3.heap.size w3 W) => (HI0.out.below HB3.out).below h)
  have HR3 := Lib.hid (Below.refl w3.heap.size w3)
  by_cases h30 : (30 : Int) < (ni : Int)
  ·
   have h30a : decide ((30 : Int) < (ni : Int)) = true := decide_eq_true h30
   have h30b : decide (30 < ni) = true := decide_eq_true (by omega)
   have HAW := Lib.hid (awake13_any w3)
   go_wp2_with fail
   refine HAW.out.mono ?_
   rintro e w4 ⟨he, hb4⟩
   subst he
   have HB4 := Lib.hid (HB3.out.trans (hb4.mono HB3.out.size))
   clear hb4
   go_wp2
   go_ret
   exact ⟨rfl, HB4.out⟩
  have h30a : decide ((30 : Int) < (ni : Int)) = false := decide_eq_false h30
  have h30b : decide (30 < ni) = false := decide_eq_false (by omega)
  obtain ⟨g0, g1, g2, g3, g4, gl⟩ := HC.out w3 HR3.out
  go_wp2_with fail
  clear g0 g1 g2 g3 g4 gl
  go_loopw [9] (fun v9 wr => ∃ z : Int, v9 = .int .i64 z ∧ -1 ≤ z ∧ z ≤ nn + 1 ∧ Hid (Below w3.heap.size w3 wr)) (fun v9 _ => ((nn : Int) + 1 - intOf v9).toNat)
  case atStart => exact ⟨-1, rfl, by omega, by omega, HR3⟩
  case round =>
   obtain ⟨z, rfl, hz, hzn, HBz⟩ := hrel
   obtain ⟨k0, k1, k2, k3, k4, kl⟩ := HC.out wr HBz.out
   by_cases hkn : z ≤ (nn : Int)
   ·
    have hkn1 : decide (z ≤ (nn : Int)) = true := decide_eq_true hkn
    have hw1 : IntKind.i64.wrap (z + 1) = z + 1 := by rw [IntKind.wrap_i64]; omega
    have HZ0 := Lib.hid (show Below w3.heap.size w3 (World.drew wr) from HBz.out.drew)
    go_upto_region 7 with fail
    go_cut [39] (fun s39 wx => s39 = .bool false ∧ Hid (Below w3.heap.size w3 wx))
    case first =>
     refine wp_region_held (S := fun W => W.cell? ⟨B, 0, none⟩ = some (.slice a.mo nms a.mc) ∧ W.cell? ⟨B, 1, none⟩ = some (.slice a.no nn a.nc) ∧ W.cell? ⟨B, 2, none⟩ = some (.slice a.ho nh a.hc) ∧ W.cell? ⟨B, 3, none⟩ = some (.slice a.wo nw a.wc) ∧ W.cell? ⟨B, 4, none⟩ = some (.int .i64 gr.st) ∧ B < W.heap.size) (by kernel_rfl) ?_
     have HSS := Lib.hid (HC.out _ HZ0.out)
     clear k0 k1 k2 k3 k4 kl
     refine tkG 0 ?_ rfl HSS.out (by rfl) ?_ ?_; rotate_left; · rintro W ⟨a0, a1, a2, a3, a4, a5⟩; go_simp; try with_reducible rfl
     go_simp
     refine tkG 1 ?_ rfl HSS.out (by rfl) ?_ ?_; rotate_left; · rintro W ⟨a0, a1, a2, a3, a4, a5⟩; go_simp; try with_reducible rfl
     go_simp
     refine tkG 3 ?_ rfl HSS.out (by rfl) ?_ ?_; rotate_left; · rintro W ⟨a0, a1, a2, a3, a4, a5⟩; go_simp; try with_reducible rfl
     go_simp
     refine tkG 4 ?_ rfl HSS.out (by rfl) ?_ ?_; rotate_left; · rintro W ⟨a0, a1, a2, a3, a4, a5⟩; go_simp; try with_reducible rfl
     go_simp
     refine held_one (i := 2) (by kernel_rfl) (op_call (f := 11) (vs := #[.agg #[.slice a.mo nms a.mc, .slice a.no nn a.nc, .slice a.ho nh a.hc, .slice a.wo nw a.wc, .int .i64 gr.st], .int .i64 z]) rfl (by kernel_rfl) (by go_simp) ((HLE.out z _ (HG3.out.below HZ0.out)).mono ?_))
     rintro e wA ⟨vA, he, hI, hbA⟩
     have HIA := Lib.hid hI
     have HA := Lib.hid (HZ0.out.trans (hbA.mono HZ0.out.size))
     refine ⟨_, he, HC.out _ HA.out, ?_⟩
     clear hbA hI HSS
     go_simp
     refine held_one (i := 5) (by kernel_rfl) (op_call (f := 12) (vs := #[.agg #[.slice a.mo nms a.mc, .slice a.no nn a.nc, .slice a.ho nh a.hc, .slice a.wo nw a.wc, .int .i64 gr.st], .int .i64 z]) rfl (by kernel_rfl) (by go_simp) ((HLR.out z wA (HG3.out.below HA.out)).mono ?_))
     rintro e wB ⟨vB, he, hI, hbB⟩
     have HIB := Lib.hid (And.intro (HIA.out.below hbB) hI)
     have HBq := Lib.hid (HA.out.trans (hbB.mono HA.out.size))
     refine ⟨_, he, HC.out _ HBq.out, ?_⟩
     clear hbB hI
     go_simp
     refine held_one (i := 6) (by kernel_rfl) (op_call (f := 10) (vs := #[vA, vB]) rfl (by kernel_rfl) (by go_simp) ((intsat_any vA vB _ _ _ (HLL.out z) wB HIB.out.1 HIB.out.2).mono ?_))
     rintro e wD ⟨he, hbC⟩
     have HCq := Lib.hid (HBq.out.trans (hbC.mono HBq.out.size))
     refine ⟨_, he, HC.out _ HCq.out, ?_⟩
     clear hbC
     go_simp
     have HSZ := Lib.hid (HC.out _ HCq.out)
     refine tkG 7 ?_ rfl HSZ.out (by rfl) ?_ ?_; rotate_left; · rintro W ⟨a0, a1, a2, a3, a4, a5⟩; go_simp; try with_reducible rfl
     go_simp
     refine wpAnyH_done (by kernel_rfl) ?_ _
     go_simp
     try go_wp2
     go_meet
     exact ⟨rfl, HCq⟩
    case rest =>
     obtain ⟨rfl, HBc⟩ := hcut
     clear k0 k1 k2 k3 k4 kl
     go_wp2
     go_roundw
     case rel => exact ⟨z + 1, by go_num, by omega, by omega, HBc⟩
     case measure => simp [intOf]; omega
   ·
    have hkn1 : decide (z ≤ (nn : Int)) = false := decide_eq_false hkn
    go_wp2_with fail
    clear k0 k1 k2 k3 k4 kl
    go_loopw [10] (fun v10 wr => ∃ i : Nat, v10 = .int .i64 (i : Int) ∧ 1 ≤ i ∧ Hid (Below w3.heap.size w3 wr)) (fun v10 _ => ni - (intOf v10).toNat)
    case atStart => exact ⟨1, rfl, by omega, HBz⟩
    case round =>
     obtain ⟨i, rfl, hi1, HBi⟩ := hrel
     by_cases hin : (i : Int) < (ni : Int)
     ·
      have hin1 : decide ((i : Int) < (ni : Int)) = true := decide_eq_true hin
      have hin2 : decide (i < ni) = true := decide_eq_true (by omega)
      have hw1 : IntKind.i64.wrap ((i : Int) + 1) = (i : Int) + 1 := by rw [IntKind.wrap_i64]; omega
      have HZ0 := Lib.hid (show Below w3.heap.size w3 (World.drew wr) from HBi.out.drew)
      have hI := HI3.out wr HBi.out
      have hic : ni ≤ ic := by obtain ⟨ao1, c1, e1, hc1, -⟩ := hI; injection e1 with e1 e2 e3; rw [e3, HNI.out] at *; exact hc1
      obtain ⟨g, off, hio, f0⟩ : ∃ g off, io = some ⟨g, off, none⟩ ∧ wr.cell? ⟨g, off, none⟩ = some (.int .i64 (I.getD 0 0)) := by
       obtain ⟨ao1, c1, e1, hc1, hf⟩ := hI
       injection e1 with e1 e2 e3
       obtain ⟨g, off, e, -, -, hc⟩ := hf 0 (by rw [HNI.out]; omega)
       exact ⟨g, off, e1.trans e, hc⟩
      subst hio
      have HD := Lib.hid (fun W (h : Below w3.heap.size w3 W) => (HI3.out W h).drop (i := i) (by omega))
      obtain ⟨x0, hx0⟩ : ∃ z, I.getD 0 0 = z := ⟨_, rfl⟩
      rw [hx0] at f0
      have fl : g < wr.heap.size := World.block_lt_of_cell? wr _ f0
      have hl1 : (I.drop i).length ≤ 1000 := by rw [List.length_drop, HNI.out]; omega
      have hl2 : ((putL (I.drop i) x0).length : Int) ≤ 1000 := by have := putL_len x0 (I.drop i); rw [List.length_drop, HNI.out] at this; omega
      have HP1 := Lib.hid (fun W (h : Below w3.heap.size w3 W) => pput_any (I.drop i) x0 hl1 _ 0 W (HD.out W h))
      have HP2 := Lib.hid (fun W (h : Below w3.heap.size w3 W) => rput_any (I.drop i) x0 hl1 _ 0 W (HD.out W h) (Nat.zero_le _))
      have HL2 := Lib.hid hl2
      have hz1 : decide ((0 : Int) < (ni : Int)) = true := decide_eq_true (by omega)
      have hz2 : decide (0 < ni) = true := decide_eq_true (by omega)
      have hz3 : 0 < ni := by omega
      have hil : (i : Int) ≤ (ni : Int) := by omega
      have hil2 : i ≤ ni := by omega
      have hic2 : (ni : Int) ≤ (ic : Int) := by omega
      have hic3 : (i : Int) ≤ (ic : Int) := by omega
      have hic4 : i ≤ ic := by omega
      have hic5 : ¬ ic = i := by omega
      clear hI hx0 hl1 hl2
      go_upto_region 12 with fail
      go_cut [61] (fun s61 wx => s61 = .bool false ∧ Hid (Below w3.heap.size w3 wx))
      case first =>
       have HKS := Lib.hid (fun (W : World) (h : Below wr.heap.size wr W) => show W.cell? ⟨g, off, none⟩ = some (.int .i64 x0) ∧ g < W.heap.size from ⟨keepc f0 h, Nat.lt_of_lt_of_le fl h.size⟩)
       have hb0 : Below wr.heap.size wr (World.drew wr) := (Below.refl _ _).drew
       refine wp_region_held (S := fun W => W.cell? ⟨g, off, none⟩ = some (.int .i64 x0) ∧ g < W.heap.size) (by kernel_rfl) ?_
       have HSS := Lib.hid (HKS.out _ hb0)
       clear f0 fl
       refine tkG 0 ?_ rfl HSS.out (by rfl) ?_ ?_; rotate_left; · rintro W ⟨a0, a1⟩; go_simp; try with_reducible rfl
       go_simp
       refine tkG 1 ?_ rfl HSS.out (by rfl) ?_ ?_; rotate_left; · rintro W ⟨a0, a1⟩; go_simp; try with_reducible rfl
       go_simp
       refine tkG 2 ?_ rfl HSS.out (by rfl) ?_ ?_; rotate_left; · rintro W ⟨a0, a1⟩; go_simp; try with_reducible rfl
       go_simp
       refine tkG 3 ?_ rfl HSS.out (by rfl) ?_ ?_; rotate_left; · rintro W ⟨a0, a1⟩; go_simp; try with_reducible rfl
       go_simp
       refine tkG 4 ?_ rfl HSS.out (by rfl) ?_ ?_; rotate_left; · rintro W ⟨a0, a1⟩; go_simp; try with_reducible rfl
       go_simp
       refine tkG 5 ?_ rfl HSS.out (by rfl) ?_ ?_; rotate_left; · rintro W ⟨a0, a1⟩; go_simp; try with_reducible rfl
       go_simp
       refine tkG 7 ?_ rfl HSS.out (by rfl) ?_ ?_; rotate_left; · rintro W ⟨a0, a1⟩; go_simp; try with_reducible rfl
       go_simp
       refine tkG 8 ?_ rfl HSS.out (by rfl) ?_ ?_; rotate_left; · rintro W ⟨a0, a1⟩; go_simp; try with_reducible rfl
       go_simp
       refine tkG 9 ?_ rfl HSS.out (by rfl) ?_ ?_; rotate_left; · rintro W ⟨a0, a1⟩; go_simp; try with_reducible rfl
       go_simp
       refine tkG 10 ?_ rfl HSS.out (by rfl) ?_ ?_; rotate_left; · rintro W ⟨a0, a1⟩; go_simp; try with_reducible rfl
       go_simp
       refine tkG 11 ?_ rfl HSS.out (by rfl) ?_ ?_; rotate_left; · rintro W ⟨a0, a1⟩; go_simp; try with_reducible rfl
       go_simp
       refine tkG 12 ?_ rfl HSS.out (by rfl) ?_ ?_; rotate_left; · rintro W ⟨a0, a1⟩; go_simp; try with_reducible rfl
       go_simp
       refine held_one (i := 6) (by kernel_rfl) (op_call (f := 13) (vs := #[.slice (some ⟨g, off + i, none⟩) (ni - i) (ic - i), .int .i64 x0]) rfl (by kernel_rfl) (by go_simp) ((HP1.out _ HZ0.out).mono ?_))
       rintro e wA ⟨vA, he, hI, hbA⟩
       have HIA := Lib.hid hI
       have HA := Lib.hid (HZ0.out.trans (hbA.mono HZ0.out.size))
       have hb1 := hb0.trans (hbA.mono hb0.size)
       refine ⟨_, he, HKS.out _ hb1, ?_⟩
       clear hbA hI HSS
       go_simp
       refine held_one (i := 13) (by kernel_rfl) (op_call (f := 14) (vs := #[.slice (some ⟨g, off + i, none⟩) (ni - i) (ic - i), .int .i64 x0]) rfl (by kernel_rfl) (by go_simp) ((HP2.out wA HA.out).mono ?_))
       rintro e wB ⟨vB, he, hI, hbB⟩
       have HIB := Lib.hid (And.intro (HIA.out.below hbB) hI)
       have HBq := Lib.hid (HA.out.trans (hbB.mono HA.out.size))
       have hb2 := hb1.trans (hbB.mono hb1.size)
       refine ⟨_, he, HKS.out _ hb2, ?_⟩
       clear hbB hI
       go_simp
       refine held_one (i := 14) (by kernel_rfl) (op_call (f := 10) (vs := #[vA, vB]) rfl (by kernel_rfl) (by go_simp) ((intsat_any vA vB _ _ _ HL2.out wB HIB.out.1 HIB.out.2).mono ?_))
       rintro e wD ⟨he, hbC⟩
       have HCq := Lib.hid (HBq.out.trans (hbC.mono HBq.out.size))
       have hb3 := hb2.trans (hbC.mono hb2.size)
       have HSZ := Lib.hid (HKS.out _ hb3)
       refine ⟨_, he, HSZ.out, ?_⟩
       clear hbC
       go_simp
       refine tkG 15 ?_ rfl HSZ.out (by rfl) ?_ ?_; rotate_left; · rintro W ⟨a0, a1⟩; go_simp; try with_reducible rfl
       go_simp
       refine wpAnyH_done (by kernel_rfl) ?_ _
       go_simp
       try go_wp2
       go_meet
       exact ⟨rfl, HCq⟩
      case rest =>
       obtain ⟨rfl, HBc⟩ := hcut
       go_wp2
       go_roundw
       case rel => exact ⟨i + 1, by go_num, by omega, HBc⟩
       case measure => simp [intOf]; omega
     ·
      have hin1 : decide ((i : Int) < (ni : Int)) = false := decide_eq_false hin
      have hin2 : decide (i < ni) = false := decide_eq_false (by omega)
      go_wp2_with fail
      have HZ0 := Lib.hid (show Below w3.heap.size w3 (World.drew wr) from HBi.out.drew)
      go_region_with (first
       | (go_at_call 9; refine (awake13_any _).mono ?_; rintro e wA ⟨rfl, hbA⟩; have HA := Lib.hid (HZ0.out.trans (hbA.mono HZ0.out.size)); clear hbA; obtain ⟨k0, k1, k2, k3, k4, kl⟩ := HC.out wA HA.out)
       | (go_at_call 16; refine (HN1.out wA (HG3.out.below HA.out)).mono ?_; rintro e wB ⟨q1, rfl, o1, -, hbB⟩; have HO1 := Lib.hid o1; have HBq := Lib.hid (HA.out.trans (hbB.mono HA.out.size)); clear o1 hbB; clear k0 k1 k2 k3 k4 kl; obtain ⟨k0, k1, k2, k3, k4, kl⟩ := HC.out wB HBq.out)
       | (go_at_call 17; refine (HN2.out wB (HG3.out.below HBq.out)).mono ?_; rintro e wD ⟨q2, rfl, o2, -, hbC⟩; have HO2 := Lib.hid (And.intro (HO1.out.under hbC HO1.out.lt) o2); have HC2 := Lib.hid (HBq.out.trans (hbC.mono HBq.out.size)); clear o2 hbC)
       | (go_at_call 15; refine (HSA.out _ q1 q2 wD HO2.out.1 HO2.out.2).mono ?_; rintro e wG ⟨rfl, hbG⟩; have HG9 := Lib.hid (HC2.out.trans (hbG.mono HC2.out.size)); clear hbG))
      all_goals
       have HBZ := Lib.hid (HB3.out.trans (HG9.out.mono HB3.out.size))
       go_wp2
       go_ret
       exact ⟨rfl, HBZ.out⟩
end Go.Proofs.Ytbjgojdpfehnmaa
