/- EmptyTells: the law's own, walked. -/
import Derived.Test.YtgikhkjnemglbaaAw12
import Derived.Test.YtgikhkjnemglbaaGdA
import Derived.Test.YtgikhkjnemglbaaIe
import Derived.Deep.RegionWith
import Derived.Deep.CutBlock
namespace Go.Proofs.Ytgikhkjnemglbaa
set_option linter.unusedVariables false
open Go.RowKit Go.Sort

set_option maxRecDepth 1000000 in
set_option maxHeartbeats 9600000 in
theorem tells12_walk (l : List ByteArray) (ao : Option Addr) (cap : Nat) (s : ByteArray) (w : World) (hl : HasN w ao l) : Calls Try.prog 5 #[.slice ao l.length cap, .string s] w fun e w' => e = .returned (.bool true) ∧ Below w.heap.size w w' := by
  have HJD := Lib.hid (joined12_any l ao cap s w hl)
  obtain ⟨R, hR⟩ : ∃ R, jndO l s = R := ⟨_, rfl⟩
  have HR := Lib.hid hR
  rw [hR] at HJD
  obtain ⟨nl, hnl⟩ : ∃ n, l.length = n := ⟨_, rfl⟩
  rw [hnl] at HJD
  rw [hnl]
  clear hl hR hnl
  go_enter Try.func5, Try.ntmps5
  go_wp2_with fail
  refine HJD.out.mono ?_
  rintro e w2 ⟨hE, hb2⟩
  have HB2 := Lib.hid hb2
  clear hb2 HJD
  cases R with
  | none =>
    have hE' : e = .returned (.tuple #[.agg #[.slice none 0 0, .slice none 0 0, .slice none 0 0, .slice none 0 0, .int .i64 0], .bool false]) := hE
    subst hE'
    have hbl : Below w2.heap.size w2 (w2.alloc (.cells #[.slice none 0 0, .slice none 0 0, .slice none 0 0, .slice none 0 0, .int .i64 0] 31)) := (Below.refl _ _).alloc (Nat.le_refl _) _
    have HB3 := Lib.hid (HB2.out.trans (hbl.mono HB2.out.size))
    clear hbl hE
    go_upto_region 2 with fail
    generalize w2.alloc (.cells #[.slice none 0 0, .slice none 0 0, .slice none 0 0, .slice none 0 0, .int .i64 0] 31) = w3 at *
    have HAW := Lib.hid (awake12_any w3)
    go_wp2_with fail
    refine HAW.out.mono ?_
    rintro e w4 ⟨he, hb4⟩
    subst he
    have HB4 := Lib.hid (HB3.out.trans (hb4.mono HB3.out.size))
    clear hb4
    go_wp2
    go_ret
    exact ⟨rfl, HB4.out⟩
  | some gr =>
    obtain ⟨a, he, hG⟩ : ∃ a, e = .returned (.tuple #[grv gr a, .bool true]) ∧ HasG w2 gr a := hE
    subst he
    have hg : Good gr := jnd_good HR.out
    have HGD := Lib.hid hg
    have hbl : Below w2.heap.size w2 (w2.alloc (.cells #[.slice a.mo gr.ms.length a.mc, .slice a.no gr.ns.length a.nc, .slice a.ho gr.hs.length a.hc, .slice a.wo gr.ws.length a.wc, .int .i64 gr.st] 31)) := (Below.refl _ _).alloc (Nat.le_refl _) _
    have HB3 := Lib.hid (HB2.out.trans (hbl.mono HB2.out.size))
    have HG3 := Lib.hid (hG.below hbl)
    have HO3 := Lib.hid (Own.fresh w2 31 [.slice a.mo gr.ms.length a.mc, .slice a.no gr.ns.length a.nc, .slice a.ho gr.hs.length a.hc, .slice a.wo gr.ws.length a.wc, .int .i64 gr.st])
    have HN1 := Lib.hid (fun W (h : HasG W gr a) => enull_any gr a hg W h)
    have HN2 := Lib.hid (fun W (h : HasG W gr a) => snull_any gr a hg W h)
    have HF1 := Lib.hid (fun W (h : HasG W gr a) => efails_any gr a hg W h)
    have HF2 := Lib.hid (fun W (h : HasG W gr a) => sfails_any gr a hg W h)
    have HBE := Lib.hid (fun n (hn : n < gr.ns.length) W (h : HasG W gr a) => ebody_any gr a hg n hn W h)
    have HBR := Lib.hid (fun n (hn : n < gr.ns.length) W (h : HasG W gr a) => sbody_any gr a hg n hn W h)
    have HSA := Lib.hid (fun (M : Nat → Bool) (g h : Nat) W h1 h2 => same_any M gr.ns.length g h hg.len W h1 h2)
    unfold BoE at HN1 HN2 HF1 HF2
    unfold grv
    unfold grv at HN1 HN2 HF1 HF2 HBE HBR
    have hn160 := hg.len
    obtain ⟨nn, hnn⟩ : ∃ z, gr.ns.length = z := ⟨_, rfl⟩
    obtain ⟨nh, hnh⟩ : ∃ z, gr.hs.length = z := ⟨_, rfl⟩
    obtain ⟨nms, hnms⟩ : ∃ z, gr.ms.length = z := ⟨_, rfl⟩
    obtain ⟨nw, hnw⟩ : ∃ z, gr.ws.length = z := ⟨_, rfl⟩
    simp only [hnn, hnh, hnms, hnw] at HB3 HG3 HO3 HN1 HN2 HF1 HF2 HBE HBR HSA hbl
    rw [hnn] at hn160
    rw [hnn, hnh, hnms, hnw]
    clear hnn hnh hnms hnw hG hg hbl
    go_upto_region 2 with fail
    obtain ⟨B, hB⟩ : ∃ B, w2.heap.size = B := ⟨_, rfl⟩
    rw [hB] at HO3
    generalize w2.alloc (.cells #[.slice a.mo nms a.mc, .slice a.no nn a.nc, .slice a.ho nh a.hc, .slice a.wo nw a.wc, .int .i64 gr.st] 31) = w3 at *
    try rw [hB]
    clear hB HB2
    have HC := Lib.hid (show ∀ W, Below w3.heap.size w3 W → W.cell? ⟨B, 0, none⟩ = some (.slice a.mo nms a.mc) ∧ W.cell? ⟨B, 1, none⟩ = some (.slice a.no nn a.nc) ∧ W.cell? ⟨B, 2, none⟩ = some (.slice a.ho nh a.hc) ∧ W.cell? ⟨B, 3, none⟩ = some (.slice a.wo nw a.wc) ∧ W.cell? ⟨B, 4, none⟩ = some (.int .i64 gr.st) ∧ B < W.heap.size from fun W h => by
      have q := HO3.out.under h HO3.out.lt
      exact ⟨q.cell 0, q.cell 1, q.cell 2, q.cell 3, q.cell 4, q.lt⟩)
    have HR3 := Lib.hid (Below.refl w3.heap.size w3)
    go_wp2_with fail
    go_loopw [7] (fun v7 wr => ∃ k : Nat, v7 = .int .i64 (k : Int) ∧ (k : Int) ≤ nn ∧ Hid (Below w3.heap.size w3 wr)) (fun v7 _ => nn - (intOf v7).toNat)
    case atStart => exact ⟨0, rfl, by omega, HR3⟩
    case round =>
      obtain ⟨k, rfl, hk, HBk⟩ := hrel
      obtain ⟨k0, k1, k2, k3, k4, kl⟩ := HC.out wr HBk.out
      by_cases hkn : (k : Int) < nn
      · have hkn1 : decide ((k : Int) < nn) = true := decide_eq_true hkn
        have hkn2 : decide (k < nn) = true := decide_eq_true (by omega)
        have hw1 : IntKind.i64.wrap ((k : Int) + 1) = (k : Int) + 1 := by rw [IntKind.wrap_i64]; omega
        have HCE := Lib.hid (fun (dq : Nat) (os : Array Obj) => HBE.out k (by omega) (grow (redrawn wr dq) os) ((HG3.out.below HBk.out).below (below_regrown wr dq os)))
        have HCR := Lib.hid (fun (dq : Nat) (os : Array Obj) => HBR.out k (by omega) (grow (redrawn wr dq) os) ((HG3.out.below HBk.out).below (below_regrown wr dq os)))
        have c0 := cell_regrown k0
        have c1 := cell_regrown k1
        have c2 := cell_regrown k2
        have c3 := cell_regrown k3
        have c4 := cell_regrown k4
        go_wp2_with fail
        refine wp_region_quiet_below (by kernel_rfl) (by kernel_rfl) ?_
        repeat (go_big_quiet_step (first
          | (go_at_call 23; with_reducible exact Calls.regrown_of (HCE.out _ _))
          | (go_at_call 24; with_reducible exact Calls.regrown_of (HCR.out _ _))))
        refine wpQuiet_nil ?_
        intro _ hw'
        obtain ⟨⟨dq, osq⟩, hw''⟩ := hw'
        subst hw''
        have HBn := Lib.hid (keepb HBk.out (below_regrown wr dq osq))
        clear k0 k1 k2 k3 k4 kl c0 c1 c2 c3 c4
        generalize grow (redrawn wr dq) osq = wt at *
        go_wp2
        go_roundw
        case rel => exact ⟨k + 1, by go_num, by omega, HBn⟩
        case measure => simp [intOf]; omega
      · have hkn1 : decide ((k : Int) < nn) = false := decide_eq_false hkn
        have hkn2 : decide (k < nn) = false := decide_eq_false (by omega)
        go_wp2_with fail
        go_region_with (first
          | (go_at_call 22; refine (awake12_any _).mono ?_; rintro e wA ⟨rfl, hbA⟩; have HA := Lib.hid (HBk.out.drew.trans (hbA.mono (by simpa using HBk.out.size))); clear hbA; obtain ⟨k0, k1, k2, k3, k4, kl⟩ := HC.out wA HA.out)
          | (go_at_call 26; refine (HN1.out wA (HG3.out.below HA.out)).mono ?_; rintro e wB ⟨g1, rfl, o1, -, hbB⟩; have HO1 := Lib.hid o1; have HB := Lib.hid (HA.out.trans (hbB.mono HA.out.size)); clear o1 hbB; clear k0 k1 k2 k3 k4 kl; obtain ⟨k0, k1, k2, k3, k4, kl⟩ := HC.out wB HB.out)
          | (go_at_call 27; refine (HN2.out wB (HG3.out.below HB.out)).mono ?_; rintro e wC ⟨g2, rfl, o2, -, hbC⟩; have HO2 := Lib.hid (And.intro (HO1.out.under hbC HO1.out.lt) o2); have HC2 := Lib.hid (HB.out.trans (hbC.mono HB.out.size)); clear o2 hbC; clear k0 k1 k2 k3 k4 kl; obtain ⟨k0, k1, k2, k3, k4, kl⟩ := HC.out wC HC2.out)
          | (go_at_call 25; refine (HSA.out _ g3 g4 wF HO4.out.1 HO4.out.2).mono ?_; rintro e wG ⟨rfl, hbG⟩; have HG9 := Lib.hid (HF.out.trans (hbG.mono HF.out.size)); clear hbG)
          | (go_at_call 25; refine (HSA.out _ g1 g2 wC HO2.out.1 HO2.out.2).mono ?_; rintro e wD ⟨rfl, hbD⟩; have HD := Lib.hid (HC2.out.trans (hbD.mono HC2.out.size)); clear hbD; clear k0 k1 k2 k3 k4 kl; obtain ⟨k0, k1, k2, k3, k4, kl⟩ := HC.out wD HD.out)
          | (go_at_call 28; refine (HF1.out wD (HG3.out.below HD.out)).mono ?_; rintro e wE ⟨g3, rfl, o3, -, hbE⟩; have HO3e := Lib.hid o3; have HE := Lib.hid (HD.out.trans (hbE.mono HD.out.size)); clear o3 hbE; clear k0 k1 k2 k3 k4 kl; obtain ⟨k0, k1, k2, k3, k4, kl⟩ := HC.out wE HE.out)
          | (go_at_call 29; refine (HF2.out wE (HG3.out.below HE.out)).mono ?_; rintro e wF ⟨g4, rfl, o4, -, hbF⟩; have HO4 := Lib.hid (And.intro (HO3e.out.under hbF HO3e.out.lt) o4); have HF := Lib.hid (HE.out.trans (hbF.mono HE.out.size)); clear o4 hbF))
        all_goals
          have HBZ := Lib.hid (HB3.out.trans (HG9.out.mono HB3.out.size))
          go_wp2
          go_ret
          exact ⟨rfl, HBZ.out⟩
end Go.Proofs.Ytgikhkjnemglbaa
