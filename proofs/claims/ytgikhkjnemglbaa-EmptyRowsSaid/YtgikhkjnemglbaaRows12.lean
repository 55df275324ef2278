/- EmptyRows: the law's own, walked. -/
import Derived.Test.YtgikhkjnemglbaaAw12
import Derived.Test.YtgikhkjnemglbaaGdA
import Derived.Test.YtgikhkjnemglbaaIh
import Derived.Deep.RegionWith
import Derived.Deep.CutBlock
namespace Go.Proofs.Ytgikhkjnemglbaa
set_option linter.unusedVariables false
open Go.RowKit Go.Sort

/-- Both rows of marks, above a world. -/
def Qs (w : World) (gr : Gj) (nn g h : Nat) (w' : World) : Prop := Own w' g 4 (rowB (nulG gr) nn) ∧ Own w' h 4 (rowB (faiG gr) nn) ∧ Below w.heap.size w w'
set_option maxRecDepth 1000000 in
set_option maxHeartbeats 9600000 in
theorem rows12_walk (l : List ByteArray) (ao : Option Addr) (cap : Nat) (s : ByteArray) (w : World) (hl : HasN w ao l) : Calls Try.prog 7 #[.slice ao l.length cap, .string s] w fun e w' => e = .returned (.bool true) ∧ Below w.heap.size w w' := by
  have HJD := Lib.hid (joined12_any l ao cap s w hl)
  obtain ⟨R, hR⟩ : ∃ R, jndO l s = R := ⟨_, rfl⟩
  have HR := Lib.hid hR
  rw [hR] at HJD
  obtain ⟨nl, hnl⟩ : ∃ n, l.length = n := ⟨_, rfl⟩
  rw [hnl] at HJD
  rw [hnl]
  clear hl hR hnl
  go_enter Try.func7, Try.ntmps7
  go_wp2_with fail
  refine HJD.out.mono ?_
  rintro e w2 ⟨hE, hb2⟩
  have HB2 := Lib.hid hb2
  clear hb2 HJD
  cases R with
  | none =>
    have hE' : e = .returned (.tuple #[.agg #[.slice none 0 0, .slice none 0 0, .slice none 0 0, .slice none 0 0, .int .i64 0], .bool false]) := hE
    subst hE'
    have hbl : Below w2.heap.size w2 (w2.alloc (.cells #[.slice none 0 0, .slice none 0 0, .slice none 0 0, .slice none 0 0, .int .i64 0] 31)) := (Below.refl _ _).alloc (Nat.le_refl _) _
    have HB3 := Lib.hid (HB2.out.trans (hbl.mono HB2.out.size))
    clear hbl hE
    go_upto_region 2 with fail
    generalize w2.alloc (.cells #[.slice none 0 0, .slice none 0 0, .slice none 0 0, .slice none 0 0, .int .i64 0] 31) = w3 at *
    have HAW := Lib.hid (awake12_any w3)
    go_wp2_with fail
    refine HAW.out.mono ?_
    rintro e w4 ⟨he, hb4⟩
    subst he
    have HB4 := Lib.hid (HB3.out.trans (hb4.mono HB3.out.size))
    clear hb4
    go_wp2
    go_ret
    exact ⟨rfl, HB4.out⟩
  | some gr =>
    obtain ⟨a, he, hG⟩ : ∃ a, e = .returned (.tuple #[grv gr a, .bool true]) ∧ HasG w2 gr a := hE
    subst he
    have hg : Good gr := jnd_good HR.out
    have HGD := Lib.hid hg
    have hbl : Below w2.heap.size w2 (w2.alloc (.cells #[.slice a.mo gr.ms.length a.mc, .slice a.no gr.ns.length a.nc, .slice a.ho gr.hs.length a.hc, .slice a.wo gr.ws.length a.wc, .int .i64 gr.st] 31)) := (Below.refl _ _).alloc (Nat.le_refl _) _
    have HB3 := Lib.hid (HB2.out.trans (hbl.mono HB2.out.size))
    have HG3 := Lib.hid (hG.below hbl)
    have HO3 := Lib.hid (Own.fresh w2 31 [.slice a.mo gr.ms.length a.mc, .slice a.no gr.ns.length a.nc, .slice a.ho gr.hs.length a.hc, .slice a.wo gr.ws.length a.wc, .int .i64 gr.st])
    have HN := Lib.hid (fun W W2 hb h => qb1_any gr a hg W h W2 hb)
    have HF := Lib.hid (fun W g W2 hq h => qb2_any gr a hg W h g W2 hq)
    have HQR := Lib.hid (fun (W : World) g h w' (hq : Qb2 W gr g h w') => show Own w' g 4 (rowB (nulG gr) gr.ns.length) ∧ Own w' h 4 (rowB (faiG gr) gr.ns.length) ∧ Below W.heap.size W w' from hq)
    unfold grv
    unfold grv at HN HF
    have hn160 := hg.len
    obtain ⟨nn, hnn⟩ : ∃ z, gr.ns.length = z := ⟨_, rfl⟩
    obtain ⟨nh, hnh⟩ : ∃ z, gr.hs.length = z := ⟨_, rfl⟩
    obtain ⟨nms, hnms⟩ : ∃ z, gr.ms.length = z := ⟨_, rfl⟩
    obtain ⟨nw, hnw⟩ : ∃ z, gr.ws.length = z := ⟨_, rfl⟩
    have HNN := Lib.hid (And.intro hnn hnh)
    simp only [hnn, hnh, hnms, hnw] at HB3 HG3 HO3 HN HF HQR hbl
    rw [hnn] at hn160
    rw [hnn, hnh, hnms, hnw]
    clear hnn hnh hnms hnw hG hg hbl
    go_upto_region 2 with fail
    obtain ⟨B, hB⟩ : ∃ B, w2.heap.size = B := ⟨_, rfl⟩
    rw [hB] at HO3
    generalize w2.alloc (.cells #[.slice a.mo nms a.mc, .slice a.no nn a.nc, .slice a.ho nh a.hc, .slice a.wo nw a.wc, .int .i64 gr.st] 31) = w3 at *
    try rw [hB]
    clear hB HB2
    have HC := Lib.hid (show ∀ W, Below w3.heap.size w3 W → W.cell? ⟨B, 0, none⟩ = some (.slice a.mo nms a.mc) ∧ W.cell? ⟨B, 1, none⟩ = some (.slice a.no nn a.nc) ∧ W.cell? ⟨B, 2, none⟩ = some (.slice a.ho nh a.hc) ∧ W.cell? ⟨B, 3, none⟩ = some (.slice a.wo nw a.wc) ∧ W.cell? ⟨B, 4, none⟩ = some (.int .i64 gr.st) ∧ B < W.heap.size from fun W h => by
      have q := HO3.out.under h HO3.out.lt
      exact ⟨q.cell 0, q.cell 1, q.cell 2, q.cell 3, q.cell 4, q.lt⟩)
    obtain ⟨g0, g1, g2, g3, g4, gl⟩ := HC.out w3 (Below.refl _ _)
    go_upto_region 4 with fail
    go_cut [7, 8] (fun s7 s8 wx => ∃ g h, s7 = .slice (some ⟨g, 0, none⟩) nn nn ∧ s8 = .slice (some ⟨h, 0, none⟩) nn nn ∧ Hid (Qs w3 gr nn g h wx))
    case first =>
      go_region_with (first
        | (go_at_call 26; refine (HN.out w3 _ ?_ HG3.out).mono ?_; exact (Below.refl _ _).drew; rintro e w4 ⟨gg, rfl, hq⟩; obtain ⟨k0, k1, k2, k3, k4, kl⟩ := HC.out w4 hq.2.2)
        | (go_at_call 28; refine (HF.out w3 gg _ hq HG3.out).mono ?_; rintro e w5 ⟨gh, rfl, hq2⟩))
      all_goals
        have HQ5 := Lib.hid (HQR.out w3 gg gh w5 hq2)
        clear hq hq2
        go_wp2
        go_meet
        exact ⟨gg, gh, rfl, rfl, HQ5⟩
    case rest =>
      obtain ⟨g, h, rfl, rfl, HQ⟩ := hcut
      obtain ⟨k0, k1, k2, k3, k4, kl⟩ := HC.out wc HQ.out.2.2
      clear g0 g1 g2 g3 g4 gl HN HF HQR
      go_wp2_with fail
      go_loopw [9] (fun v9 wr => ∃ k : Nat, v9 = .int .i64 (k : Int) ∧ (k : Int) ≤ nn ∧ Hid (Qs w3 gr nn g h wr)) (fun v9 _ => nn - (intOf v9).toNat)
      case atStart => exact ⟨0, rfl, by omega, HQ⟩
      case round =>
        obtain ⟨k, rfl, hk, HQk⟩ := hrel
        clear k0 k1 k2 k3 k4 kl HQ
        obtain ⟨k0, k1, k2, k3, k4, kl⟩ := HC.out wr HQk.out.2.2
        by_cases hkn : (k : Int) < nn
        · have hkn1 : decide ((k : Int) < nn) = true := decide_eq_true hkn
          have hkn2 : decide (k < nn) = true := decide_eq_true (by omega)
          have hw1 : IntKind.i64.wrap ((k : Int) + 1) = (k : Int) + 1 := by rw [IntKind.wrap_i64]; omega
          obtain ⟨x, hx⟩ : ∃ x, gr.ns[k]? = some x := ⟨_, List.getElem?_eq_getElem (by have := HNN.out.1; omega)⟩
          have HX := Lib.hid hx
          have HFN := Lib.hid (nulG_fix gr k (by have := HNN.out.1; omega))
          have HFF := Lib.hid (faiG_fix gr k (by have := HNN.out.1; omega))
          have HKID := Lib.hid (HGD.out.kid x (List.mem_of_getElem? hx))
          obtain ⟨b, off, ko, kc, hno, hb, -, c0, c1, c2, c3, c4, c5, c6, c7, c8, c9, hkk⟩ := (HG3.out.below HQk.out.2.2).1 k x hx
          have HHS := Lib.hid (HG3.out.below HQk.out.2.2).2.1
          obtain ⟨nk, hnk⟩ : ∃ z, x.ks.length = z := ⟨_, rfl⟩
          have HNK := Lib.hid hnk
          obtain ⟨op, hop⟩ : ∃ z, x.op = z := ⟨_, rfl⟩
          have HOP := Lib.hid hop
          rw [hnk] at c6
          rw [hop] at c0
          rw [hno] at k1
          have hbl : Below wr.heap.size wr (wr.alloc (.cells #[.int .i64 op, .string x.tx, .int .u64 x.s0, .int .u64 x.s1, .int .u64 x.s2, .int .u64 x.s3, .slice ko nk kc, .int .i64 x.tg, .int .i64 (x.mo : Int), .int .i64 x.ru] 50)) := (Below.refl _ _).alloc (Nat.le_refl _) _
          have HQ4 := Lib.hid (show Qs w3 gr nn g h (wr.alloc (.cells #[.int .i64 op, .string x.tx, .int .u64 x.s0, .int .u64 x.s1, .int .u64 x.s2, .int .u64 x.s3, .slice ko nk kc, .int .i64 x.tg, .int .i64 (x.mo : Int), .int .i64 x.ru] 50)) from ⟨HQk.out.1.under hbl HQk.out.1.lt, HQk.out.2.1.under hbl HQk.out.2.1.lt, HQk.out.2.2.trans (hbl.mono HQk.out.2.2.size)⟩)
          have HK4 := Lib.hid (hkk.below hbl)
          have HH4 := Lib.hid (HHS.out.but (S := fun _ => False) (But.of_below hbl) (fun _ _ _ h => h))
          have HN4 := Lib.hid (Own.fresh wr 50 [.int .i64 op, .string x.tx, .int .u64 x.s0, .int .u64 x.s1, .int .u64 x.s2, .int .u64 x.s3, .slice ko nk kc, .int .i64 x.tg, .int .i64 (x.mo : Int), .int .i64 x.ru])
          clear hx hkk hbl hnk hop
          go_upto_region 11 with fail
          obtain ⟨B4, hB4⟩ : ∃ z, wr.heap.size = z := ⟨_, rfl⟩
          rw [hB4] at HN4
          generalize wr.alloc (.cells #[.int .i64 op, .string x.tx, .int .u64 x.s0, .int .u64 x.s1, .int .u64 x.s2, .int .u64 x.s3, .slice ko nk kc, .int .i64 x.tg, .int .i64 (x.mo : Int), .int .i64 x.ru] 50) = w4 at *
          try rw [hB4]
          clear c0 c1 c2 c3 c4 c5 c6 c7 c8 c9 hb hno k0 k1 k2 k3 k4 kl hB4 HQk HHS
          have y0 : w4.cell? ⟨B4, 0, none⟩ = some (.int .i64 op) := HN4.out.cell 0
          have y6 : w4.cell? ⟨B4, 6, none⟩ = some (.slice ko nk kc) := HN4.out.cell 6
          have y7 : w4.cell? ⟨B4, 7, none⟩ = some (.int .i64 x.tg) := HN4.out.cell 7
          have yl := HN4.out.lt
          have m0 : w4.cell? ⟨g, k, none⟩ = some (.bool (nulG gr k)) := by rw [HQ4.out.1.cell k]; exact rowB_at _ nn k (by omega)
          have f0 : w4.cell? ⟨h, k, none⟩ = some (.bool (faiG gr k)) := by rw [HQ4.out.2.1.cell k]; exact rowB_at _ nn k (by omega)
          have ml := HQ4.out.1.lt
          have fl := HQ4.out.2.1.lt
          have HA := Lib.hid (show nulG gr k = (if op = 6 ∨ op = 8 ∨ op = 9 ∨ op = 10 then true else if op = 4 ∨ op = 7 ∨ op = 12 then x.ks.all (nulG gr) else if op = 5 then x.ks.any (nulG gr) else if op = 11 then nulG gr (bodyG gr k) else false) from HFN.out.trans (by unfold nulB; rw [HX.out, ← HOP.out]; try rfl))
          have HFB := Lib.hid (show faiG gr k = (if op = 6 ∨ op = 8 then false else if op = 4 then x.ks.any (faiG gr) else if op = 5 ∨ op = 7 ∨ op = 12 ∨ op = 9 then x.ks.all (faiG gr) else if op = 11 then faiG gr (bodyG gr k) else true) from HFF.out.trans (by unfold faiB; rw [HX.out, ← HOP.out]; try rfl))
          clear HFN HFF
          by_cases h45 : op = 4 ∨ op = 5
          · have HM0 := Lib.hid m0
            have HF0 := Lib.hid f0
            clear m0 f0 ml fl y7
            go_cut [62] (fun s62 wx => s62 = .bool false ∧ w4 = wx)
            case first =>
              rcases h45 with h4 | h5
              · have b4 : (op != 4) = false := by rw [h4]; rfl
                go_wp2
                go_meet
                exact ⟨rfl, rfl⟩
              · have b4 : (op != 4) = true := by rw [h5]; rfl
                have b5 : (op != 5) = false := by rw [h5]; rfl
                go_wp2
                go_meet
                exact ⟨rfl, rfl⟩
            case rest =>
              obtain ⟨rfl, rfl⟩ := hcut
              clear y0
              go_wp2_with fail
              go_loopw [11, 12, 13, 14, 15] (fun v11 v12 v13 v14 v15 wr => ∃ i : Nat, v15 = .int .i64 (i : Int) ∧ (i : Int) ≤ nk ∧ v11 = .bool ((x.ks.take i).any (nulG gr)) ∧ v12 = .bool ((x.ks.take i).all (nulG gr)) ∧ v13 = .bool ((x.ks.take i).any (faiG gr)) ∧ v14 = .bool ((x.ks.take i).all (faiG gr)) ∧ Hid (Below w4.heap.size w4 wr)) (fun _ _ _ _ v15 _ => nk - (intOf v15).toNat)
              case atStart => exact ⟨0, rfl, by omega, rfl, rfl, rfl, rfl, Lib.hid (Below.refl _ _)⟩
              case round =>
                obtain ⟨i, rfl, hi, rfl, rfl, rfl, rfl, HB5⟩ := hrel
                have HQ5 := Lib.hid (show Qs w3 gr nn g h wr from ⟨HQ4.out.1.under HB5.out HQ4.out.1.lt, HQ4.out.2.1.under HB5.out HQ4.out.2.1.lt, HQ4.out.2.2.trans (HB5.out.mono HQ4.out.2.2.size)⟩)
                have HN5 := Lib.hid (HN4.out.under HB5.out HN4.out.lt)
                clear y6 yl
                have y0 : wr.cell? ⟨B4, 0, none⟩ = some (.int .i64 op) := HN5.out.cell 0
                have y6 : wr.cell? ⟨B4, 6, none⟩ = some (.slice ko nk kc) := HN5.out.cell 6
                have yl := HN5.out.lt
                have ml := HQ5.out.1.lt
                have fl := HQ5.out.2.1.lt
                by_cases hin : (i : Int) < nk
                · have hi1 : decide ((i : Int) < (nk : Int)) = true := decide_eq_true hin
                  have hi2 : decide (i < nk) = true := decide_eq_true (by omega)
                  have hw2 : IntKind.i64.wrap ((i : Int) + 1) = (i : Int) + 1 := by have := HGD.out.kl x (List.mem_of_getElem? HX.out); have := HNK.out; rw [IntKind.wrap_i64]; omega
                  obtain ⟨q, hq⟩ : ∃ q, x.ks[i]? = some q := ⟨_, List.getElem?_eq_getElem (by have := HNK.out; omega)⟩
                  have HQQ := Lib.hid hq
                  have hqn : q < nn := by have := HKID.out q (List.mem_of_getElem? hq); have := HNN.out.1; omega
                  obtain ⟨b2, off2, hko, hb2, -, q0⟩ := (HK4.out.below HB5.out) i q hq
                  subst hko
                  have m1 : wr.cell? ⟨g, q, none⟩ = some (.bool (nulG gr q)) := by rw [HQ5.out.1.cell q]; exact rowB_at _ nn q hqn
                  have f1 : wr.cell? ⟨h, q, none⟩ = some (.bool (faiG gr q)) := by rw [HQ5.out.2.1.cell q]; exact rowB_at _ nn q hqn
                  have hq1 : decide ((q : Int) < (nn : Int)) = true := decide_eq_true (by omega)
                  have hq2 : decide (q < nn) = true := decide_eq_true hqn
                  have HA1 := Lib.hid (gany_snoc (f := nulG gr) hq)
                  have HA2 := Lib.hid (gall_snoc (f := nulG gr) hq)
                  have HA3 := Lib.hid (gany_snoc (f := faiG gr) hq)
                  have HA4 := Lib.hid (gall_snoc (f := faiG gr) hq)
                  obtain ⟨u1, hu1⟩ : ∃ z, nulG gr q = z := ⟨_, rfl⟩
                  obtain ⟨u2, hu2⟩ : ∃ z, faiG gr q = z := ⟨_, rfl⟩
                  obtain ⟨z1, hz1⟩ : ∃ z, (x.ks.take i).any (nulG gr) = z := ⟨_, rfl⟩
                  obtain ⟨z2, hz2⟩ : ∃ z, (x.ks.take i).all (nulG gr) = z := ⟨_, rfl⟩
                  obtain ⟨z3, hz3⟩ : ∃ z, (x.ks.take i).any (faiG gr) = z := ⟨_, rfl⟩
                  obtain ⟨z4, hz4⟩ : ∃ z, (x.ks.take i).all (faiG gr) = z := ⟨_, rfl⟩
                  have HU2 := Lib.hid hu2
                  rw [hu1] at m1
                  rw [hu2] at f1
                  rw [hu1, hz1] at HA1
                  rw [hu1, hz2] at HA2
                  rw [hu2, hz3] at HA3
                  rw [hu2, hz4] at HA4
                  rw [hz1, hz2, hz3, hz4]
                  clear hu1 hu2 hz1 hz2 hz3 hz4 hq
                  rcases Bool.eq_false_or_eq_true z1 with e1 | e1 <;> rcases Bool.eq_false_or_eq_true z2 with e2 | e2 <;> rcases Bool.eq_false_or_eq_true z3 with e3 | e3 <;> rcases Bool.eq_false_or_eq_true z4 with e4 | e4 <;> rw [e1, e2, e3, e4] <;> rw [e1] at HA1 <;> rw [e2] at HA2 <;> rw [e3] at HA3 <;> rw [e4] at HA4 <;> clear e1 e2 e3 e4
                  all_goals
                    go_wp2_with fail
                    go_quiet (fail)
                    go_wp2_with fail
                    go_quiet (fail)
                    go_wp2
                    go_roundw
                    case rel => exact ⟨i + 1, by go_num, by omega, by rw [HA1.out]; simp, by rw [HA2.out]; simp, by rw [HA3.out]; simp, by rw [HA4.out]; simp, Lib.hid (below_drewN HB5.out _)⟩
                    case measure => simp [intOf]; omega
                · have hi1 : decide ((i : Int) < (nk : Int)) = false := decide_eq_false hin
                  have hi2 : decide (i < nk) = false := decide_eq_false (by omega)
                  have htk : x.ks.take i = x.ks := List.take_of_length_le (by have := HNK.out; omega)
                  rw [htk]
                  clear htk
                  have m0 : wr.cell? ⟨g, k, none⟩ = some (.bool (nulG gr k)) := keepc HM0.out HB5.out
                  have f0 : wr.cell? ⟨h, k, none⟩ = some (.bool (faiG gr k)) := keepc HF0.out HB5.out
                  have y0 : wr.cell? ⟨B4, 0, none⟩ = some (.int .i64 op) := HN5.out.cell 0
                  rcases h45 with h4 | h5
                  · have e1 : nulG gr k = x.ks.all (nulG gr) := HA.out.trans (by rw [h4]; first | rfl | simp)
                    have e2 : faiG gr k = x.ks.any (faiG gr) := HFB.out.trans (by rw [h4]; first | rfl | simp)
                    rw [e1] at m0
                    rw [e2] at f0
                    clear e1 e2
                    have b4 : (op == 4) = true := beq_iff_eq.2 h4
                    have b5 : (op == 5) = false := beq_eq_false_iff_ne.2 (by omega)
                    generalize x.ks.any (nulG gr) = z1 at *
                    generalize x.ks.all (nulG gr) = z2 at *
                    generalize x.ks.any (faiG gr) = z3 at *
                    generalize x.ks.all (faiG gr) = z4 at *
                    cases z2 <;> cases z3
                    all_goals
                      go_wp2
                      go_roundw
                      case rel => exact ⟨k + 1, by go_num, by omega, HQ5⟩
                      case measure => simp [intOf]; omega
                  · have e1 : nulG gr k = x.ks.any (nulG gr) := HA.out.trans (by rw [h5]; first | rfl | simp)
                    have e2 : faiG gr k = x.ks.all (faiG gr) := HFB.out.trans (by rw [h5]; first | rfl | simp)
                    rw [e1] at m0
                    rw [e2] at f0
                    clear e1 e2
                    have b4 : (op == 4) = false := beq_eq_false_iff_ne.2 (by omega)
                    have b5 : (op == 5) = true := beq_iff_eq.2 h5
                    generalize x.ks.any (nulG gr) = z1 at *
                    generalize x.ks.all (nulG gr) = z2 at *
                    generalize x.ks.any (faiG gr) = z3 at *
                    generalize x.ks.all (faiG gr) = z4 at *
                    cases z1 <;> cases z4
                    all_goals
                      go_wp2
                      go_roundw
                      case rel => exact ⟨k + 1, by go_num, by omega, HQ5⟩
                      case measure => simp [intOf]; omega
          · have h4a : (op != 4) = true := bne_iff_ne.2 (fun e => h45 (.inl e))
            have h5a : (op != 5) = true := bne_iff_ne.2 (fun e => h45 (.inr e))
            go_wp2
            go_roundw
            case rel => exact ⟨k + 1, by go_num, by omega, HQ4⟩
            case measure => simp [intOf]; omega
        · have hkn1 : decide ((k : Int) < nn) = false := decide_eq_false hkn
          have hkn2 : decide (k < nn) = false := decide_eq_false (by omega)
          have HAW := Lib.hid (awake12_any wr)
          go_wp2_with fail
          refine HAW.out.mono ?_
          rintro e w5 ⟨he, hb5⟩
          subst he
          have HBZ := Lib.hid (HB3.out.trans ((HQk.out.2.2.trans (hb5.mono HQk.out.2.2.size)).mono HB3.out.size))
          clear hb5
          go_wp2
          go_ret
          exact ⟨rfl, HBZ.out⟩
end Go.Proofs.Ytgikhkjnemglbaa
