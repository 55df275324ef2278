/- FirstEnds: the law's own, walked. -/
import Derived.Test.YtgikhkjnemglbaaAw15
import Derived.Test.YtgikhkjnemglbaaIh
import Derived.Test.YtgikhkjnemglbaaRef01C
import Derived.Deep.RegionWith
import Derived.Deep.CutBlock
namespace Go.Proofs.Ytgikhkjnemglbaa
set_option linter.unusedVariables false
open Go.RowKit Go.Sort

theorem card_lit (t : ByteArray) : card (litS t).1 (litS t).2.1 (litS t).2.2.1 (litS t).2.2.2 = 1 := by
  have hb : (byt t 0).toNat < 256 := by have := byt_lt t 0; omega
  have h0 : inSet 0 0 0 0 (byt t 0).toNat = false := by
    obtain h := hb
    unfold inSet word
    split <;> simp
  have h := card_with 0 0 0 0 (byt t 0).toNat hb h0
  rw [show card 0 0 0 0 = 0 by kernel_rfl] at h
  exact h
theorem has_lit (t : ByteArray) (ht : 0 < t.size) : inSet (litS t).1 (litS t).2.1 (litS t).2.2.1 (litS t).2.2.2 t[0].toNat = true := by
  have hb : (byt t 0).toNat = t[0].toNat := by rw [byt_get ht]; simp
  have h := inSet_with 0 0 0 0 t[0].toNat (byt t 0).toNat (UInt8.toNat_lt _) (by rw [hb]; exact UInt8.toNat_lt _)
  unfold litS
  rw [h, hb]
  simp
set_option maxRecDepth 1000000 in
set_option maxHeartbeats 9600000 in
theorem ends15_walk (l : List ByteArray) (ao : Option Addr) (cap : Nat) (s : ByteArray) (w : World) (hl : HasN w ao l) : Calls Try.prog 13 #[.slice ao l.length cap, .string s] w fun e w' => e = .returned (.bool true) ∧ Below w.heap.size w w' := by
  have HJD := Lib.hid (joined15_any l ao cap s w hl)
  obtain ⟨R, hR⟩ : ∃ R, jndO l s = R := ⟨_, rfl⟩
  have HR := Lib.hid hR
  rw [hR] at HJD
  obtain ⟨nl, hnl⟩ : ∃ n, l.length = n := ⟨_, rfl⟩
  rw [hnl] at HJD
  rw [hnl]
  clear hl hR hnl
  go_enter Try.func13, Try.ntmps13
  go_wp2_with fail
  refine HJD.out.mono ?_
  rintro e w2 ⟨hE, hb2⟩
  have HB2 := Lib.hid hb2
  clear hb2 HJD
  cases R with
  | none =>
    have hE' : e = .returned (.tuple #[.agg #[.slice none 0 0, .slice none 0 0, .slice none 0 0, .slice none 0 0, .int .i64 0], .bool false]) := hE
    subst hE'
    have hbl : Below w2.heap.size w2 (w2.alloc (.cells #[.slice none 0 0, .slice none 0 0, .slice none 0 0, .slice none 0 0, .int .i64 0] 31)) := (Below.refl _ _).alloc (Nat.le_refl _) _
    have HB3 := Lib.hid (HB2.out.trans (hbl.mono HB2.out.size))
    clear hbl hE
    go_upto_region 2 with fail
    generalize w2.alloc (.cells #[.slice none 0 0, .slice none 0 0, .slice none 0 0, .slice none 0 0, .int .i64 0] 31) = w3 at *
    have HAW := Lib.hid (awake15_any w3)
    go_wp2_with fail
    refine HAW.out.mono ?_
    rintro e w4 ⟨he, hb4⟩
    subst he
    have HB4 := Lib.hid (HB3.out.trans (hb4.mono HB3.out.size))
    clear hb4
    go_wp2
    go_ret
    exact ⟨rfl, HB4.out⟩
  | some gr =>
    obtain ⟨a, he, hG⟩ : ∃ a, e = .returned (.tuple #[grv gr a, .bool true]) ∧ HasG w2 gr a := hE
    subst he
    have hg : Good gr := jnd_good HR.out
    have HGD := Lib.hid hg
    have har := jnd_ar HR.out
    have HAR := Lib.hid har
    have hgs : Gst gr := ⟨hg, fun x hx => (har x hx).2, fun x hx h1 => ((har x hx).text h1).1⟩
    have HE15 := Lib.hid (firG_end hgs.sets)
    have hbl : Below w2.heap.size w2 (w2.alloc (.cells #[.slice a.mo gr.ms.length a.mc, .slice a.no gr.ns.length a.nc, .slice a.ho gr.hs.length a.hc, .slice a.wo gr.ws.length a.wc, .int .i64 gr.st] 31)) := (Below.refl _ _).alloc (Nat.le_refl _) _
    have HB3 := Lib.hid (HB2.out.trans (hbl.mono HB2.out.size))
    have HG3 := Lib.hid (hG.below hbl)
    have HO3 := Lib.hid (Own.fresh w2 31 [.slice a.mo gr.ms.length a.mc, .slice a.no gr.ns.length a.nc, .slice a.ho gr.hs.length a.hc, .slice a.wo gr.ws.length a.wc, .int .i64 gr.st])
    have HN := Lib.hid (fun W (h : HasG W gr a) => ffirst_any gr a hgs W h)
    unfold FsE at HN
    unfold grv
    unfold grv at HN
    have hn160 := hg.len
    obtain ⟨F, hF⟩ : ∃ F, firG gr = F := ⟨_, rfl⟩
    rw [hF] at HN HE15
    obtain ⟨nn, hnn⟩ : ∃ z, gr.ns.length = z := ⟨_, rfl⟩
    obtain ⟨nh, hnh⟩ : ∃ z, gr.hs.length = z := ⟨_, rfl⟩
    obtain ⟨nms, hnms⟩ : ∃ z, gr.ms.length = z := ⟨_, rfl⟩
    obtain ⟨nw, hnw⟩ : ∃ z, gr.ws.length = z := ⟨_, rfl⟩
    have HNN := Lib.hid (And.intro hnn hnh)
    simp only [hnn, hnh, hnms, hnw] at HB3 HG3 HO3 HN hbl HE15
    rw [hnn] at hn160
    rw [hnn, hnh, hnms, hnw]
    clear hnn hnh hnms hnw hG hg hbl hF har hgs
    go_upto_region 2 with fail
    obtain ⟨B, hB⟩ : ∃ B, w2.heap.size = B := ⟨_, rfl⟩
    rw [hB] at HO3
    generalize w2.alloc (.cells #[.slice a.mo nms a.mc, .slice a.no nn a.nc, .slice a.ho nh a.hc, .slice a.wo nw a.wc, .int .i64 gr.st] 31) = w3 at *
    try rw [hB]
    clear hB HB2
    have HC := Lib.hid (show ∀ W, Below w3.heap.size w3 W → W.cell? ⟨B, 0, none⟩ = some (.slice a.mo nms a.mc) ∧ W.cell? ⟨B, 1, none⟩ = some (.slice a.no nn a.nc) ∧ W.cell? ⟨B, 2, none⟩ = some (.slice a.ho nh a.hc) ∧ W.cell? ⟨B, 3, none⟩ = some (.slice a.wo nw a.wc) ∧ W.cell? ⟨B, 4, none⟩ = some (.int .i64 gr.st) ∧ B < W.heap.size from fun W h => by
      have q := HO3.out.under h HO3.out.lt
      exact ⟨q.cell 0, q.cell 1, q.cell 2, q.cell 3, q.cell 4, q.lt⟩)
    obtain ⟨g0, g1, g2, g3, g4, gl⟩ := HC.out w3 (Below.refl _ _)
    go_wp2_with fail
    refine (HN.out w3 HG3.out).mono ?_
    rintro e w5 ⟨g, rfl, hO, hgs, hb5⟩
    have HQ := Lib.hid (show Own w5 g 39 (rowS F nn) ∧ Below w3.heap.size w3 w5 from ⟨hO, hb5⟩)
    clear hO hgs hb5 HN g0 g1 g2 g3 g4 gl
    obtain ⟨k0, k1, k2, k3, k4, kl⟩ := HC.out w5 HQ.out.2
    go_wp2_with fail
    go_loopw [8] (fun v8 wr => ∃ k : Nat, v8 = .int .i64 (k : Int) ∧ (k : Int) ≤ nn ∧ Hid (Own wr g 39 (rowS F nn) ∧ Below w3.heap.size w3 wr)) (fun v8 _ => nn - (intOf v8).toNat)
    case atStart => exact ⟨0, rfl, by omega, HQ⟩
    case round =>
      obtain ⟨k, rfl, hk, HQk⟩ := hrel
      clear k0 k1 k2 k3 k4 kl HQ
      obtain ⟨k0, k1, k2, k3, k4, kl⟩ := HC.out wr HQk.out.2
      by_cases hkn : (k : Int) < nn
      · have hkn1 : decide ((k : Int) < nn) = true := decide_eq_true hkn
        have hkn2 : decide (k < nn) = true := decide_eq_true (by omega)
        have hw1 : IntKind.i64.wrap ((k : Int) + 1) = (k : Int) + 1 := by rw [IntKind.wrap_i64]; omega
        obtain ⟨x, hx⟩ : ∃ x, gr.ns[k]? = some x := ⟨_, List.getElem?_eq_getElem (by have := HNN.out.1; omega)⟩
        have HX := Lib.hid hx
        have HFX := Lib.hid (HE15.out.2 k (by omega))
        have HFIT := Lib.hid (HE15.out.1.2 k)
        have HARX := Lib.hid (HAR.out x (List.mem_of_getElem? hx))
        obtain ⟨b, off, ko, kc, hno, hb, -, c0, c1, c2, c3, c4, c5, c6, c7, c8, c9, hkk⟩ := (HG3.out.below HQk.out.2).1 k x hx
        obtain ⟨nk, hnk⟩ : ∃ z, x.ks.length = z := ⟨_, rfl⟩
        obtain ⟨op, hop⟩ : ∃ z, x.op = z := ⟨_, rfl⟩
        have HOP := Lib.hid hop
        rw [hnk] at c6
        rw [hop] at c0
        rw [hno] at k1
        have HRU := Lib.hid (show F k = (if op = 1 then litS x.tx else if op = 2 then nodS x else if op = 3 ∨ op = 13 then fullS else if op = 9 ∨ op = 10 then set0 else if op = 11 then F (bodyG gr k) else orL (op == 4) (nulG gr) F x.ks set0) from by
          rw [← HFX.out, ← HOP.out]
          unfold begB
          rw [HX.out]
          try rfl)
        have hbl : Below wr.heap.size wr (wr.alloc (.cells #[.int .i64 op, .string x.tx, .int .u64 x.s0, .int .u64 x.s1, .int .u64 x.s2, .int .u64 x.s3, .slice ko nk kc, .int .i64 x.tg, .int .i64 (x.mo : Int), .int .i64 x.ru] 50)) := (Below.refl _ _).alloc (Nat.le_refl _) _
        have HQ4 := Lib.hid (show Own (wr.alloc (.cells #[.int .i64 op, .string x.tx, .int .u64 x.s0, .int .u64 x.s1, .int .u64 x.s2, .int .u64 x.s3, .slice ko nk kc, .int .i64 x.tg, .int .i64 (x.mo : Int), .int .i64 x.ru] 50)) g 39 (rowS F nn) ∧ Below w3.heap.size w3 (wr.alloc (.cells #[.int .i64 op, .string x.tx, .int .u64 x.s0, .int .u64 x.s1, .int .u64 x.s2, .int .u64 x.s3, .slice ko nk kc, .int .i64 x.tg, .int .i64 (x.mo : Int), .int .i64 x.ru] 50)) from ⟨HQk.out.1.under hbl HQk.out.1.lt, HQk.out.2.trans (hbl.mono HQk.out.2.size)⟩)
        have HN4 := Lib.hid (Own.fresh wr 50 [.int .i64 op, .string x.tx, .int .u64 x.s0, .int .u64 x.s1, .int .u64 x.s2, .int .u64 x.s3, .slice ko nk kc, .int .i64 x.tg, .int .i64 (x.mo : Int), .int .i64 x.ru])
        clear hx hkk hbl hnk hop
        go_upto_region 11 with fail
        obtain ⟨B4, hB4⟩ : ∃ z, wr.heap.size = z := ⟨_, rfl⟩
        rw [hB4] at HN4
        generalize wr.alloc (.cells #[.int .i64 op, .string x.tx, .int .u64 x.s0, .int .u64 x.s1, .int .u64 x.s2, .int .u64 x.s3, .slice ko nk kc, .int .i64 x.tg, .int .i64 (x.mo : Int), .int .i64 x.ru] 50) = w4 at *
        try rw [hB4]
        clear c0 c1 c2 c3 c4 c5 c6 c7 c8 c9 hb hno k0 k1 k2 k3 k4 kl hB4 HQk HFX
        obtain ⟨s, hs⟩ : ∃ s, F k = s := ⟨_, rfl⟩
        have HS := Lib.hid hs
        have m0 : w4.cell? ⟨g, k * 4, none⟩ = some (.int .u64 (s.1 : Int)) := by rw [HQ4.out.1.cell, ← hs]; exact rowS_at F nn k 0 (by omega) (by decide)
        have m1 : w4.cell? ⟨g, k * 4 + 1, none⟩ = some (.int .u64 (s.2.1 : Int)) := by rw [HQ4.out.1.cell, ← hs]; exact rowS_at F nn k 1 (by omega) (by decide)
        have m2 : w4.cell? ⟨g, k * 4 + 2, none⟩ = some (.int .u64 (s.2.2.1 : Int)) := by rw [HQ4.out.1.cell, ← hs]; exact rowS_at F nn k 2 (by omega) (by decide)
        have m3 : w4.cell? ⟨g, k * 4 + 3, none⟩ = some (.int .u64 (s.2.2.2 : Int)) := by rw [HQ4.out.1.cell, ← hs]; exact rowS_at F nn k 3 (by omega) (by decide)
        have ml := HQ4.out.1.lt
        have hfit : fits s := by rw [← hs]; exact HFIT.out
        have HCN := Lib.hid (fun W => rcount_any s.1 s.2.1 s.2.2.1 s.2.2.2 hfit.1 hfit.2.1 hfit.2.2.1 hfit.2.2.2 W)
        have HHS := Lib.hid (fun (y : Nat) (hy : y < 256) W => rhas_any s.1 s.2.1 s.2.2.1 s.2.2.2 y hy hfit.1 hfit.2.1 hfit.2.2.1 hfit.2.2.2 W)
        rw [hs] at HRU
        clear hs hfit HFIT
        go_wp2_with fail
        refine (HCN.out w4).mono ?_
        rintro e w6 ⟨he, hb6⟩
        subst he
        have HQ6 := Lib.hid (show Own w6 g 39 (rowS F nn) ∧ Below w3.heap.size w3 w6 from ⟨HQ4.out.1.under hb6 HQ4.out.1.lt, HQ4.out.2.trans (hb6.mono HQ4.out.2.size)⟩)
        have HN6 := Lib.hid (HN4.out.under hb6 HN4.out.lt)
        have m0 := keepc m0 hb6
        have m1 := keepc m1 hb6
        have m2 := keepc m2 hb6
        have m3 := keepc m3 hb6
        have ml := HQ6.out.1.lt
        have y0 : w6.cell? ⟨B4, 0, none⟩ = some (.int .i64 op) := HN6.out.cell 0
        have y1 : w6.cell? ⟨B4, 1, none⟩ = some (.string x.tx) := HN6.out.cell 1
        have yl := HN6.out.lt
        clear hb6 HCN HN4 HQ4
        rcases op_few op with rfl | rfl | rfl | rfl | rfl | rfl | rfl | rfl | ⟨h1, h2, h3, h11, h9, h10, h13, h4⟩
        · have ht := (HARX.out.text HOP.out).1
          have hl : s = litS x.tx := HRU.out.trans (by first | rfl | simp)
          have hcd : card s.1 s.2.1 s.2.2.1 s.2.2.2 = 1 := by rw [hl]; exact card_lit x.tx
          rw [hcd]
          have C1 := Lib.hid (fun (dq : Nat) (os : Array Obj) => show Calls Try.prog 46 #[.agg #[.int .u64 (s.1 : Int), .int .u64 (s.2.1 : Int), .int .u64 (s.2.2.1 : Int), .int .u64 (s.2.2.2 : Int)], .int .u8 ((x.tx[0].toNat : Nat) : Int)] (grow (redrawn w6 dq) os) fun e w' => e = .returned (.bool true) ∧ Below (grow (redrawn w6 dq) os).heap.size (grow (redrawn w6 dq) os) w' from by
            have h := HHS.out x.tx[0].toNat (UInt8.toNat_lt _) (grow (redrawn w6 dq) os)
            rw [show inSet s.1 s.2.1 s.2.2.1 s.2.2.2 x.tx[0].toNat = true from by rw [hl]; exact has_lit x.tx ht] at h
            exact h)
          clear hl hcd
          have m0' := cell_regrown m0
          have m1' := cell_regrown m1
          have m2' := cell_regrown m2
          have m3' := cell_regrown m3
          have y0' := cell_regrown y0
          have y1' := cell_regrown y1
          go_wp2_with fail
          refine wp_region_quiet_below (by kernel_rfl) (by kernel_rfl) ?_
          repeat (go_big_quiet_step (first
            | (go_at_call 46; with_reducible exact Calls.regrown_of (C1.out _ _))))
          refine wpQuiet_nil ?_
          intro _ hw'
          obtain ⟨⟨dq, osq⟩, hw''⟩ := hw'
          subst hw''
          have HQ7 := Lib.hid (show Own (grow (redrawn w6 dq) osq) g 39 (rowS F nn) ∧ Below w3.heap.size w3 (grow (redrawn w6 dq) osq) from ⟨HQ6.out.1.under (below_regrown w6 dq osq) HQ6.out.1.lt, HQ6.out.2.trans ((below_regrown w6 dq osq).mono HQ6.out.2.size)⟩)
          go_wp2
          go_roundw
          case rel => exact ⟨k + 1, by go_num, by omega, HQ7⟩
          case measure => simp [intOf]; omega
        · have hl : s = nodS x := HRU.out.trans (by first | rfl | simp)
          have hnd := nodS_fits HARX.out.2
          have y2 : w6.cell? ⟨B4, 2, none⟩ = some (.int .u64 (s.1 : Int)) := by rw [hl, ← hnd.2.1]; exact HN6.out.cell 2
          have y3 : w6.cell? ⟨B4, 3, none⟩ = some (.int .u64 (s.2.1 : Int)) := by rw [hl, ← hnd.2.2.1]; exact HN6.out.cell 3
          have y4 : w6.cell? ⟨B4, 4, none⟩ = some (.int .u64 (s.2.2.1 : Int)) := by rw [hl, ← hnd.2.2.2.1]; exact HN6.out.cell 4
          have y5 : w6.cell? ⟨B4, 5, none⟩ = some (.int .u64 (s.2.2.2 : Int)) := by rw [hl, ← hnd.2.2.2.2]; exact HN6.out.cell 5
          have hqq : eqQS s s = true := eqQS_yes.2 rfl
          clear hl hnd
          generalize card s.1 s.2.1 s.2.2.1 s.2.2.2 = cd at *
          go_wp2_with fail
          go_quiet (fail)
          have hbd := below_drewN (Below.refl w6.heap.size w6) nq
          have HQ7 := Lib.hid (show Own (w6.drewN nq) g 39 (rowS F nn) ∧ Below w3.heap.size w3 (w6.drewN nq) from ⟨HQ6.out.1.under (hbd) HQ6.out.1.lt, HQ6.out.2.trans ((hbd).mono HQ6.out.2.size)⟩)
          go_wp2
          go_roundw
          case rel => exact ⟨k + 1, by go_num, by omega, HQ7⟩
          case measure => simp [intOf]; omega
        · have hl : s = fullS := HRU.out.trans (by first | rfl | simp)
          have hcd : card s.1 s.2.1 s.2.2.1 s.2.2.2 = 256 := by rw [hl]; kernel_rfl
          rw [hcd]
          clear hcd hl
          go_wp2_with fail
          go_quiet (fail)
          have hbd := below_drewN (Below.refl w6.heap.size w6) nq
          have HQ7 := Lib.hid (show Own (w6.drewN nq) g 39 (rowS F nn) ∧ Below w3.heap.size w3 (w6.drewN nq) from ⟨HQ6.out.1.under (hbd) HQ6.out.1.lt, HQ6.out.2.trans ((hbd).mono HQ6.out.2.size)⟩)
          go_wp2
          go_roundw
          case rel => exact ⟨k + 1, by go_num, by omega, HQ7⟩
          case measure => simp [intOf]; omega
        · generalize card s.1 s.2.1 s.2.2.1 s.2.2.2 = cd at *
          go_wp2_with fail
          go_quiet (fail)
          have hbd := below_drewN (Below.refl w6.heap.size w6) nq
          have HQ7 := Lib.hid (show Own (w6.drewN nq) g 39 (rowS F nn) ∧ Below w3.heap.size w3 (w6.drewN nq) from ⟨HQ6.out.1.under (hbd) HQ6.out.1.lt, HQ6.out.2.trans ((hbd).mono HQ6.out.2.size)⟩)
          go_wp2
          go_roundw
          case rel => exact ⟨k + 1, by go_num, by omega, HQ7⟩
          case measure => simp [intOf]; omega
        · have hl : s = set0 := HRU.out.trans (by first | rfl | simp)
          have hcd : card s.1 s.2.1 s.2.2.1 s.2.2.2 = 0 := by rw [hl]; kernel_rfl
          rw [hcd]
          clear hcd hl
          go_wp2_with fail
          go_quiet (fail)
          have hbd := below_drewN (Below.refl w6.heap.size w6) nq
          have HQ7 := Lib.hid (show Own (w6.drewN nq) g 39 (rowS F nn) ∧ Below w3.heap.size w3 (w6.drewN nq) from ⟨HQ6.out.1.under (hbd) HQ6.out.1.lt, HQ6.out.2.trans ((hbd).mono HQ6.out.2.size)⟩)
          go_wp2
          go_roundw
          case rel => exact ⟨k + 1, by go_num, by omega, HQ7⟩
          case measure => simp [intOf]; omega
        · have hl : s = set0 := HRU.out.trans (by first | rfl | simp)
          have hcd : card s.1 s.2.1 s.2.2.1 s.2.2.2 = 0 := by rw [hl]; kernel_rfl
          rw [hcd]
          clear hcd hl
          go_wp2_with fail
          go_quiet (fail)
          have hbd := below_drewN (Below.refl w6.heap.size w6) nq
          have HQ7 := Lib.hid (show Own (w6.drewN nq) g 39 (rowS F nn) ∧ Below w3.heap.size w3 (w6.drewN nq) from ⟨HQ6.out.1.under (hbd) HQ6.out.1.lt, HQ6.out.2.trans ((hbd).mono HQ6.out.2.size)⟩)
          go_wp2
          go_roundw
          case rel => exact ⟨k + 1, by go_num, by omega, HQ7⟩
          case measure => simp [intOf]; omega
        · have hl : s = fullS := HRU.out.trans (by first | rfl | simp)
          have hcd : card s.1 s.2.1 s.2.2.1 s.2.2.2 = 256 := by rw [hl]; kernel_rfl
          rw [hcd]
          clear hcd hl
          go_wp2_with fail
          go_quiet (fail)
          have hbd := below_drewN (Below.refl w6.heap.size w6) nq
          have HQ7 := Lib.hid (show Own (w6.drewN nq) g 39 (rowS F nn) ∧ Below w3.heap.size w3 (w6.drewN nq) from ⟨HQ6.out.1.under (hbd) HQ6.out.1.lt, HQ6.out.2.trans ((hbd).mono HQ6.out.2.size)⟩)
          go_wp2
          go_roundw
          case rel => exact ⟨k + 1, by go_num, by omega, HQ7⟩
          case measure => simp [intOf]; omega
        · generalize card s.1 s.2.1 s.2.2.1 s.2.2.2 = cd at *
          go_wp2_with fail
          go_quiet (fail)
          have hbd := below_drewN (Below.refl w6.heap.size w6) nq
          have HQ7 := Lib.hid (show Own (w6.drewN nq) g 39 (rowS F nn) ∧ Below w3.heap.size w3 (w6.drewN nq) from ⟨HQ6.out.1.under (hbd) HQ6.out.1.lt, HQ6.out.2.trans ((hbd).mono HQ6.out.2.size)⟩)
          go_wp2
          go_roundw
          case rel => exact ⟨k + 1, by go_num, by omega, HQ7⟩
          case measure => simp [intOf]; omega
        · generalize card s.1 s.2.1 s.2.2.1 s.2.2.2 = cd at *
          go_wp2_with fail
          go_quiet (fail)
          have hbd := below_drewN (Below.refl w6.heap.size w6) nq
          have HQ7 := Lib.hid (show Own (w6.drewN nq) g 39 (rowS F nn) ∧ Below w3.heap.size w3 (w6.drewN nq) from ⟨HQ6.out.1.under (hbd) HQ6.out.1.lt, HQ6.out.2.trans ((hbd).mono HQ6.out.2.size)⟩)
          go_wp2
          go_roundw
          case rel => exact ⟨k + 1, by go_num, by omega, HQ7⟩
          case measure => simp [intOf]; omega
      · have hkn1 : decide ((k : Int) < nn) = false := decide_eq_false hkn
        have hkn2 : decide (k < nn) = false := decide_eq_false (by omega)
        have HAW := Lib.hid (awake15_any wr)
        go_wp2_with fail
        refine HAW.out.mono ?_
        rintro e w5 ⟨he, hb5⟩
        subst he
        have HBZ := Lib.hid (HB3.out.trans ((HQk.out.2.trans (hb5.mono HQk.out.2.size)).mono HB3.out.size))
        clear hb5
        go_wp2
        go_ret
        exact ⟨rfl, HBZ.out⟩
end Go.Proofs.Ytgikhkjnemglbaa
