import Derived.Test.YtbjgojdpfehnmaaAw14
import Derived.Test.YtbjgojdpfehnmaaLx
import Derived.Test.YtbjgojdpfehnmaaMe
import Derived.Test.YtbjgojdpfehnmaaGc
import Derived.Deep.RegionWith
import Derived.Deep.CutBlock
namespace Go.Proofs.Ytbjgojdpfehnmaa
set_option linter.unusedVariables false
open Go.RowKit Go.Sort
theorem nodup_len {L : List Nat} {N : Nat} (h : L.Nodup) (hL : ∀ x ∈ L, x < N) : L.length ≤ N := by
 have h1 := h.length_le_of_subset (l₂ := List.range N) (fun x hx => List.mem_range.2 (hL x hx))
 rwa [List.length_range] at h1
set_option maxRecDepth 1000000 in
set_option maxHeartbeats 9600000 in
theorem lst14_walk (l : List ByteArray) (ao : Option Addr) (cap : Nat) (s : ByteArray) (w : World) (hl : HasN w ao l) : Calls Try.prog 6 #[.slice ao l.length cap, .string s] w fun e w' => e = .returned (.bool true) ∧ Below w.heap.size w w' := by
 have HJD := aH (joined14_any l ao cap s w hl)
 obtain ⟨R, hR⟩ : ∃ R, jndO l s = R := ⟨_, rfl⟩
 have HR := aH hR
 rw [hR] at HJD
 obtain ⟨nl, hnl⟩ : ∃ n, l.length = n := ⟨_, rfl⟩
 rw [hnl] at HJD
 rw [hnl]
 clear hl hR hnl
 go_enter Try.func6, Try.ntmps6
 go_wp2_with fail
 refine HJD.o.mono ?_
 rintro e w2 ⟨hE, hb2⟩
 have HB2 := aH hb2
 clear hb2 HJD
 cases R with
 | none =>
  have hE' : e = .returned (.tuple #[.agg #[.slice none 0 0, .slice none 0 0, .slice none 0 0, .slice none 0 0, .int .i64 0], .bool false]) := hE
  subst hE'
  have hbl : Below w2.heap.size w2 (w2.alloc (.cells #[.slice none 0 0, .slice none 0 0, .slice none 0 0, .slice none 0 0, .int .i64 0] 27)) := bA _
  have HB3 := aH (HB2.o.trans (hbl.mono HB2.o.size))
  clear hbl hE
  go_upto_region 2 with fail
  generalize w2.alloc (.cells #[.slice none 0 0, .slice none 0 0, .slice none 0 0, .slice none 0 0, .int .i64 0] 27) = w3 at *
  have HAW := aH (awake14_any w3)
  go_wp2_with fail
  refine HAW.o.mono ?_
  rintro e w4 ⟨he, hb4⟩
  subst he
  have HB4 := aH (HB3.o.trans (hb4.mono HB3.o.size))
  clear hb4
  go_wp2
  go_ret
  exact ⟨rfl, HB4.o⟩
 | some gr =>
  obtain ⟨a, he, hG⟩ : ∃ a, e = .returned (.tuple #[grv gr a, .bool true]) ∧ HasG w2 gr a := hE
  subst he
  have hg : Good gr := jnd_good HR.o
  have HGD := aH hg
  have har := jnd_ar HR.o
  have HAR := aH har
  have htr := jnd_tr HR.o
  have HTR := aH htr
  have HEN := aH (nextG_end hg har)
  have hbl : Below w2.heap.size w2 (w2.alloc (.cells #[.slice a.mo gr.ms.length a.mc, .slice a.no gr.ns.length a.nc, .slice a.ho gr.hs.length a.hc, .slice a.wo gr.ws.length a.wc, .int .i64 gr.st] 27)) := bA _
  have HB3 := aH (HB2.o.trans (hbl.mono HB2.o.size))
  have HG3 := aH (hG.below hbl)
  have HO3 := aH (Own.fresh w2 27 [.slice a.mo gr.ms.length a.mc, .slice a.no gr.ns.length a.nc, .slice a.ho gr.hs.length a.hc, .slice a.wo gr.ws.length a.wc, .int .i64 gr.st])
  have HN := aH (fun W (h : HasG W gr a) => snext_any gr a hg har W h)
  have HL := aH (fun W (h : HasG W gr a) => rled_any gr a hg W h)
  have HUM := aH (fun i h h1 h2 => next_unmet hg har htr (i := i) (h := h) h1 h2)
  have HHB := aH (show ∀ (i : Nat) (h : Hj), gr.hs[i]? = some h → h.bo < gr.ns.length from fun i h hi => htr.2 h.bo (List.mem_append.2 (.inl (List.mem_map.2 ⟨h, aM hi, rfl⟩))))
  unfold NxE at HN
  unfold BoE at HL
  unfold grv
  unfold grv at HN HL
  have hn160 := hg.len
  obtain ⟨nn, hnn⟩ : ∃ z, gr.ns.length = z := ⟨_, rfl⟩
  obtain ⟨nh, hnh⟩ : ∃ z, gr.hs.length = z := ⟨_, rfl⟩
  obtain ⟨nms, hnms⟩ : ∃ z, gr.ms.length = z := ⟨_, rfl⟩
  obtain ⟨nw, hnw⟩ : ∃ z, gr.ws.length = z := ⟨_, rfl⟩
  have HNN := aH (And.intro hnn hnh)
  have hnh2 : nh ≤ 1000 := by
   have h1 := (List.nodup_append.1 htr.1).1
   have h2 : (gr.hs.map (fun h => h.bo)).length ≤ gr.ns.length := nodup_len h1 (fun x hx => htr.2 x (List.mem_append.2 (.inl hx)))
   rw [List.length_map] at h2
   omega
  simp only [hnn, hnh, hnms, hnw] at HB3 HG3 HO3 HN HL hbl HEN
  rw [hnn] at hn160
  rw [hnn, hnh, hnms, hnw]
  clear hnn hnh hnms hnw hG hg hbl har htr
  go_upto_region 2 with fail
  obtain ⟨B, hB⟩ : ∃ B, w2.heap.size = B := ⟨_, rfl⟩
  rw [hB] at HO3
  generalize w2.alloc (.cells #[.slice a.mo nms a.mc, .slice a.no nn a.nc, .slice a.ho nh a.hc, .slice a.wo nw a.wc, .int .i64 gr.st] 27) = w3 at *
  try rw [hB]
  clear hB HB2
  have HC := aH (show ∀ W, Below w3.heap.size w3 W → W.cell? ⟨B, 0, none⟩ = some (.slice a.mo nms a.mc) ∧ W.cell? ⟨B, 1, none⟩ = some (.slice a.no nn a.nc) ∧ W.cell? ⟨B, 2, none⟩ = some (.slice a.ho nh a.hc) ∧ W.cell? ⟨B, 3, none⟩ = some (.slice a.wo nw a.wc) ∧ W.cell? ⟨B, 4, none⟩ = some (.int .i64 gr.st) ∧ B < W.heap.size from fun W h => by
   have q := HO3.o.under h HO3.o.lt
   exact ⟨q.cell 0, q.cell 1, q.cell 2, q.cell 3, q.cell 4, q.lt⟩)
  obtain ⟨g0, g1, g2, g3, g4, gl⟩ := HC.o w3 (Below.refl _ _)
  go_wp2_with fail
  refine (HN.o w3 HG3.o).mono ?_
  rintro e w5 ⟨q, rfl, ⟨V, hV1, hV2⟩, hgs, hb5⟩
  have HV1 := aH hV1
  have HV2 := aH hV2
  have HB5 := aH hb5
  clear hV1 hV2 hgs hb5 HN g0 g1 g2 g3 g4 gl
  obtain ⟨k0, k1, k2, k3, k4, kl⟩ := HC.o w5 HB5.o
  go_wp2_with fail
  refine (HL.o w5 (HG3.o.below HB5.o)).mono ?_
  rintro e w7 ⟨d, rfl, hO, hgs, hb7⟩
  have HD := aH hO
  have HV3 := aH (HV1.o.under hb7 HV1.o.lt)
  have HV4 := aH (show ∀ n, n < nn → ∃ ao c, V n = .slice ao (nextG gr n).length c ∧ IntsAt w7 0 (.slice ao (nextG gr n).length c) (nextG gr n) from fun n hn => by
   have h := ((HV2.o n hn).below hb7).mono (Nat.zero_le _)
   obtain ⟨ao, c, e, -⟩ := id h
   rw [e] at h
   exact ⟨ao, c, e, h⟩)
  have HB7 := aH (HB5.o.trans (hb7.mono HB5.o.size))
  clear hO hgs hb7 HL k0 k1 k2 k3 k4 kl HV1 HV2 HB5
  obtain ⟨k0, k1, k2, k3, k4, kl⟩ := HC.o w7 HB7.o
  have ql := HV3.o.lt
  have dl := HD.o.lt
  go_wp2_with fail
  go_loopw [9] (fun v9 wr => ∃ n : Nat, v9 = .int .i64 (n : Int) ∧ (n : Int) ≤ nn ∧ wr = w7) (fun v9 _ => nn - (intOf v9).toNat)
  case atStart => exact ⟨0, rfl, by omega, (by first | trivial | rfl)⟩
  case round =>
   obtain ⟨n, rfl, hn, hwr⟩ := hrel
   subst hwr
   by_cases hnn : (n : Int) < nn
   ·
    have hn1 : decide ((n : Int) < (nn : Int)) = true := aT hnn
    have hn2 : decide (n < nn) = true := aT (by omega)
    have hn3 : n < nn := by omega
    have hw1 : IntKind.i64.wrap ((n : Int) + 1) = (n : Int) + 1 := wI
    obtain ⟨ao, c, hVn, hI⟩ := HV4.o n hn3
    have HI := aH hI
    have HR := aH (HEN.o.1.ris n)
    have HK := aH (HEN.o.1.ok n)
    have hq0 : wr.cell? ⟨q, n, none⟩ = some (V n) := by rw [HV3.o.cell n, List.getElem?_map, List.getElem?_range hn3]; rfl
    rw [hVn] at hq0
    obtain ⟨F, hF⟩ : ∃ F, nextG gr n = F := ⟨_, rfl⟩
    rw [hF] at HI HR HK hq0
    obtain ⟨m, hm⟩ : ∃ m, F.length = m := ⟨_, rfl⟩
    have HM := aH hm
    have hm9 : m ≤ 1000 := by
     have h := RisL.len (N := gr.ns.length) F 0 HR.o (fun y hy => by have := (HK.o y hy).rng; omega) (Nat.zero_le _)
     have := HNN.o.1
     omega
    rw [hm] at hq0 HI
    clear hI hVn hF hm
    go_wp2_with fail
    go_loopw [10, 11] (fun v10 v11 ws => ∃ j : Nat, v10 = .int .i64 (j : Int) ∧ (j : Int) ≤ m ∧ ws = wr) (fun v10 _ _ => m - (intOf v10).toNat)
    case atStart => exact ⟨0, rfl, by omega, (by first | trivial | rfl)⟩
    case round =>
     obtain ⟨j, rfl, hj, hws⟩ := hrel
     subst hws
     by_cases hjm : (j : Int) < m
     ·
      have hj1 : decide ((j : Int) < (m : Int)) = true := aT hjm
      have hj2 : decide (j < m) = true := aT (by omega)
      have hj3 : j < m := by omega
      have hw2 : IntKind.i64.wrap ((j : Int) + 1) = (j : Int) + 1 := wI
      obtain ⟨ao1, c1, e1, -, hf⟩ := HI.o
      injection e1 with e2 e3 e4
      have HFC := aH hf
      obtain ⟨fb, foff, hfo, hfl, -, f0⟩ := hf j (by have := HM.o; omega)
      have hao := e2.trans hfo
      obtain ⟨x, hxr, hxn, hxl⟩ := HK.o (F.getD j 0) (by rw [List.getD_eq_getElem?_getD, aG (by have := HM.o; omega)]; exact List.getElem_mem _)
      have HXR := aH hxr
      rw [hxr] at f0
      have hxn2 : x < nn := by have := HNN.o.1; omega
      have hx1 : decide ((x : Int) < (nn : Int)) = true := aT (by omega)
      have hx2 : decide (x < nn) = true := aT hxn2
      have hx3 : decide ((x : Int) < 0) = false := aF (by omega)
      have hx4 : decide ((nn : Int) ≤ (x : Int)) = false := aF (by omega)
      have hx5 : decide (nn ≤ x) = false := aF (by omega)
      have d0 : wr.cell? ⟨d, x, none⟩ = some (.bool false) := by rw [HD.o.cell x, rowB_at _ nn x hxn2, hxl]
      have hpv : ∀ i : Nat, j = i + 1 → ∃ y, wr.cell? ⟨fb, foff + i, none⟩ = some (.int .i64 y) ∧ y < (x : Int) := fun i hi => by
       obtain ⟨fb2, foff2, hfo2, -, -, f1⟩ := HFC.o i (by have := HM.o; omega)
       obtain ⟨rfl, rfl⟩ : fb = fb2 ∧ foff = foff2 := by rw [hfo] at hfo2; injection hfo2 with h1; injection h1 with h1 h2; exact ⟨h1, h2⟩
       refine ⟨_, f1, ?_⟩
       have hlt := HR.o.step (k := i) (x := F.getD i 0) (y := F.getD (i + 1) 0) (by rw [List.getD_eq_getElem?_getD, aG (by have := HM.o; omega)]; rfl) (by rw [List.getD_eq_getElem?_getD, aG (by have := HM.o; omega)]; rfl)
       rw [← hi, HXR.o] at hlt
       exact hlt
      have HPV := aH hpv
      subst hao
      clear hf hpv hxr hxn hxl hfo e2 e3 e4 hfl
      cases j with
      | zero =>
       have hj0 : decide ((0 : Int) < 0) = false := rfl
       have hz1 : decide ((0 : Int) < (m : Int)) = true := aT (by omega)
       have hz3 : (0 : Int) < (m : Int) := by omega
       have hz4 : 0 < m := by omega
       have fz : wr.cell? ⟨fb, foff, none⟩ = some (.int .i64 (x : Int)) := f0
       go_wp2
       go_roundw
       case rel => exact ⟨1, by go_num, by omega, (by first | trivial | rfl)⟩
       case measure => simp [intOf]; omega
      | succ i =>
       obtain ⟨y, f1, hlt⟩ := HPV.o i rfl
       have hj0 : decide ((0 : Int) < ((i + 1 : Nat) : Int)) = true := aT (by omega)
       have hw3 : IntKind.i64.wrap (((i + 1 : Nat) : Int) - 1) = (i : Int) := by (rw [IntKind.wrap_i64]; omega)
       have hw4 : IntKind.i64.wrap ((i : Int) + 1 - 1) = (i : Int) := by (rw [IntKind.wrap_i64]; omega)
       have hi1 : decide ((i : Int) < (m : Int)) = true := aT (by omega)
       have hi2 : decide (i < m) = true := aT (by omega)
       have hi3 : i < m := by omega
       have hge : decide ((x : Int) ≤ y) = false := aF (by omega)
       go_wp2
       go_roundw
       case rel => exact ⟨i + 1 + 1, by go_num, by omega, (by first | trivial | rfl)⟩
       case measure => simp [intOf]; omega
     ·
      have hj1 : decide ((j : Int) < (m : Int)) = false := aF hjm
      have hj2 : decide (j < m) = false := aF (by omega)
      go_wp2
      go_roundw
      case rel => exact ⟨n + 1, by go_num, by omega, (by first | trivial | rfl)⟩
      case measure => simp [intOf]; omega
   ·
    have hn1 : decide ((n : Int) < (nn : Int)) = false := aF hnn
    have hn2 : decide (n < nn) = false := aF (by omega)
    go_wp2_with fail
    go_loopw [12, 13, 14] (fun v12 v13 v14 ws => ∃ i : Nat, v12 = .int .i64 (i : Int) ∧ (i : Int) ≤ nh ∧ ws = wr) (fun v12 _ _ _ => nh - (intOf v12).toNat)
    case atStart => exact ⟨0, rfl, by omega, (by first | trivial | rfl)⟩
    case round =>
     obtain ⟨i, rfl, hi, hws⟩ := hrel
     subst hws
     by_cases hin : (i : Int) < nh
     ·
      have hi1 : decide ((i : Int) < (nh : Int)) = true := aT hin
      have hi2 : decide (i < nh) = true := aT (by omega)
      have hi3 : i < nh := by omega
      have hw1 : IntKind.i64.wrap ((i : Int) + 1) = (i : Int) + 1 := wI
      obtain ⟨hh, hhh⟩ : ∃ h, gr.hs[i]? = some h := ⟨_, aG (by have := HNN.o.2; omega)⟩
      have HHH := aH hhh
      go_wp2_with fail
      go_loopw [13, 14] (fun v13 v14 wt => ∃ k : Nat, v13 = .bool ((gr.ns.take k).any (fun x => x.op == 11 && x.tg == (i : Int))) ∧ v14 = .int .i64 (k : Int) ∧ (k : Int) ≤ nn ∧ wt = wr) (fun _ v14 _ => nn - (intOf v14).toNat)
      case atStart => exact ⟨0, rfl, rfl, by omega, (by first | trivial | rfl)⟩
      case round =>
       obtain ⟨k, rfl, rfl, hk, hwt⟩ := hrel
       subst hwt
       by_cases hkn : (k : Int) < nn
       ·
        have hk1 : decide ((k : Int) < (nn : Int)) = true := aT hkn
        have hk2 : decide (k < nn) = true := aT (by omega)
        have hk3 : k < nn := by omega
        have hw2 : IntKind.i64.wrap ((k : Int) + 1) = (k : Int) + 1 := wI
        obtain ⟨x, hx⟩ : ∃ x, gr.ns[k]? = some x := ⟨_, aG (by have := HNN.o.1; omega)⟩
        have HST := aH (any_take_succ (f := fun x : Nj => x.op == 11 && x.tg == (i : Int)) hx)
        obtain ⟨b, off, ko, kc, hno, hb, -, c0, c1, c2, c3, c4, c5, c6, c7, c8, c9, -⟩ := (HG3.o.below HB7.o).1 k x hx
        rw [hno] at k1
        obtain ⟨z, hz⟩ : ∃ z, (gr.ns.take k).any (fun x => x.op == 11 && x.tg == (i : Int)) = z := ⟨_, rfl⟩
        obtain ⟨b1, hb1⟩ : ∃ z, (x.op == 11) = z := ⟨_, rfl⟩
        obtain ⟨b2, hb2⟩ : ∃ z, (x.tg == (i : Int)) = z := ⟨_, rfl⟩
        have HST2 := aH (show (gr.ns.take (k + 1)).any (fun x => x.op == 11 && x.tg == (i : Int)) = (z || (b1 && b2)) from by rw [HST.o, hz]; show (z || (x.op == 11 && x.tg == (i : Int))) = _; rw [hb1, hb2])
        rw [hz]
        clear hz hx c1 c2 c3 c4 c5 c6 c8 c9 HST
        cases z <;> cases b1 <;> cases b2
        all_goals
         go_wp2
         go_roundw
         case rel => exact ⟨k + 1, by rw [HST2.o]; rfl, by go_num, by omega, (by first | trivial | rfl)⟩
         case measure => simp [intOf]; omega
       ·
        have hk1 : decide ((k : Int) < (nn : Int)) = false := aF hkn
        have hk2 : decide (k < nn) = false := aF (by omega)
        have htk : gr.ns.take k = gr.ns := List.take_of_length_le (by have := HNN.o.1; omega)
        rw [htk]
        obtain ⟨z, hz⟩ : ∃ z, gr.ns.any (fun x => x.op == 11 && x.tg == (i : Int)) = z := ⟨_, rfl⟩
        have HZ := aH hz
        rw [hz]
        clear hz htk
        cases z with
        | true =>
         go_wp2
         go_roundw
         case rel => exact ⟨i + 1, by go_num, by omega, (by first | trivial | rfl)⟩
         case measure => simp [intOf]; omega
        | false =>
         have hun := HUM.o i hh HHH.o HZ.o
         have hbo0 := HHB.o i hh HHH.o
         have hbo : hh.bo < nn := by have := HNN.o.1; omega
         obtain ⟨b2, off2, hho, hb2, -, e0, e1, e2⟩ := (HG3.o.below HB7.o).2.1 i hh HHH.o
         rw [hho] at k2
         obtain ⟨ao, c, hVn, -⟩ := HV4.o hh.bo hbo
         have hq0 : wr.cell? ⟨q, hh.bo, none⟩ = some (V hh.bo) := by rw [HV3.o.cell _, List.getElem?_map, List.getElem?_range hbo]; rfl
         rw [hVn, hun] at hq0
         have hq0 : wr.cell? ⟨q, hh.bo, none⟩ = some (.slice ao 0 c) := hq0
         have hb1 : decide ((hh.bo : Int) < (nn : Int)) = true := aT (by omega)
         have hb3 : decide (hh.bo < nn) = true := aT hbo
         generalize hh.bo = bo at *
         clear hVn hun hbo0 hho
         go_wp2
         go_roundw
         case rel => exact ⟨i + 1, by go_num, by omega, (by first | trivial | rfl)⟩
         case measure => simp [intOf]; omega
     ·
      have hi1 : decide ((i : Int) < (nh : Int)) = false := aF hin
      have hi2 : decide (i < nh) = false := aF (by omega)
      have HAW := aH (awake14_any wr)
      go_wp2_with fail
      refine HAW.o.mono ?_
      rintro e w9 ⟨he, hb9⟩
      subst he
      have HBZ := aH (HB3.o.trans ((HB7.o.trans (hb9.mono HB7.o.size)).mono HB3.o.size))
      clear hb9
      go_wp2
      go_ret
      exact ⟨rfl, HBZ.o⟩
end Go.Proofs.Ytbjgojdpfehnmaa
