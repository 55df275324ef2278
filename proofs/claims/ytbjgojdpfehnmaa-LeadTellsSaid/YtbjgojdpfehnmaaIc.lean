/- Are all nodes marked, or one; where a node leads: the reference's, walked. What a node may do, by the marks of others: the reference's, walked. The least marks of a rule: the reference's, walked. The same marks: the reference's Same, walked. -/
import Derived.Test.YtbjgojdpfehnmaaIa
import Derived.Test.YtbjgojdpfehnmaaId
import Derived.Deep.LoopGhost
import Derived.Deep.CutBlock
namespace Go.Proofs.Ytbjgojdpfehnmaa
set_option linter.unusedVariables false
open Go.RowKit Go.Sort
set_option maxRecDepth 1000000 in
set_option maxHeartbeats 1600000 in
theorem sall_any (M : Nat → Bool) (N g : Nat) (hN : N ≤ 160) (L : List Nat) (R : Nat → Prop) (ao : Option Addr) (c : Nat) (hL : ∀ k ∈ L, k < N) (h9 : L.length ≤ 90001) (w : World) (hm : Own w g 4 (rowB M N)) (hk : HasKn w R ao L) :
  Calls Try.prog 79 #[.slice (some ⟨g, 0, none⟩) N N, .slice ao L.length c] w fun e w' => e = .returned (.bool (L.all M)) ∧ w' = w := by
 have HL := Lib.hid hL
 have HM := Lib.hid hm
 have HK := Lib.hid hk
 obtain ⟨n, hn⟩ : ∃ z, L.length = z := ⟨_, rfl⟩
 have HN := Lib.hid hn
 obtain ⟨RES, hRES⟩ : ∃ z, L.all M = z := ⟨_, rfl⟩
 have HRES := Lib.hid hRES
 rw [hn] at h9
 rw [hRES, hn]
 clear hL hm hk hn hRES
 go_enter Try.func79, Try.ntmps79
 go_wp2_with fail
 go_loopw [5] (fun v5 wr => ∃ k : Nat, v5 = .int .i64 (k : Int) ∧ (k : Int) ≤ n ∧ Hid ((L.take k).all M = true) ∧ wr = w) (fun v5 _ => n - (intOf v5).toNat)
 case atStart => exact ⟨0, rfl, by omega, Lib.hid rfl, (by first | trivial | rfl)⟩
 case round =>
  obtain ⟨k, rfl, hk, HA, rfl⟩ := hrel
  by_cases hkn : (k : Int) < n
  ·
   have hkn1 : decide ((k : Int) < n) = true := decide_eq_true hkn
   have hkn2 : decide (k < n) = true := decide_eq_true (by omega)
   obtain ⟨x, hx⟩ : ∃ x, L[k]? = some x := ⟨_, List.getElem?_eq_getElem (by have := HN.out; omega)⟩
   obtain ⟨b, off, hao, hb, -, c0⟩ := HK.out k x hx
   have hxN := HL.out x (List.mem_of_getElem? hx)
   have HX := Lib.hid hx
   have m0 : wr.cell? ⟨g, x, none⟩ = some (.bool (M x)) := by rw [HM.out.cell x]; exact rowB_at M N x hxN
   have hgl := HM.out.lt
   have hx1 : decide ((x : Int) < (N : Int)) = true := decide_eq_true (by omega)
   have hx2 : decide (x < N) = true := decide_eq_true hxN
   have hw1 : IntKind.i64.wrap ((k : Int) + 1) = (k : Int) + 1 := by rw [IntKind.wrap_i64]; omega
   obtain ⟨z, hz⟩ : ∃ z, M x = z := ⟨_, rfl⟩
   have HZ := Lib.hid hz
   rw [hz] at m0
   subst hao
   clear hx hz
   cases z with
   | false =>
    have HE := Lib.hid (show RES = false from by rw [← HRES.out]; exact gall_no HX.out HZ.out)
    go_wp2
    go_ret
    rw [HE.out]
    exact ⟨rfl, rfl⟩
   | true =>
    have HA1 := Lib.hid (show (L.take (k + 1)).all M = true from by rw [gall_snoc HX.out, HA.out, HZ.out]; rfl)
    go_wp2
    go_roundw
    case rel => exact ⟨k + 1, by go_num, by omega, HA1, (by first | trivial | rfl)⟩
    case measure => simp [intOf]; omega
  ·
   have hkn1 : decide ((k : Int) < n) = false := decide_eq_false hkn
   have hkn2 : decide (k < n) = false := decide_eq_false (by omega)
   have HE := Lib.hid (show RES = true from by rw [← HRES.out, ← HA.out, List.take_of_length_le (by have := HN.out; omega)])
   go_wp2
   go_ret
   rw [HE.out]
   exact ⟨rfl, rfl⟩
set_option maxRecDepth 1000000 in
set_option maxHeartbeats 1600000 in
theorem sone_any (M : Nat → Bool) (N g : Nat) (hN : N ≤ 160) (L : List Nat) (R : Nat → Prop) (ao : Option Addr) (c : Nat) (hL : ∀ k ∈ L, k < N) (h9 : L.length ≤ 90001) (w : World) (hm : Own w g 4 (rowB M N)) (hk : HasKn w R ao L) :
  Calls Try.prog 78 #[.slice (some ⟨g, 0, none⟩) N N, .slice ao L.length c] w fun e w' => e = .returned (.bool (L.any M)) ∧ w' = w := by
 have HL := Lib.hid hL
 have HM := Lib.hid hm
 have HK := Lib.hid hk
 obtain ⟨n, hn⟩ : ∃ z, L.length = z := ⟨_, rfl⟩
 have HN := Lib.hid hn
 obtain ⟨RES, hRES⟩ : ∃ z, L.any M = z := ⟨_, rfl⟩
 have HRES := Lib.hid hRES
 rw [hn] at h9
 rw [hRES, hn]
 clear hL hm hk hn hRES
 go_enter Try.func78, Try.ntmps78
 go_wp2_with fail
 go_loopw [5] (fun v5 wr => ∃ k : Nat, v5 = .int .i64 (k : Int) ∧ (k : Int) ≤ n ∧ Hid ((L.take k).any M = false) ∧ wr = w) (fun v5 _ => n - (intOf v5).toNat)
 case atStart => exact ⟨0, rfl, by omega, Lib.hid rfl, (by first | trivial | rfl)⟩
 case round =>
  obtain ⟨k, rfl, hk, HA, rfl⟩ := hrel
  by_cases hkn : (k : Int) < n
  ·
   have hkn1 : decide ((k : Int) < n) = true := decide_eq_true hkn
   have hkn2 : decide (k < n) = true := decide_eq_true (by omega)
   obtain ⟨x, hx⟩ : ∃ x, L[k]? = some x := ⟨_, List.getElem?_eq_getElem (by have := HN.out; omega)⟩
   obtain ⟨b, off, hao, hb, -, c0⟩ := HK.out k x hx
   have hxN := HL.out x (List.mem_of_getElem? hx)
   have HX := Lib.hid hx
   have m0 : wr.cell? ⟨g, x, none⟩ = some (.bool (M x)) := by rw [HM.out.cell x]; exact rowB_at M N x hxN
   have hgl := HM.out.lt
   have hx1 : decide ((x : Int) < (N : Int)) = true := decide_eq_true (by omega)
   have hx2 : decide (x < N) = true := decide_eq_true hxN
   have hw1 : IntKind.i64.wrap ((k : Int) + 1) = (k : Int) + 1 := by rw [IntKind.wrap_i64]; omega
   obtain ⟨z, hz⟩ : ∃ z, M x = z := ⟨_, rfl⟩
   have HZ := Lib.hid hz
   rw [hz] at m0
   subst hao
   clear hx hz
   cases z with
   | true =>
    have HE := Lib.hid (show RES = true from by rw [← HRES.out]; exact gany_yes HX.out HZ.out)
    go_wp2
    go_ret
    rw [HE.out]
    exact ⟨rfl, rfl⟩
   | false =>
    have HA1 := Lib.hid (show (L.take (k + 1)).any M = false from by rw [gany_snoc HX.out, HA.out, HZ.out]; rfl)
    go_wp2
    go_roundw
    case rel => exact ⟨k + 1, by go_num, by omega, HA1, (by first | trivial | rfl)⟩
    case measure => simp [intOf]; omega
  ·
   have hkn1 : decide ((k : Int) < n) = false := decide_eq_false hkn
   have hkn2 : decide (k < n) = false := decide_eq_false (by omega)
   have HE := Lib.hid (show RES = false from by rw [← HRES.out, ← HA.out, List.take_of_length_le (by have := HN.out; omega)])
   go_wp2
   go_ret
   rw [HE.out]
   exact ⟨rfl, rfl⟩
set_option maxRecDepth 1000000 in
set_option maxHeartbeats 1600000 in
theorem sbody_any (gr : Gj) (a : Gv) (hg : Good gr) (n : Nat) (hn : n < gr.ns.length) (w : World) (hG : HasG w gr a) :
  Calls Try.prog 55 #[grv gr a, .int .i64 (n : Int)] w fun e w' => e = .returned (.int .i64 (bodyG gr n : Int)) ∧ Below w.heap.size w w' := by
 have HGD := Lib.hid hg
 obtain ⟨x, hx⟩ : ∃ x, gr.ns[n]? = some x := ⟨_, List.getElem?_eq_getElem hn⟩
 have HX := Lib.hid hx
 have HR := Lib.hid (hg.ref x (List.mem_of_getElem? hx))
 have HBO := Lib.hid (show bodyG gr n = if x.op = 11 then (match gr.hs[x.tg.toNat]? with
  | some h => h.bo
  | none => 0) else n from by unfold bodyG; rw [hx]; try rfl)
 have HB1 := Lib.hid (show Below w.heap.size w (w.alloc (.cells #[.slice a.mo gr.ms.length a.mc, .slice a.no gr.ns.length a.nc, .slice a.ho gr.hs.length a.hc, .slice a.wo gr.ws.length a.wc, .int .i64 gr.st] 27)) from (Below.refl _ _).alloc (Nat.le_refl _) _)
 have HO1 := Lib.hid (Own.fresh w 27 [.slice a.mo gr.ms.length a.mc, .slice a.no gr.ns.length a.nc, .slice a.ho gr.hs.length a.hc, .slice a.wo gr.ws.length a.wc, .int .i64 gr.st])
 obtain ⟨b, off, ko, kc, hno, hb, -, c0, -, -, -, -, -, -, c7, -, -, -⟩ := (hG.below HB1.out).1 n x hx
 have HHS := Lib.hid (hG.below HB1.out).2.1
 have HNO := Lib.hid hno
 clear hno
 unfold grv
 obtain ⟨nn, hnn⟩ : ∃ z, gr.ns.length = z := ⟨_, rfl⟩
 obtain ⟨nh, hnh⟩ : ∃ z, gr.hs.length = z := ⟨_, rfl⟩
 obtain ⟨nms, hnms⟩ : ∃ z, gr.ms.length = z := ⟨_, rfl⟩
 obtain ⟨nw, hnw⟩ : ∃ z, gr.ws.length = z := ⟨_, rfl⟩
 have HNN := Lib.hid (And.intro hnn hnh)
 have hn160 : nn ≤ 160 := by rw [← hnn]; exact hg.len
 rw [hnn] at hn
 rw [hnn, hnh, hnms, hnw] at HB1 HO1 c0 c7 HHS hb
 rw [hnn, hnh, hnms, hnw]
 have hn1 : decide ((n : Int) < (nn : Int)) = true := decide_eq_true (by omega)
 have hn2 : decide (n < nn) = true := decide_eq_true hn
 obtain ⟨B, hB⟩ : ∃ B, w.heap.size = B := ⟨_, rfl⟩
 have HB := Lib.hid hB
 rw [hB] at HO1
 obtain ⟨op, hop⟩ : ∃ z, x.op = z := ⟨_, rfl⟩
 rw [hop] at c0 HR HBO
 clear hx hg hG hnn hnh hnms hnw hop
 go_enter Try.func55, Try.ntmps55
 go_upto_region 1 with fail
 generalize w.alloc (.cells #[.slice a.mo nms a.mc, .slice a.no nn a.nc, .slice a.ho nh a.hc, .slice a.wo nw a.wc, .int .i64 gr.st] 27) = w1 at *
 try rw [hB]
 clear hB
 have g1 : w1.cell? ⟨B, 1, none⟩ = some (.slice a.no nn a.nc) := HO1.out.cell 1
 have g2 : w1.cell? ⟨B, 2, none⟩ = some (.slice a.ho nh a.hc) := HO1.out.cell 2
 have hno := HNO.out
 rw [hno] at g1
 have gl := HO1.out.lt
 by_cases h11 : op = 11
 ·
  subst h11
  obtain ⟨t, h, ht, hh, hbo⟩ := HR.out rfl
  obtain ⟨hb2, hoff, hho, hhl, -, d0, d1, d2⟩ := HHS.out t h hh
  rw [ht] at c7
  rw [hho] at g2
  have htn : t < nh := by have := (List.getElem?_eq_some_iff.1 hh).1; have := HNN.out.2; omega
  have ht1 : decide ((t : Int) < (nh : Int)) = true := decide_eq_true (by omega)
  have ht2 : decide (t < nh) = true := decide_eq_true htn
  have HE := Lib.hid (show bodyG gr n = h.bo from by rw [HBO.out, if_pos rfl, ht, Int.toNat_natCast, hh])
  clear ht hh hho hno
  go_wp2_with fail
  go_quiet (fail)
  have HB2 := Lib.hid (below_drewN HB1.out nq)
  go_wp2
  go_ret
  rw [HE.out]
  exact ⟨rfl, HB2.out⟩
 ·
  have h11a : (op != 11) = true := bne_iff_ne.2 h11
  have h11b : (op == 11) = false := beq_eq_false_iff_ne.2 h11
  have HE := Lib.hid (show bodyG gr n = n from by rw [HBO.out, if_neg h11])
  clear hno
  go_wp2
  go_ret
  rw [HE.out]
  exact ⟨rfl, HB1.out⟩
set_option maxRecDepth 1000000 in
set_option maxHeartbeats 9600000 in
theorem stake_any (gr : Gj) (a : Gv) (hg : Good gr) (M : Nat → Bool) (n g : Nat) (hn : n < gr.ns.length) (w : World) (hG : HasG w gr a) (hm : Own w g 4 (rowB M gr.ns.length)) :
  Calls Try.prog 60 #[grv gr a, .slice (some ⟨g, 0, none⟩) gr.ns.length gr.ns.length, .int .i64 (n : Int)] w fun e w' => e = .returned (.bool (nulB gr M n)) ∧ Below w.heap.size w w' := by
 obtain ⟨x, hx⟩ : ∃ x, gr.ns[n]? = some x := ⟨_, List.getElem?_eq_getElem hn⟩
 have HRU := Lib.hid (show nulB gr M n = if x.op = 6 ∨ x.op = 8 ∨ x.op = 9 ∨ x.op = 10 then true else if x.op = 4 ∨ x.op = 7 ∨ x.op = 12 then x.ks.all M else if x.op = 5 then x.ks.any M else if x.op = 11 then M (bodyG gr n) else false from by unfold nulB; rw [hx])
 have HB1 := Lib.hid (show Below w.heap.size w (w.alloc (.cells #[.slice a.mo gr.ms.length a.mc, .slice a.no gr.ns.length a.nc, .slice a.ho gr.hs.length a.hc, .slice a.wo gr.ws.length a.wc, .int .i64 gr.st] 27)) from (Below.refl _ _).alloc (Nat.le_refl _) _)
 have HO1 := Lib.hid (Own.fresh w 27 [.slice a.mo gr.ms.length a.mc, .slice a.no gr.ns.length a.nc, .slice a.ho gr.hs.length a.hc, .slice a.wo gr.ws.length a.wc, .int .i64 gr.st])
 have HM1 := Lib.hid (hm.under HB1.out hm.lt)
 have HG1 := Lib.hid (hG.below HB1.out)
 obtain ⟨b, off, ko, kc, hno, hb, -, c0, c1, c2, c3, c4, c5, c6, c7, c8, c9, hk⟩ := HG1.out.1 n x hx
 have HK1 := Lib.hid hk
 have HNO := Lib.hid hno
 have HQ := Lib.hid (bodyG_lt hg hn)
 have HAL := Lib.hid (fun W h1 h2 => sall_any M gr.ns.length g hg.len x.ks (fun _ => True) ko kc (hg.kid x (List.mem_of_getElem? hx)) (hg.kl x (List.mem_of_getElem? hx)) W h1 h2)
 have HON := Lib.hid (fun W h1 h2 => sone_any M gr.ns.length g hg.len x.ks (fun _ => True) ko kc (hg.kid x (List.mem_of_getElem? hx)) (hg.kl x (List.mem_of_getElem? hx)) W h1 h2)
 have HBO := Lib.hid (fun W h => sbody_any gr a hg n hn W h)
 clear hno hk
 unfold grv
 unfold grv at HBO
 obtain ⟨RES, hRES⟩ : ∃ z, nulB gr M n = z := ⟨_, rfl⟩
 obtain ⟨nn, hnn⟩ : ∃ z, gr.ns.length = z := ⟨_, rfl⟩
 obtain ⟨nh, hnh⟩ : ∃ z, gr.hs.length = z := ⟨_, rfl⟩
 obtain ⟨nms, hnms⟩ : ∃ z, gr.ms.length = z := ⟨_, rfl⟩
 obtain ⟨nw, hnw⟩ : ∃ z, gr.ws.length = z := ⟨_, rfl⟩
 obtain ⟨nk, hnk⟩ : ∃ z, x.ks.length = z := ⟨_, rfl⟩
 obtain ⟨op, hop⟩ : ∃ z, x.op = z := ⟨_, rfl⟩
 obtain ⟨q, hq⟩ : ∃ z, bodyG gr n = z := ⟨_, rfl⟩
 have hn160 : nn ≤ 160 := by rw [← hnn]; exact hg.len
 rw [hnn] at hn
 rw [hRES, hop, hq] at HRU
 rw [hq, hnn] at HQ
 rw [hnk, hnn] at HAL HON
 rw [hnn, hnh, hnms, hnw, hq] at HBO
 rw [hnn, hnh, hnms, hnw] at HB1 HO1 HM1 HG1 HK1 c0 c1 c2 c3 c4 c5 c6 c7 c8 c9 hb
 rw [hnk] at c6
 rw [hop] at c0
 rw [hRES, hnn, hnh, hnms, hnw]
 have hn1 : decide ((n : Int) < (nn : Int)) = true := decide_eq_true (by omega)
 have hn2 : decide (n < nn) = true := decide_eq_true hn
 obtain ⟨B, hB⟩ : ∃ B, w.heap.size = B := ⟨_, rfl⟩
 have HW1 := Lib.hid (show (w.alloc (.cells #[.slice a.mo nms a.mc, .slice a.no nn a.nc, .slice a.ho nh a.hc, .slice a.wo nw a.wc, .int .i64 gr.st] 27)).heap.size = B + 1 from by rw [← hB]; simp)
 rw [hB] at HO1
 clear hx hg hG hm hRES hnn hnh hnms hnw hnk hop hq
 go_enter Try.func60, Try.ntmps60
 go_upto_region 1 with fail
 generalize w.alloc (.cells #[.slice a.mo nms a.mc, .slice a.no nn a.nc, .slice a.ho nh a.hc, .slice a.wo nw a.wc, .int .i64 gr.st] 27) = w1 at *
 try rw [hB]
 clear hB
 have g0 : w1.cell? ⟨B, 0, none⟩ = some (.slice a.mo nms a.mc) := HO1.out.cell 0
 have g1 : w1.cell? ⟨B, 1, none⟩ = some (.slice a.no nn a.nc) := HO1.out.cell 1
 have g2 : w1.cell? ⟨B, 2, none⟩ = some (.slice a.ho nh a.hc) := HO1.out.cell 2
 have g3 : w1.cell? ⟨B, 3, none⟩ = some (.slice a.wo nw a.wc) := HO1.out.cell 3
 have g4 : w1.cell? ⟨B, 4, none⟩ = some (.int .i64 gr.st) := HO1.out.cell 4
 have gl := HO1.out.lt
 rw [HNO.out] at g1
 have hbl : Below w1.heap.size w1 (w1.alloc (.cells #[.int .i64 op, .string x.tx, .int .u64 x.s0, .int .u64 x.s1, .int .u64 x.s2, .int .u64 x.s3, .slice ko nk kc, .int .i64 x.tg, .int .i64 (x.mo : Int), .int .i64 x.ru] 42)) := (Below.refl _ _).alloc (Nat.le_refl _) _
 have HBL := Lib.hid hbl
 have HB2 := Lib.hid (HB1.out.trans (hbl.mono HB1.out.size))
 have HM2 := Lib.hid (HM1.out.under hbl HM1.out.lt)
 have HG2 := Lib.hid (HG1.out.below hbl)
 have HK2 := Lib.hid (HK1.out.below hbl)
 have HO2 := Lib.hid (HO1.out.under hbl HO1.out.lt)
 have HN2 := Lib.hid (Own.fresh w1 42 [.int .i64 op, .string x.tx, .int .u64 x.s0, .int .u64 x.s1, .int .u64 x.s2, .int .u64 x.s3, .slice ko nk kc, .int .i64 x.tg, .int .i64 (x.mo : Int), .int .i64 x.ru])
 rw [HW1.out] at HN2
 clear hbl
 go_upto_region 2 with fail
 generalize w1.alloc (.cells #[.int .i64 op, .string x.tx, .int .u64 x.s0, .int .u64 x.s1, .int .u64 x.s2, .int .u64 x.s3, .slice ko nk kc, .int .i64 x.tg, .int .i64 (x.mo : Int), .int .i64 x.ru] 42) = w2 at *
 try rw [HW1.out]
 have y0 : w2.cell? ⟨B + 1, 0, none⟩ = some (.int .i64 op) := HN2.out.cell 0
 have y3 : w2.cell? ⟨B + 1, 6, none⟩ = some (.slice ko nk kc) := HN2.out.cell 6
 have yl := HN2.out.lt
 clear c0 c1 c2 c3 c4 c5 c6 c7 c8 c9 g0 g1 g2 g3 g4 gl hb HO1 HM1 HG1 HK1 HB1
 rcases op_cases op with h | ⟨h1, h2, h3, hA, h4, h5, h6, h7, h8, h9, h10, h12, h13⟩
 ·
  rcases h with rfl | rfl | rfl | rfl | rfl | rfl | rfl | rfl | rfl | rfl | rfl | rfl | rfl
  ·
   have HE := Lib.hid (show RES = false from by rw [HRU.out]; first | rfl | simp)
   go_wp2
   go_ret
   rw [HE.out]
   exact ⟨rfl, HB2.out⟩
  ·
   have HE := Lib.hid (show RES = false from by rw [HRU.out]; first | rfl | simp)
   go_wp2
   go_ret
   rw [HE.out]
   exact ⟨rfl, HB2.out⟩
  ·
   have HE := Lib.hid (show RES = false from by rw [HRU.out]; first | rfl | simp)
   go_wp2
   go_ret
   rw [HE.out]
   exact ⟨rfl, HB2.out⟩
  ·
   have HE := Lib.hid (show RES = M q from by rw [HRU.out]; first | rfl | simp)
   have d0 : w2.cell? ⟨B, 0, none⟩ = some (.slice a.mo nms a.mc) := HO2.out.cell 0
   have d1 : w2.cell? ⟨B, 1, none⟩ = some (.slice a.no nn a.nc) := HO2.out.cell 1
   have d2 : w2.cell? ⟨B, 2, none⟩ = some (.slice a.ho nh a.hc) := HO2.out.cell 2
   have d3 : w2.cell? ⟨B, 3, none⟩ = some (.slice a.wo nw a.wc) := HO2.out.cell 3
   have d4 : w2.cell? ⟨B, 4, none⟩ = some (.int .i64 gr.st) := HO2.out.cell 4
   have dl := HO2.out.lt
   go_wp2_with fail
   refine (HBO.out w2 HG2.out).mono ?_
   rintro e w3 ⟨he, hb3⟩
   subst he
   have HM3 := Lib.hid (HM2.out.under hb3 HM2.out.lt)
   have HB3 := Lib.hid (HB2.out.trans (hb3.mono HB2.out.size))
   have hqn := HQ.out
   have m0 : w3.cell? ⟨g, q, none⟩ = some (.bool (M q)) := by rw [HM3.out.cell q]; exact rowB_at M nn q hqn
   have ml := HM3.out.lt
   have hq1 : decide ((q : Int) < (nn : Int)) = true := decide_eq_true (by omega)
   have hq2 : decide (q < nn) = true := decide_eq_true hqn
   obtain ⟨z, hz⟩ : ∃ z, M q = z := ⟨_, rfl⟩
   rw [hz] at m0 HE
   clear hb3 hz
   go_wp2
   go_ret
   rw [HE.out]
   exact ⟨rfl, HB3.out⟩
  ·
   have HE := Lib.hid (show RES = x.ks.all M from by rw [HRU.out]; first | rfl | simp)
   go_wp2_with fail
   refine (HAL.out w2 HM2.out HK2.out).mono ?_
   rintro e w3 ⟨he, hw3⟩
   subst he
   subst hw3
   go_wp2
   go_ret
   rw [HE.out]
   exact ⟨rfl, HB2.out⟩
  ·
   have HE := Lib.hid (show RES = x.ks.any M from by rw [HRU.out]; first | rfl | simp)
   go_wp2_with fail
   refine (HON.out w2 HM2.out HK2.out).mono ?_
   rintro e w3 ⟨he, hw3⟩
   subst he
   subst hw3
   go_wp2
   go_ret
   rw [HE.out]
   exact ⟨rfl, HB2.out⟩
  ·
   have HE := Lib.hid (show RES = true from by rw [HRU.out]; first | rfl | simp)
   go_wp2
   go_ret
   rw [HE.out]
   exact ⟨rfl, HB2.out⟩
  ·
   have HE := Lib.hid (show RES = x.ks.all M from by rw [HRU.out]; first | rfl | simp)
   go_wp2_with fail
   refine (HAL.out w2 HM2.out HK2.out).mono ?_
   rintro e w3 ⟨he, hw3⟩
   subst he
   subst hw3
   go_wp2
   go_ret
   rw [HE.out]
   exact ⟨rfl, HB2.out⟩
  ·
   have HE := Lib.hid (show RES = true from by rw [HRU.out]; first | rfl | simp)
   go_wp2
   go_ret
   rw [HE.out]
   exact ⟨rfl, HB2.out⟩
  ·
   have HE := Lib.hid (show RES = true from by rw [HRU.out]; first | rfl | simp)
   go_wp2
   go_ret
   rw [HE.out]
   exact ⟨rfl, HB2.out⟩
  ·
   have HE := Lib.hid (show RES = true from by rw [HRU.out]; first | rfl | simp)
   go_wp2
   go_ret
   rw [HE.out]
   exact ⟨rfl, HB2.out⟩
  ·
   have HE := Lib.hid (show RES = x.ks.all M from by rw [HRU.out]; first | rfl | simp)
   go_wp2_with fail
   refine (HAL.out w2 HM2.out HK2.out).mono ?_
   rintro e w3 ⟨he, hw3⟩
   subst he
   subst hw3
   go_wp2
   go_ret
   rw [HE.out]
   exact ⟨rfl, HB2.out⟩
  ·
   have HE := Lib.hid (show RES = false from by rw [HRU.out]; first | rfl | simp)
   go_wp2
   go_ret
   rw [HE.out]
   exact ⟨rfl, HB2.out⟩
 ·
  have HE := Lib.hid (show RES = false from by
   simp only [beq_eq_false_iff_ne] at h1 h2 h3 hA h4 h5 h6 h7 h8 h9 h10 h12 h13
   rw [HRU.out]
   simp only [h4, h5, h6, h7, h8, h9, h10, hA, h12, if_false, or_self])
  go_wp2
  go_ret
  rw [HE.out]
  exact ⟨rfl, HB2.out⟩
set_option maxRecDepth 1000000 in
set_option maxHeartbeats 3200000 in
theorem sleast_f (gr : Gj) (a : Gv) (hg : Good gr)
  (w : World) (hG : HasG w gr a) :
  Calls Try.prog 39 #[grv gr a, .bool false] w fun e w' => ∃ g, e = .returned (.slice (some ⟨g, 0, none⟩) gr.ns.length gr.ns.length) ∧ Own w' g 4 (rowB (leastB (nulB gr) gr.ns.length (gr.ns.length + 1) (fun _ => false)) gr.ns.length) ∧ w.heap.size ≤ g ∧ Below w.heap.size w w' := by
 have HF := Lib.hid (fun (M : Nat → Bool) (n g : Nat) (W : World) (hn : n < gr.ns.length) (h1 : HasG W gr a) (h2 : Own W g 4 (rowB M gr.ns.length)) => stake_any gr a hg M n g hn W h1 h2)
 have HB1 := Lib.hid (show Below w.heap.size w (w.alloc (.cells #[.slice a.mo gr.ms.length a.mc, .slice a.no gr.ns.length a.nc, .slice a.ho gr.hs.length a.hc, .slice a.wo gr.ws.length a.wc, .int .i64 gr.st] 27)) from (Below.refl _ _).alloc (Nat.le_refl _) _)
 have HO1 := Lib.hid (Own.fresh w 27 [.slice a.mo gr.ms.length a.mc, .slice a.no gr.ns.length a.nc, .slice a.ho gr.hs.length a.hc, .slice a.wo gr.ws.length a.wc, .int .i64 gr.st])
 have HG1 := Lib.hid ((hG.mono (T := fun b => b < w.heap.size) (fun _ h _ => h)).below HB1.out)
 obtain ⟨RES, hRES⟩ : ∃ z, leastB (nulB gr) gr.ns.length (gr.ns.length + 1) (fun _ => false) = z := ⟨_, rfl⟩
 have HR0 := Lib.hid hRES
 rw [hRES]
 unfold grv
 unfold grv at HF
 obtain ⟨nn, hnn⟩ : ∃ z, gr.ns.length = z := ⟨_, rfl⟩
 obtain ⟨nh, hnh⟩ : ∃ z, gr.hs.length = z := ⟨_, rfl⟩
 obtain ⟨nms, hnms⟩ : ∃ z, gr.ms.length = z := ⟨_, rfl⟩
 obtain ⟨nw, hnw⟩ : ∃ z, gr.ws.length = z := ⟨_, rfl⟩
 have hn160 : (nn : Int) ≤ 160 := by have := hg.len; omega
 rw [hnn] at HR0
 rw [hnn, hnh, hnms, hnw] at HF HB1 HO1 HG1
 rw [hnn, hnh, hnms, hnw]
 obtain ⟨B, hB⟩ : ∃ B, w.heap.size = B := ⟨_, rfl⟩
 have HW1 := Lib.hid (show (w.alloc (.cells #[.slice a.mo nms a.mc, .slice a.no nn a.nc, .slice a.ho nh a.hc, .slice a.wo nw a.wc, .int .i64 gr.st] 27)).heap.size = B + 1 from by rw [← hB]; simp)
 have HBE := Lib.hid hB
 rw [hB] at HO1
 clear hg hG hRES hnn hnh hnms hnw
 have hmk : ∀ W : World, (Instr.makeSlice 35 (.int .i64 (nn : Int)) (.int .i64 (nn : Int))).run Try.prog W = .ok (.slice (some ⟨W.heap.size, 0, none⟩) nn nn) (W.alloc (.cells (Array.replicate nn (Value.bool false)) 4)) := fun W => run_boolsE nn (by omega) W
 go_enter Try.func39, Try.ntmps39
 go_upto_region 1 with fail
 generalize w.alloc (.cells #[.slice a.mo nms a.mc, .slice a.no nn a.nc, .slice a.ho nh a.hc, .slice a.wo nw a.wc, .int .i64 gr.st] 27) = w1 at *
 try rw [hB]
 clear hB
 have g0 : w1.cell? ⟨B, 0, none⟩ = some (.slice a.mo nms a.mc) := HO1.out.cell 0
 have g1 : w1.cell? ⟨B, 1, none⟩ = some (.slice a.no nn a.nc) := HO1.out.cell 1
 have gl := HO1.out.lt
 have hbl : Below w1.heap.size w1 (w1.alloc (.cells (Array.replicate nn (Value.bool false)) 4)) := (Below.refl _ _).alloc (Nat.le_refl _) _
 have HB2 := Lib.hid (HB1.out.trans (hbl.mono HB1.out.size))
 have HG2 := Lib.hid (HG1.out.below hbl)
 have HO2 := Lib.hid (HO1.out.under hbl HO1.out.lt)
 have HM2 := Lib.hid (show Own (w1.alloc (.cells (Array.replicate nn (Value.bool false)) 4)) (B + 1) 4 (rowB (fun _ => false) nn) by
  rw [rowB_zero, ← List.toArray_replicate, ← HW1.out]; exact Own.fresh w1 4 _)
 clear hbl
 go_upto_region 3 with fail
 generalize w1.alloc (.cells (Array.replicate nn (Value.bool false)) 4) = w2 at *
 try rw [HW1.out]
 clear g0 g1 gl hmk HO1 HG1 HB1
 go_loopg [6] (nn + 1) (fun f v6 wr => ∃ (M : Nat → Bool) (z : Bool), v6 = .bool z ∧ Hid (RES = if z = true then leastB (nulB gr) nn f M else M) ∧ Hid (z = true → lackB M nn < f) ∧ Hid (Own wr (B + 1) 4 (rowB M nn)) ∧ Hid (Own wr B 27 [.slice a.mo nms a.mc, .slice a.no nn a.nc, .slice a.ho nh a.hc, .slice a.wo nw a.wc, .int .i64 gr.st]) ∧ Hid (HasGR wr (fun b => b < w.heap.size) gr a) ∧ Hid (Below w.heap.size w wr))
 case atStart => exact ⟨fun _ => false, true, rfl, Lib.hid (by rw [if_pos rfl]; exact HR0.out.symm), Lib.hid (fun _ => by have := lackB_le (fun _ => false) nn; omega), HM2, HO2, HG2, HB2⟩
 case round =>
  obtain ⟨M, z, rfl, HS, HLK, HM, HO, HG, HB⟩ := hrel
  cases z with
  | false =>
   have HE := Lib.hid (show RES = M from by rw [HS.out, if_neg (by decide)])
   go_wp2
   go_ret
   exact ⟨B + 1, rfl, by rw [HE.out]; exact HM.out, by have := HBE.out; omega, HB.out⟩
  | true =>
   obtain ⟨f, rfl⟩ : ∃ f, gk = f + 1 := ⟨gk - 1, by have := HLK.out rfl; omega⟩
   have HS1 := Lib.hid (show RES = leastB (nulB gr) nn (f + 1) M from by rw [HS.out, if_pos rfl])
   have HL1 := Lib.hid (HLK.out rfl)
   clear HM2 HO2 HG2 HB2 HS HLK
   have g1 : wr.cell? ⟨B, 1, none⟩ = some (.slice a.no nn a.nc) := HO.out.cell 1
   have gl := HO.out.lt
   go_wp2_with fail
   go_loopg [6, 7] nn (fun j v6 v16 wx => ∃ (k : Nat) (M1 : Nat → Bool) (z : Bool), v6 = .bool z ∧ v16 = .int .i64 (k : Int) ∧ k + j = nn ∧ Hid (passB (nulB gr) nn 0 M false = passB (nulB gr) (nn - k) k M1 z) ∧ Hid (lackB M1 nn + (if z = true then 1 else 0) ≤ lackB M nn) ∧ Hid (Own wx (B + 1) 4 (rowB M1 nn)) ∧ Hid (Own wx B 27 [.slice a.mo nms a.mc, .slice a.no nn a.nc, .slice a.ho nh a.hc, .slice a.wo nw a.wc, .int .i64 gr.st]) ∧ Hid (HasGR wx (fun b => b < w.heap.size) gr a) ∧ Hid (Below w.heap.size w wx))
   case atStart => exact ⟨0, M, false, rfl, rfl, by omega, Lib.hid rfl, Lib.hid (Nat.le_refl _), HM, HO, HG, HB⟩
   case round =>
    obtain ⟨k, M1, z, rfl, rfl, hkj, HP, HL, HMx, HOx, HGx, HBx⟩ := hrel
    clear HM HO HG HB g1 gl
    by_cases hk : k < nn
    ·
     obtain ⟨j, rfl⟩ : ∃ j, gk = j + 1 := ⟨gk - 1, by omega⟩
     have hk1 : decide ((k : Int) < (nn : Int)) = true := decide_eq_true (by omega)
     have hk2 : decide (k < nn) = true := decide_eq_true hk
     have hw1 : IntKind.i64.wrap ((k : Int) + 1) = (k : Int) + 1 := by rw [IntKind.wrap_i64]; omega
     have m0 : wr.cell? ⟨B + 1, k, none⟩ = some (.bool (M1 k)) := by rw [HMx.out.cell k]; exact rowB_at M1 nn k hk
     have ml := HMx.out.lt
     have g0 : wr.cell? ⟨B, 0, none⟩ = some (.slice a.mo nms a.mc) := HOx.out.cell 0
     have g1 : wr.cell? ⟨B, 1, none⟩ = some (.slice a.no nn a.nc) := HOx.out.cell 1
     have g2 : wr.cell? ⟨B, 2, none⟩ = some (.slice a.ho nh a.hc) := HOx.out.cell 2
     have g3 : wr.cell? ⟨B, 3, none⟩ = some (.slice a.wo nw a.wc) := HOx.out.cell 3
     have g4 : wr.cell? ⟨B, 4, none⟩ = some (.int .i64 gr.st) := HOx.out.cell 4
     have gl := HOx.out.lt
     obtain ⟨b1, hb1⟩ : ∃ z, M1 k = z := ⟨_, rfl⟩
     have HBK := Lib.hid hb1
     rw [hb1] at m0
     clear hb1
     cases b1 with
     | true =>
      have HPN := Lib.hid (show passB (nulB gr) nn 0 M false = passB (nulB gr) (nn - (k + 1)) (k + 1) M1 z from HP.out.trans (passB_keep hk (by rw [HBK.out]; rfl)))
      go_wp2
      go_roundg j
      case measure => omega
      case rel => exact ⟨k + 1, M1, z, rfl, by go_num, by omega, HPN, HL, HMx, HOx, HGx, HBx⟩
     | false =>
      have HC := Lib.hid (HF.out M1 k (B + 1) wr hk (HGx.out.mono fun _ _ _ => trivial) HMx.out)
      go_wp2_with fail
      refine HC.out.mono ?_
      rintro e wy ⟨he, hby⟩
      subst he
      have HMy := Lib.hid (HMx.out.under hby HMx.out.lt)
      have HOy := Lib.hid (HOx.out.under hby HOx.out.lt)
      have HGy := Lib.hid (HGx.out.below hby)
      have HBy := Lib.hid (HBx.out.trans (hby.mono HBx.out.size))
      clear hby HMx HOx HGx HBx g0 g1 g2 g3 g4 gl m0 ml HC
      obtain ⟨r, hr⟩ : ∃ z, (nulB gr) M1 k = z := ⟨_, rfl⟩
      have HRK := Lib.hid hr
      rw [hr]
      clear hr
      cases r with
      | false =>
       have HPN := Lib.hid (show passB (nulB gr) nn 0 M false = passB (nulB gr) (nn - (k + 1)) (k + 1) M1 z from HP.out.trans (passB_keep hk (by rw [HBK.out, HRK.out]; rfl)))
       go_wp2
       go_roundg j
       case measure => omega
       case rel => exact ⟨k + 1, M1, z, rfl, by go_num, by omega, HPN, HL, HMy, HOy, HGy, HBy⟩
      | true =>
       have HPN := Lib.hid (show passB (nulB gr) nn 0 M false = passB (nulB gr) (nn - (k + 1)) (k + 1) (setB M1 k) true from HP.out.trans (passB_mark hk HBK.out HRK.out))
       have HLN := Lib.hid (show lackB (setB M1 k) nn + (if true = true then 1 else 0) ≤ lackB M nn from by
        have h1 := lackB_set M1 k HBK.out nn
        have h2 := lackB_one M1 k HBK.out nn hk
        rw [if_pos hk] at h1
        have h3 := HL.out
        rw [h1, if_pos rfl]
        omega)
       have m0 : wy.cell? ⟨B + 1, k, none⟩ = some (.bool false) := by rw [HMy.out.cell k, rowB_at M1 nn k hk, HBK.out]
       have f0 : wy.frozen? ⟨B + 1, k, none⟩ = false := HMy.out.thaw k
       have ml := HMy.out.lt
       have hbt : But (fun j => j = B + 1) wy (wy.setCell ⟨B + 1, k, none⟩ (.bool true)) := (But.refl (fun j => j = B + 1) wy).setCell (p := ⟨B + 1, k, none⟩) (fun _ => rfl) _
       have HMz := Lib.hid (show Own (wy.setCell ⟨B + 1, k, none⟩ (.bool true)) (B + 1) 4 (rowB (setB M1 k) nn) from by rw [← rowB_set M1 nn k hk]; exact HMy.out.put k (.bool true))
       have HOz := Lib.hid (HOy.out.but hbt (by show ¬ B = B + 1; omega))
       have HGz := Lib.hid (HGy.out.but hbt (fun j _ hj h => by have := HBE.out; have : j = B + 1 := h; omega))
       have HBz := Lib.hid (HBy.out.trans (hbt.below (B := w.heap.size) HBy.out.size (fun j h => by have := HBE.out; omega)))
       clear hbt
       go_wp2
       go_roundg j
       case measure => omega
       case rel => exact ⟨k + 1, setB M1 k, true, rfl, by go_num, by omega, HPN, HLN, HMz, HOz, HGz, HBz⟩
    ·
     have hk1 : decide ((k : Int) < (nn : Int)) = false := decide_eq_false (by omega)
     have hk2 : decide (k < nn) = false := decide_eq_false hk
     have HP2 := Lib.hid (show passB (nulB gr) nn 0 M false = (M1, z) from HP.out.trans (by rw [show nn - k = 0 by omega]; rfl))
     have HSN := Lib.hid (show RES = if z = true then leastB (nulB gr) nn f M1 else M1 from by
      rw [HS1.out]
      show (match passB (nulB gr) nn 0 M false with
       | (M', true) => leastB (nulB gr) nn f M'
       | (M', false) => M') = _
      rw [HP2.out]
      cases z <;> rfl)
     have HLN := Lib.hid (show z = true → lackB M1 nn < f from fun h => by
      have h1 := HL.out
      have h2 := HL1.out
      rw [if_pos h] at h1
      omega)
     go_wp2
     go_roundg f
     case measure => omega
     case rel => exact ⟨M1, z, rfl, HSN, HLN, HMx, HOx, HGx, HBx⟩
set_option maxRecDepth 1000000 in
set_option maxHeartbeats 1600000 in
theorem snull_any (gr : Gj) (a : Gv) (hg : Good gr) (w : World) (hG : HasG w gr a) : Calls Try.prog 21 #[grv gr a] w (BoE gr (nulG gr) w) := by
 have HB1 := Lib.hid (show Below w.heap.size w (w.alloc (.cells #[.slice a.mo gr.ms.length a.mc, .slice a.no gr.ns.length a.nc, .slice a.ho gr.hs.length a.hc, .slice a.wo gr.ws.length a.wc, .int .i64 gr.st] 27)) from (Below.refl _ _).alloc (Nat.le_refl _) _)
 have HO1 := Lib.hid (Own.fresh w 27 [.slice a.mo gr.ms.length a.mc, .slice a.no gr.ns.length a.nc, .slice a.ho gr.hs.length a.hc, .slice a.wo gr.ws.length a.wc, .int .i64 gr.st])
 have HL := Lib.hid (sleast_f gr a hg (w.alloc (.cells #[.slice a.mo gr.ms.length a.mc, .slice a.no gr.ns.length a.nc, .slice a.ho gr.hs.length a.hc, .slice a.wo gr.ws.length a.wc, .int .i64 gr.st] 27)) (hG.below HB1.out))
 unfold grv
 unfold grv at HL
 obtain ⟨B, hB⟩ : ∃ B, w.heap.size = B := ⟨_, rfl⟩
 rw [hB] at HO1
 have HBE := Lib.hid hB
 clear hg hG
 go_enter Try.func21, Try.ntmps21
 go_upto_region 1 with fail
 generalize w.alloc (.cells #[.slice a.mo gr.ms.length a.mc, .slice a.no gr.ns.length a.nc, .slice a.ho gr.hs.length a.hc, .slice a.wo gr.ws.length a.wc, .int .i64 gr.st] 27) = w1 at *
 try rw [hB]
 clear hB
 have g0 := HO1.out.cell 0
 have g1 := HO1.out.cell 1
 have g2 := HO1.out.cell 2
 have g3 := HO1.out.cell 3
 have g4 := HO1.out.cell 4
 have gl := HO1.out.lt
 simp only [List.getElem?_cons_zero, List.getElem?_cons_succ] at g0 g1 g2 g3 g4
 go_wp2_with fail
 refine HL.out.mono ?_
 rintro e w2 ⟨g, he, hO, hgs, hb⟩
 subst he
 have HO := Lib.hid hO
 have HB2 := Lib.hid (HB1.out.trans (hb.mono HB1.out.size))
 have HGS := Lib.hid (show w.heap.size ≤ g from Nat.le_trans HB1.out.size hgs)
 clear hO hb hgs g0 g1 g2 g3 g4 gl
 go_wp2
 go_ret
 exact ⟨g, rfl, HO.out, HGS.out, HB2.out⟩
set_option maxRecDepth 1000000 in
set_option maxHeartbeats 1600000 in
theorem same_any (M : Nat → Bool) (N g h : Nat) (hN : N ≤ 160) (w : World) (hm : Own w g 4 (rowB M N)) (hh : Own w h 4 (rowB M N)) :
  Calls Try.prog 15 #[.slice (some ⟨g, 0, none⟩) N N, .slice (some ⟨h, 0, none⟩) N N] w fun e w' => e = .returned (.bool true) ∧ Below w.heap.size w w' := by
 have HM := Lib.hid hm
 have HH := Lib.hid hh
 have HB0 := Lib.hid (Below.refl w.heap.size w)
 clear hm hh
 have hNi : (N : Int) ≤ 160 := by omega
 go_enter Try.func15, Try.ntmps15
 go_wp2_with fail
 go_loopw [5] (fun v5 wr => ∃ k : Nat, v5 = .int .i64 (k : Int) ∧ (k : Int) ≤ N ∧ Hid (Below w.heap.size w wr)) (fun v5 _ => N - (intOf v5).toNat)
 case atStart => exact ⟨0, rfl, by omega, HB0⟩
 case round =>
  obtain ⟨k, rfl, hk, HB⟩ := hrel
  by_cases hkn : (k : Int) < N
  ·
   have hkn1 : decide ((k : Int) < N) = true := decide_eq_true hkn
   have hkn2 : decide (k < N) = true := decide_eq_true (by omega)
   have HMr := Lib.hid (HM.out.under HB.out HM.out.lt)
   have HHr := Lib.hid (HH.out.under HB.out HH.out.lt)
   have m0 : wr.cell? ⟨g, k, none⟩ = some (.bool (M k)) := by rw [HMr.out.cell k]; exact rowB_at M N k (by omega)
   have h0 : wr.cell? ⟨h, k, none⟩ = some (.bool (M k)) := by rw [HHr.out.cell k]; exact rowB_at M N k (by omega)
   have ml := HMr.out.lt
   have hl := HHr.out.lt
   have hw1 : IntKind.i64.wrap ((k : Int) + 1) = (k : Int) + 1 := by rw [IntKind.wrap_i64]; omega
   obtain ⟨z, hz⟩ : ∃ z, M k = z := ⟨_, rfl⟩
   rw [hz] at m0 h0
   clear hz
   cases z
   all_goals
    go_wp2_with fail
    go_quiet (fail)
    have HBn := Lib.hid (below_drewN HB.out nq)
    go_wp2
    go_roundw
    case rel => exact ⟨k + 1, by go_num, by omega, HBn⟩
    case measure => simp [intOf]; omega
  ·
   have hkn1 : decide ((k : Int) < N) = false := decide_eq_false hkn
   have hkn2 : decide (k < N) = false := decide_eq_false (by omega)
   go_wp2
   go_ret
   exact ⟨rfl, HB.out⟩
end Go.Proofs.Ytbjgojdpfehnmaa
