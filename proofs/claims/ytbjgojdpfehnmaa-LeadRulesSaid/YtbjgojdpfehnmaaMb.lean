/- What a sea may lead, by the marks of others: the program's, walked. What a sea may lead: the program's, walked. -/
import Derived.Test.YtbjgojdpfehnmaaMa
import Derived.Test.YtbjgojdpfehnmaaId
import Derived.Deep.LoopGhost
import Derived.Deep.CutBlock
namespace Go.Proofs.Ytbjgojdpfehnmaa
set_option linter.unusedVariables false
open Go.RowKit Go.Sort
theorem op_five (o : Int) : o = 13 ∨ o = 9 ∨ o = 10 ∨ o = 11 ∨ o = 4 ∨ ((o == 13) = false ∧ (o == 9) = false ∧ (o == 10) = false ∧ (o == 11) = false ∧ (o == 4) = false) := by
 simp only [beq_eq_false_iff_ne]; omega
theorem HasKn.take {w : World} {R : Nat → Prop} {ao : Option Addr} {L : List Nat} (h : HasKn w R ao L) (m : Nat) : HasKn w R ao (L.take m) := fun k x hx => by
 rw [List.getElem?_take] at hx
 split at hx
 ·
  exact h k x hx
 ·
  cases hx
theorem frontL_pre (NU : Nat → Bool) : ∀ (L : List Nat), frontL NU L = L.take (frontL NU L).length
 | [] => rfl
 | k :: r => by
  unfold frontL
  split
  ·
   rw [List.length_cons, List.take_succ_cons, ← frontL_pre NU r]
  ·
   rfl
set_option maxRecDepth 1000000 in
set_option maxHeartbeats 1600000 in
theorem lone_any (M : Nat → Bool) (N g : Nat) (hN : N ≤ 160) (L : List Nat) (R : Nat → Prop) (ao : Option Addr) (c : Nat) (hL : ∀ k ∈ L, k < N) (h9 : L.length ≤ 90001) (w : World) (hm : Own w g 4 (rowB M N)) (hk : HasKn w R ao L) :
  Calls Try.prog 56 #[.slice (some ⟨g, 0, none⟩) N N, .slice ao L.length c] w fun e w' => e = .returned (.bool (L.any M)) ∧ w' = w := by
 have HL := Lib.hid hL
 have HM := Lib.hid hm
 have HK := Lib.hid hk
 obtain ⟨n, hn⟩ : ∃ z, L.length = z := ⟨_, rfl⟩
 have HN := Lib.hid hn
 obtain ⟨RES, hRES⟩ : ∃ z, L.any M = z := ⟨_, rfl⟩
 have HRES := Lib.hid hRES
 rw [hn] at h9
 rw [hRES, hn]
 clear hL hm hk hn hRES
 go_enter Try.func56, Try.ntmps56
 go_wp2_with fail
 go_loopw [9] (fun v9 wr => ∃ k : Nat, v9 = .int .i64 (k : Int) ∧ (k : Int) ≤ n ∧ Hid ((L.take k).any M = false) ∧ wr = w) (fun v9 _ => n - (intOf v9).toNat)
 case atStart => exact ⟨0, rfl, by omega, Lib.hid rfl, (by first | trivial | rfl)⟩
 case round =>
  obtain ⟨k, rfl, hk, HA, rfl⟩ := hrel
  by_cases hkn : (k : Int) < n
  ·
   have hkn1 : decide ((k : Int) < n) = true := decide_eq_true hkn
   have hkn2 : decide (k < n) = true := decide_eq_true (by omega)
   obtain ⟨x, hx⟩ : ∃ x, L[k]? = some x := ⟨_, List.getElem?_eq_getElem (by have := HN.out; omega)⟩
   obtain ⟨b, off, hao, hb, -, c0⟩ := HK.out k x hx
   have hxN := HL.out x (List.mem_of_getElem? hx)
   have HX := Lib.hid hx
   have m0 : wr.cell? ⟨g, x, none⟩ = some (.bool (M x)) := by rw [HM.out.cell x]; exact rowB_at M N x hxN
   have hgl := HM.out.lt
   have hx1 : decide ((x : Int) < (N : Int)) = true := decide_eq_true (by omega)
   have hx2 : decide (x < N) = true := decide_eq_true hxN
   have hw1 : IntKind.i64.wrap ((k : Int) + 1) = (k : Int) + 1 := by rw [IntKind.wrap_i64]; omega
   obtain ⟨z, hz⟩ : ∃ z, M x = z := ⟨_, rfl⟩
   have HZ := Lib.hid hz
   rw [hz] at m0
   subst hao
   clear hx hz
   cases z with
   | true =>
    have HE := Lib.hid (show RES = true from by rw [← HRES.out]; exact gany_yes HX.out HZ.out)
    go_wp2
    go_ret
    rw [HE.out]
    exact ⟨rfl, rfl⟩
   | false =>
    have HA1 := Lib.hid (show (L.take (k + 1)).any M = false from by rw [gany_snoc HX.out, HA.out, HZ.out]; rfl)
    go_wp2
    go_roundw
    case rel => exact ⟨k + 1, by go_num, by omega, HA1, (by first | trivial | rfl)⟩
    case measure => simp [intOf]; omega
  ·
   have hkn1 : decide ((k : Int) < n) = false := decide_eq_false hkn
   have hkn2 : decide (k < n) = false := decide_eq_false (by omega)
   have HE := Lib.hid (show RES = false from by rw [← HRES.out, ← HA.out, List.take_of_length_le (by have := HN.out; omega)])
   go_wp2
   go_ret
   rw [HE.out]
   exact ⟨rfl, rfl⟩
set_option maxRecDepth 1000000 in
set_option maxHeartbeats 1600000 in
theorem lfront_any (M : Nat → Bool) (N g : Nat) (hN : N ≤ 160) (L : List Nat) (R : Nat → Prop) (ao : Option Addr) (c : Nat) (hc : L.length ≤ c) (hL : ∀ k ∈ L, k < N) (h9 : L.length ≤ 90001) (w : World) (hm : Own w g 4 (rowB M N)) (hk : HasKn w R ao L) :
  Calls Try.prog 54 #[.slice (some ⟨g, 0, none⟩) N N, .slice ao L.length c] w fun e w' => e = .returned (.slice ao (frontL M L).length c) ∧ w' = w := by
 have HL := Lib.hid hL
 have HM := Lib.hid hm
 have HK := Lib.hid hk
 obtain ⟨n, hn⟩ : ∃ z, L.length = z := ⟨_, rfl⟩
 have HN := Lib.hid hn
 obtain ⟨RES, hRES⟩ : ∃ z, (frontL M L).length = z := ⟨_, rfl⟩
 have HRES := Lib.hid hRES
 rw [hn] at h9 hc
 rw [hRES, hn]
 clear hL hm hk hn hRES
 go_enter Try.func54, Try.ntmps54
 go_wp2_with fail
 go_loopw [9] (fun v9 wr => ∃ k : Nat, v9 = .int .i64 (k : Int) ∧ (k : Int) ≤ n ∧ Hid (∀ (j y : Nat), j < k → L[j]? = some y → M y = true) ∧ wr = w) (fun v9 _ => n - (intOf v9).toNat)
 case atStart => exact ⟨0, rfl, by omega, Lib.hid (fun j y hj => by omega), (by first | trivial | rfl)⟩
 case round =>
  obtain ⟨k, rfl, hk, HA, rfl⟩ := hrel
  by_cases hkn : (k : Int) < n
  ·
   have hkn1 : decide ((k : Int) < n) = true := decide_eq_true hkn
   have hkn2 : decide (k < n) = true := decide_eq_true (by omega)
   obtain ⟨x, hx⟩ : ∃ x, L[k]? = some x := ⟨_, List.getElem?_eq_getElem (by have := HN.out; omega)⟩
   obtain ⟨b, off, hao, hb, -, c0⟩ := HK.out k x hx
   have hxN := HL.out x (List.mem_of_getElem? hx)
   have HX := Lib.hid hx
   have m0 : wr.cell? ⟨g, x, none⟩ = some (.bool (M x)) := by rw [HM.out.cell x]; exact rowB_at M N x hxN
   have hgl := HM.out.lt
   have hx1 : decide ((x : Int) < (N : Int)) = true := decide_eq_true (by omega)
   have hx2 : decide (x < N) = true := decide_eq_true hxN
   have hw1 : IntKind.i64.wrap ((k : Int) + 1) = (k : Int) + 1 := by rw [IntKind.wrap_i64]; omega
   obtain ⟨z, hz⟩ : ∃ z, M x = z := ⟨_, rfl⟩
   have HZ := Lib.hid hz
   rw [hz] at m0
   subst hao
   clear hx hz
   cases z with
   | false =>
    have HE := Lib.hid (show RES = k + 1 from by rw [← HRES.out, frontL_take M L k x HX.out HZ.out HA.out, List.length_take]; have := HN.out; omega)
    have hkc : (k : Int) + 1 ≤ (c : Int) := by omega
    have hkc2 : k + 1 ≤ c := by omega
    go_wp2
    go_ret
    rw [HE.out]
    exact ⟨rfl, rfl⟩
   | true =>
    have HA1 := Lib.hid (show ∀ (j y : Nat), j < k + 1 → L[j]? = some y → M y = true from fun j y hj hy => by
     by_cases e : j = k
     ·
      subst e; rw [HX.out] at hy; injection hy with hy; subst hy; exact HZ.out
     ·
      exact HA.out j y (by omega) hy)
    go_wp2
    go_roundw
    case rel => exact ⟨k + 1, by go_num, by omega, HA1, (by first | trivial | rfl)⟩
    case measure => simp [intOf]; omega
  ·
   have hkn1 : decide ((k : Int) < n) = false := decide_eq_false hkn
   have hkn2 : decide (k < n) = false := decide_eq_false (by omega)
   have HE := Lib.hid (show RES = n from by
    rw [← HRES.out, frontL_all M L (fun j y hy => HA.out j y (by have := (List.getElem?_eq_some_iff.1 hy).1; have := HN.out; omega) hy), HN.out])
   go_wp2
   go_ret
   rw [HE.out]
   exact ⟨rfl, rfl⟩
set_option maxRecDepth 1000000 in
set_option maxHeartbeats 9600000 in
theorem lsea_any (gr : Gj) (a : Gv) (hg : Good gr) (NU M : Nat → Bool) (n u g : Nat) (hn : n < gr.ns.length) (w : World) (hG : HasG w gr a) (hu : Own w u 4 (rowB NU gr.ns.length)) (hm : Own w g 4 (rowB M gr.ns.length)) :
  Calls Try.prog 34 #[grv gr a, .slice (some ⟨u, 0, none⟩) gr.ns.length gr.ns.length, .slice (some ⟨g, 0, none⟩) gr.ns.length gr.ns.length, .int .i64 (n : Int)] w fun e w' => e = .returned (.bool (ledB gr NU M n)) ∧ Below w.heap.size w w' := by
 obtain ⟨x, hx⟩ : ∃ x, gr.ns[n]? = some x := ⟨_, List.getElem?_eq_getElem hn⟩
 have HRU := Lib.hid (show ledB gr NU M n = (if x.op = 13 then true else if x.op = 9 ∨ x.op = 10 then false else if x.op = 11 then M (bodyG gr n) else if x.op = 4 then (frontL NU x.ks).any M else x.ks.any M) from by unfold ledB; rw [hx])
 have HB1 := Lib.hid (show Below w.heap.size w (w.alloc (.cells #[.slice a.mo gr.ms.length a.mc, .slice a.no gr.ns.length a.nc, .slice a.ho gr.hs.length a.hc, .slice a.wo gr.ws.length a.wc, .int .i64 gr.st] 27)) from (Below.refl _ _).alloc (Nat.le_refl _) _)
 have HO1 := Lib.hid (Own.fresh w 27 [.slice a.mo gr.ms.length a.mc, .slice a.no gr.ns.length a.nc, .slice a.ho gr.hs.length a.hc, .slice a.wo gr.ws.length a.wc, .int .i64 gr.st])
 have HM1 := Lib.hid (hm.under HB1.out hm.lt)
 have HU1 := Lib.hid (hu.under HB1.out hu.lt)
 have HG1 := Lib.hid (hG.below HB1.out)
 obtain ⟨b, off, ko, kc, hno, hb, hcap, c0, c1, c2, c3, c4, c5, c6, c7, c8, c9, hk⟩ := HG1.out.1 n x hx
 have HK1 := Lib.hid hk
 have HNO := Lib.hid hno
 have HQ := Lib.hid (bodyG_lt hg hn)
 have HON := Lib.hid (fun (W : World) (m : Nat) h1 (h2 : HasKn W (fun _ => True) ko (x.ks.take m)) => lone_any M gr.ns.length g hg.len (x.ks.take m) (fun _ => True) ko kc (fun k hk => hg.kid x (List.mem_of_getElem? hx) k (List.mem_of_mem_take hk)) (Nat.le_trans (by rw [List.length_take]; omega) (hg.kl x (List.mem_of_getElem? hx))) W h1 h2)
 have HFR := Lib.hid (fun W h1 h2 => lfront_any NU gr.ns.length u hg.len x.ks (fun _ => True) ko kc hcap.2 (hg.kid x (List.mem_of_getElem? hx)) (hg.kl x (List.mem_of_getElem? hx)) W h1 h2)
 have HBO := Lib.hid (fun W h => ebody_any gr a hg n hn W h)
 clear hno hk
 unfold grv
 unfold grv at HBO
 obtain ⟨RES, hRES⟩ : ∃ z, ledB gr NU M n = z := ⟨_, rfl⟩
 obtain ⟨nn, hnn⟩ : ∃ z, gr.ns.length = z := ⟨_, rfl⟩
 obtain ⟨nh, hnh⟩ : ∃ z, gr.hs.length = z := ⟨_, rfl⟩
 obtain ⟨nms, hnms⟩ : ∃ z, gr.ms.length = z := ⟨_, rfl⟩
 obtain ⟨nw, hnw⟩ : ∃ z, gr.ws.length = z := ⟨_, rfl⟩
 obtain ⟨nk, hnk⟩ : ∃ z, x.ks.length = z := ⟨_, rfl⟩
 have HNK := Lib.hid hnk
 obtain ⟨op, hop⟩ : ∃ z, x.op = z := ⟨_, rfl⟩
 obtain ⟨q, hq⟩ : ∃ z, bodyG gr n = z := ⟨_, rfl⟩
 have hn160 : nn ≤ 160 := by rw [← hnn]; exact hg.len
 rw [hnn] at hn
 rw [hRES, hop, hq] at HRU
 rw [hq, hnn] at HQ
 rw [hnn] at HON
 rw [hnk, hnn] at HFR
 rw [hnn, hnh, hnms, hnw, hq] at HBO
 rw [hnn, hnh, hnms, hnw] at HB1 HO1 HM1 HU1 HG1 HK1 c0 c1 c2 c3 c4 c5 c6 c7 c8 c9 hb
 rw [hnk] at c6
 rw [hop] at c0
 rw [hRES, hnn, hnh, hnms, hnw]
 have hn1 : decide ((n : Int) < (nn : Int)) = true := decide_eq_true (by omega)
 have hn2 : decide (n < nn) = true := decide_eq_true hn
 obtain ⟨B, hB⟩ : ∃ B, w.heap.size = B := ⟨_, rfl⟩
 have HW1 := Lib.hid (show (w.alloc (.cells #[.slice a.mo nms a.mc, .slice a.no nn a.nc, .slice a.ho nh a.hc, .slice a.wo nw a.wc, .int .i64 gr.st] 27)).heap.size = B + 1 from by rw [← hB]; simp)
 rw [hB] at HO1
 clear hx hg hG hm hu hcap hRES hnn hnh hnms hnw hnk hop hq
 go_enter Try.func34, Try.ntmps34
 go_upto_region 1 with fail
 generalize w.alloc (.cells #[.slice a.mo nms a.mc, .slice a.no nn a.nc, .slice a.ho nh a.hc, .slice a.wo nw a.wc, .int .i64 gr.st] 27) = w1 at *
 try rw [hB]
 clear hB
 have g0 : w1.cell? ⟨B, 0, none⟩ = some (.slice a.mo nms a.mc) := HO1.out.cell 0
 have g1 : w1.cell? ⟨B, 1, none⟩ = some (.slice a.no nn a.nc) := HO1.out.cell 1
 have g2 : w1.cell? ⟨B, 2, none⟩ = some (.slice a.ho nh a.hc) := HO1.out.cell 2
 have g3 : w1.cell? ⟨B, 3, none⟩ = some (.slice a.wo nw a.wc) := HO1.out.cell 3
 have g4 : w1.cell? ⟨B, 4, none⟩ = some (.int .i64 gr.st) := HO1.out.cell 4
 have gl := HO1.out.lt
 rw [HNO.out] at g1
 have hbl : Below w1.heap.size w1 (w1.alloc (.cells #[.int .i64 op, .string x.tx, .int .u64 x.s0, .int .u64 x.s1, .int .u64 x.s2, .int .u64 x.s3, .slice ko nk kc, .int .i64 x.tg, .int .i64 (x.mo : Int), .int .i64 x.ru] 42)) := (Below.refl _ _).alloc (Nat.le_refl _) _
 have HBL := Lib.hid hbl
 have HB2 := Lib.hid (HB1.out.trans (hbl.mono HB1.out.size))
 have HM2 := Lib.hid (HM1.out.under hbl HM1.out.lt)
 have HU2 := Lib.hid (HU1.out.under hbl HU1.out.lt)
 have HG2 := Lib.hid (HG1.out.below hbl)
 have HK2 := Lib.hid (HK1.out.below hbl)
 have HO2 := Lib.hid (HO1.out.under hbl HO1.out.lt)
 have HN2 := Lib.hid (Own.fresh w1 42 [.int .i64 op, .string x.tx, .int .u64 x.s0, .int .u64 x.s1, .int .u64 x.s2, .int .u64 x.s3, .slice ko nk kc, .int .i64 x.tg, .int .i64 (x.mo : Int), .int .i64 x.ru])
 rw [HW1.out] at HN2
 clear hbl
 go_upto_region 2 with fail
 generalize w1.alloc (.cells #[.int .i64 op, .string x.tx, .int .u64 x.s0, .int .u64 x.s1, .int .u64 x.s2, .int .u64 x.s3, .slice ko nk kc, .int .i64 x.tg, .int .i64 (x.mo : Int), .int .i64 x.ru] 42) = w2 at *
 try rw [HW1.out]
 have y0 : w2.cell? ⟨B + 1, 0, none⟩ = some (.int .i64 op) := HN2.out.cell 0
 have y3 : w2.cell? ⟨B + 1, 6, none⟩ = some (.slice ko nk kc) := HN2.out.cell 6
 have yl := HN2.out.lt
 clear c0 c1 c2 c3 c4 c5 c6 c7 c8 c9 g0 g1 g2 g3 g4 gl hb HO1 HM1 HU1 HG1 HK1 HB1
 rcases op_five op with rfl | rfl | rfl | rfl | rfl | ⟨h13, h9, h10, h11, h4⟩
 ·
  have HE := Lib.hid (show RES = true from by rw [HRU.out]; first | rfl | simp)
  go_wp2
  go_ret
  rw [HE.out]
  exact ⟨rfl, HB2.out⟩
 ·
  have HE := Lib.hid (show RES = false from by rw [HRU.out]; first | rfl | simp)
  go_wp2
  go_ret
  rw [HE.out]
  exact ⟨rfl, HB2.out⟩
 ·
  have HE := Lib.hid (show RES = false from by rw [HRU.out]; first | rfl | simp)
  go_wp2
  go_ret
  rw [HE.out]
  exact ⟨rfl, HB2.out⟩
 ·
  have HE := Lib.hid (show RES = M q from by rw [HRU.out]; first | rfl | simp)
  have d0 : w2.cell? ⟨B, 0, none⟩ = some (.slice a.mo nms a.mc) := HO2.out.cell 0
  have d1 : w2.cell? ⟨B, 1, none⟩ = some (.slice a.no nn a.nc) := HO2.out.cell 1
  have d2 : w2.cell? ⟨B, 2, none⟩ = some (.slice a.ho nh a.hc) := HO2.out.cell 2
  have d3 : w2.cell? ⟨B, 3, none⟩ = some (.slice a.wo nw a.wc) := HO2.out.cell 3
  have d4 : w2.cell? ⟨B, 4, none⟩ = some (.int .i64 gr.st) := HO2.out.cell 4
  have dl := HO2.out.lt
  go_wp2_with fail
  refine (HBO.out w2 HG2.out).mono ?_
  rintro e w3 ⟨he, hb3⟩
  subst he
  have HM3 := Lib.hid (HM2.out.under hb3 HM2.out.lt)
  have HB3 := Lib.hid (HB2.out.trans (hb3.mono HB2.out.size))
  have hqn := HQ.out
  have m0 : w3.cell? ⟨g, q, none⟩ = some (.bool (M q)) := by rw [HM3.out.cell q]; exact rowB_at M nn q hqn
  have ml := HM3.out.lt
  have hq1 : decide ((q : Int) < (nn : Int)) = true := decide_eq_true (by omega)
  have hq2 : decide (q < nn) = true := decide_eq_true hqn
  obtain ⟨z, hz⟩ : ∃ z, M q = z := ⟨_, rfl⟩
  rw [hz] at m0 HE
  clear hb3 hz
  go_wp2
  go_ret
  rw [HE.out]
  exact ⟨rfl, HB3.out⟩
 ·
  have HE := Lib.hid (show RES = (frontL NU x.ks).any M from by rw [HRU.out]; first | rfl | simp)
  go_wp2_with fail
  refine (HFR.out w2 HU2.out HK2.out).mono ?_
  rintro e w3 ⟨he, hw3⟩
  subst he
  subst hw3
  have hq := HON.out w3 (frontL NU x.ks).length HM2.out (HK2.out.take _)
  rw [← frontL_pre] at hq
  have HQ2 := Lib.hid hq
  clear hq
  go_wp2_with fail
  refine HQ2.out.mono ?_
  rintro e w4 ⟨he, hw3⟩
  subst he
  subst hw3
  go_wp2
  go_ret
  rw [HE.out]
  exact ⟨rfl, HB2.out⟩
 ·
  have HE := Lib.hid (show RES = x.ks.any M from by
   simp only [beq_eq_false_iff_ne] at h13 h9 h10 h11 h4
   rw [HRU.out, if_neg h13, if_neg (fun h => h.elim h9 h10), if_neg h11, if_neg h4])
  have hq := HON.out w2 nk HM2.out (HK2.out.take _)
  rw [List.take_of_length_le (by have := HNK.out; omega), HNK.out] at hq
  have HQ2 := Lib.hid hq
  clear hq
  go_wp2_with fail
  refine HQ2.out.mono ?_
  rintro e w4 ⟨he, hw3⟩
  subst he
  subst hw3
  go_wp2
  go_ret
  rw [HE.out]
  exact ⟨rfl, HB2.out⟩
 end Go.Proofs.Ytbjgojdpfehnmaa

namespace Go.Proofs.Ytbjgojdpfehnmaa
set_option linter.unusedVariables false
open Go.RowKit Go.Sort
set_option maxRecDepth 1000000 in
set_option maxHeartbeats 3200000 in
theorem pled_any (gr : Gj) (a : Gv) (hg : Good gr) (w : World) (hG : HasG w gr a) : Calls Try.prog 16 #[grv gr a] w (BoE gr (ledG gr) w) := by
 have HB1 := Lib.hid (show Below w.heap.size w (w.alloc (.cells #[.slice a.mo gr.ms.length a.mc, .slice a.no gr.ns.length a.nc, .slice a.ho gr.hs.length a.hc, .slice a.wo gr.ws.length a.wc, .int .i64 gr.st] 27)) from (Below.refl _ _).alloc (Nat.le_refl _) _)
 have HO1 := Lib.hid (Own.fresh w 27 [.slice a.mo gr.ms.length a.mc, .slice a.no gr.ns.length a.nc, .slice a.ho gr.hs.length a.hc, .slice a.wo gr.ws.length a.wc, .int .i64 gr.st])
 have HG1 := Lib.hid ((hG.mono (T := fun b => b < w.heap.size) (fun _ h _ => h)).below HB1.out)
 have HNU := Lib.hid (fun W h => enull_any gr a hg W h)
 have HF := Lib.hid (fun (M : Nat → Bool) n u g W hn h1 h2 h3 => lsea_any gr a hg (nulG gr) M n u g hn W h1 h2 h3)
 obtain ⟨R, hR⟩ : ∃ R, ledB gr (nulG gr) = R := ⟨_, rfl⟩
 obtain ⟨RES, hRES⟩ : ∃ z, ledG gr = z := ⟨_, rfl⟩
 have HR0 := Lib.hid (show leastB R gr.ns.length (gr.ns.length + 1) (fun _ => false) = RES from by rw [← hR, ← hRES]; rfl)
 unfold BoE
 rw [hRES]
 rw [hR] at HF
 unfold BoE at HNU
 unfold grv
 unfold grv at HNU HF
 obtain ⟨nn, hnn⟩ : ∃ z, gr.ns.length = z := ⟨_, rfl⟩
 obtain ⟨nh, hnh⟩ : ∃ z, gr.hs.length = z := ⟨_, rfl⟩
 obtain ⟨nms, hnms⟩ : ∃ z, gr.ms.length = z := ⟨_, rfl⟩
 obtain ⟨nw, hnw⟩ : ∃ z, gr.ws.length = z := ⟨_, rfl⟩
 have hn160 : (nn : Int) ≤ 160 := by have := hg.len; omega
 rw [hnn] at HR0
 rw [hnn, hnh, hnms, hnw] at HNU HF HB1 HO1 HG1
 rw [hnn, hnh, hnms, hnw]
 obtain ⟨B, hB⟩ : ∃ B, w.heap.size = B := ⟨_, rfl⟩
 have HW1 := Lib.hid (show (w.alloc (.cells #[.slice a.mo nms a.mc, .slice a.no nn a.nc, .slice a.ho nh a.hc, .slice a.wo nw a.wc, .int .i64 gr.st] 27)).heap.size = B + 1 from by rw [← hB]; simp)
 have HBE := Lib.hid hB
 rw [hB] at HO1
 clear hg hG hRES hR hnn hnh hnms hnw
 have hmk : ∀ W : World, (Instr.makeSlice 35 (.int .i64 (nn : Int)) (.int .i64 (nn : Int))).run Try.prog W = .ok (.slice (some ⟨W.heap.size, 0, none⟩) nn nn) (W.alloc (.cells (Array.replicate nn (Value.bool false)) 4)) := fun W => run_boolsE nn (by omega) W
 go_enter Try.func16, Try.ntmps16
 go_upto_region 1 with fail
 generalize w.alloc (.cells #[.slice a.mo nms a.mc, .slice a.no nn a.nc, .slice a.ho nh a.hc, .slice a.wo nw a.wc, .int .i64 gr.st] 27) = w1 at *
 try rw [hB]
 clear hB
 have g0 : w1.cell? ⟨B, 0, none⟩ = some (.slice a.mo nms a.mc) := HO1.out.cell 0
 have g1 : w1.cell? ⟨B, 1, none⟩ = some (.slice a.no nn a.nc) := HO1.out.cell 1
 have g2 : w1.cell? ⟨B, 2, none⟩ = some (.slice a.ho nh a.hc) := HO1.out.cell 2
 have g3 : w1.cell? ⟨B, 3, none⟩ = some (.slice a.wo nw a.wc) := HO1.out.cell 3
 have g4 : w1.cell? ⟨B, 4, none⟩ = some (.int .i64 gr.st) := HO1.out.cell 4
 have gl := HO1.out.lt
 go_wp2_with fail
 refine (HNU.out w1 (HG1.out.mono fun _ _ _ => trivial)).mono ?_
 rintro e w2 ⟨u, he, hu, hul, hb2⟩
 subst he
 have HB2 := Lib.hid (HB1.out.trans (hb2.mono HB1.out.size))
 have HO2 := Lib.hid (HO1.out.under hb2 HO1.out.lt)
 have HG2 := Lib.hid (HG1.out.below hb2)
 have HU2 := Lib.hid hu
 have HUL := Lib.hid (show B + 1 ≤ u from by have := HW1.out; omega)
 clear g0 g1 g2 g3 g4 gl hu hul hb2 HO1 HG1 HB1
 have g1 : w2.cell? ⟨B, 1, none⟩ = some (.slice a.no nn a.nc) := HO2.out.cell 1
 have gl := HO2.out.lt
 have hbl : Below w2.heap.size w2 (w2.alloc (.cells (Array.replicate nn (Value.bool false)) 4)) := (Below.refl _ _).alloc (Nat.le_refl _) _
 have HB3 := Lib.hid (HB2.out.trans (hbl.mono HB2.out.size))
 have HG3 := Lib.hid (HG2.out.below hbl)
 have HO3 := Lib.hid (HO2.out.under hbl HO2.out.lt)
 have HU3 := Lib.hid (HU2.out.under hbl HU2.out.lt)
 have HM3 := Lib.hid (show Own (w2.alloc (.cells (Array.replicate nn (Value.bool false)) 4)) w2.heap.size 4 (rowB (fun _ => false) nn) from by
  rw [rowB_zero, ← List.toArray_replicate]; exact Own.fresh w2 4 _)
 have HU2l := Lib.hid HU2.out.lt
 have HO2l := Lib.hid HO2.out.lt
 clear hbl
 go_upto_region 4 with fail
 obtain ⟨C, hC⟩ : ∃ C, w2.heap.size = C := ⟨_, rfl⟩
 rw [hC] at HM3 HU2l HO2l
 generalize w2.alloc (.cells (Array.replicate nn (Value.bool false)) 4) = w3 at *
 try rw [hC]
 clear hC g1 gl hmk HO2 HG2 HB2 HU2
 go_loopg [5] (nn + 1) (fun f v5 wr => ∃ (M : Nat → Bool) (z : Bool), v5 = .bool z ∧ Hid (RES = if z = true then leastB R nn f M else M) ∧ Hid (z = true → lackB M nn < f) ∧ Hid (Own wr C 4 (rowB M nn)) ∧ Hid (Own wr B 27 [.slice a.mo nms a.mc, .slice a.no nn a.nc, .slice a.ho nh a.hc, .slice a.wo nw a.wc, .int .i64 gr.st]) ∧ Hid (Own wr u 4 (rowB (nulG gr) nn)) ∧ Hid (HasGR wr (fun b => b < w.heap.size) gr a) ∧ Hid (Below w.heap.size w wr))
 case atStart => exact ⟨fun _ => false, true, rfl, Lib.hid (by rw [if_pos rfl]; exact HR0.out.symm), Lib.hid (fun _ => by have := lackB_le (fun _ => false) nn; omega), HM3, HO3, HU3, HG3, HB3⟩
 case round =>
  obtain ⟨M, z, rfl, HS, HLK, HM, HO, HU, HG, HB⟩ := hrel
  cases z with
  | false =>
   have HE := Lib.hid (show RES = M from by rw [HS.out, if_neg (by decide)])
   go_wp2
   go_ret
   exact ⟨C, rfl, by rw [HE.out]; exact HM.out, by have := HBE.out; have := HO2l.out; omega, HB.out⟩
  | true =>
   obtain ⟨f, rfl⟩ : ∃ f, gk = f + 1 := ⟨gk - 1, by have := HLK.out rfl; omega⟩
   have HS1 := Lib.hid (show RES = leastB R nn (f + 1) M from by rw [HS.out, if_pos rfl])
   have HL1 := Lib.hid (HLK.out rfl)
   clear HM3 HO3 HG3 HB3 HU3 HS HLK
   have g1 : wr.cell? ⟨B, 1, none⟩ = some (.slice a.no nn a.nc) := HO.out.cell 1
   have gl := HO.out.lt
   go_wp2_with fail
   go_loopg [5, 17] nn (fun j v5 v17 wx => ∃ (k : Nat) (M1 : Nat → Bool) (z : Bool), v5 = .bool z ∧ v17 = .int .i64 (k : Int) ∧ k + j = nn ∧ Hid (passB R nn 0 M false = passB R (nn - k) k M1 z) ∧ Hid (lackB M1 nn + (if z = true then 1 else 0) ≤ lackB M nn) ∧ Hid (Own wx C 4 (rowB M1 nn)) ∧ Hid (Own wx B 27 [.slice a.mo nms a.mc, .slice a.no nn a.nc, .slice a.ho nh a.hc, .slice a.wo nw a.wc, .int .i64 gr.st]) ∧ Hid (Own wx u 4 (rowB (nulG gr) nn)) ∧ Hid (HasGR wx (fun b => b < w.heap.size) gr a) ∧ Hid (Below w.heap.size w wx))
   case atStart => exact ⟨0, M, false, rfl, rfl, by omega, Lib.hid rfl, Lib.hid (Nat.le_refl _), HM, HO, HU, HG, HB⟩
   case round =>
    obtain ⟨k, M1, z, rfl, rfl, hkj, HP, HL, HMx, HOx, HUx, HGx, HBx⟩ := hrel
    clear HM HO HG HB HU g1 gl
    by_cases hk : k < nn
    ·
     obtain ⟨j, rfl⟩ : ∃ j, gk = j + 1 := ⟨gk - 1, by omega⟩
     have hk1 : decide ((k : Int) < (nn : Int)) = true := decide_eq_true (by omega)
     have hk2 : decide (k < nn) = true := decide_eq_true hk
     have hw1 : IntKind.i64.wrap ((k : Int) + 1) = (k : Int) + 1 := by rw [IntKind.wrap_i64]; omega
     have m0 : wr.cell? ⟨C, k, none⟩ = some (.bool (M1 k)) := by rw [HMx.out.cell k]; exact rowB_at M1 nn k hk
     have ml := HMx.out.lt
     have g0 : wr.cell? ⟨B, 0, none⟩ = some (.slice a.mo nms a.mc) := HOx.out.cell 0
     have g1 : wr.cell? ⟨B, 1, none⟩ = some (.slice a.no nn a.nc) := HOx.out.cell 1
     have g2 : wr.cell? ⟨B, 2, none⟩ = some (.slice a.ho nh a.hc) := HOx.out.cell 2
     have g3 : wr.cell? ⟨B, 3, none⟩ = some (.slice a.wo nw a.wc) := HOx.out.cell 3
     have g4 : wr.cell? ⟨B, 4, none⟩ = some (.int .i64 gr.st) := HOx.out.cell 4
     have gl := HOx.out.lt
     obtain ⟨b1, hb1⟩ : ∃ z, M1 k = z := ⟨_, rfl⟩
     have HBK := Lib.hid hb1
     rw [hb1] at m0
     clear hb1
     cases b1 with
     | true =>
      have HPN := Lib.hid (show passB R nn 0 M false = passB R (nn - (k + 1)) (k + 1) M1 z from HP.out.trans (passB_keep hk (by rw [HBK.out]; rfl)))
      go_wp2
      go_roundg j
      case measure => omega
      case rel => exact ⟨k + 1, M1, z, rfl, by go_num, by omega, HPN, HL, HMx, HOx, HUx, HGx, HBx⟩
     | false =>
      have HC := Lib.hid (HF.out M1 k u C wr hk (HGx.out.mono fun _ _ _ => trivial) HUx.out HMx.out)
      go_wp2_with fail
      refine HC.out.mono ?_
      rintro e wy ⟨he, hby⟩
      subst he
      have HMy := Lib.hid (HMx.out.under hby HMx.out.lt)
      have HOy := Lib.hid (HOx.out.under hby HOx.out.lt)
      have HUy := Lib.hid (HUx.out.under hby HUx.out.lt)
      have HGy := Lib.hid (HGx.out.below hby)
      have HBy := Lib.hid (HBx.out.trans (hby.mono HBx.out.size))
      clear hby HMx HOx HUx HGx HBx g0 g1 g2 g3 g4 gl m0 ml HC
      obtain ⟨r, hr⟩ : ∃ z, R M1 k = z := ⟨_, rfl⟩
      have HRK := Lib.hid hr
      rw [hr]
      clear hr
      cases r with
      | false =>
       have HPN := Lib.hid (show passB R nn 0 M false = passB R (nn - (k + 1)) (k + 1) M1 z from HP.out.trans (passB_keep hk (by rw [HBK.out, HRK.out]; rfl)))
       go_wp2
       go_roundg j
       case measure => omega
       case rel => exact ⟨k + 1, M1, z, rfl, by go_num, by omega, HPN, HL, HMy, HOy, HUy, HGy, HBy⟩
      | true =>
       have HPN := Lib.hid (show passB R nn 0 M false = passB R (nn - (k + 1)) (k + 1) (setB M1 k) true from HP.out.trans (passB_mark hk HBK.out HRK.out))
       have HLN := Lib.hid (show lackB (setB M1 k) nn + (if true = true then 1 else 0) ≤ lackB M nn from by
        have h1 := lackB_set M1 k HBK.out nn
        have h2 := lackB_one M1 k HBK.out nn hk
        rw [if_pos hk] at h1
        have h3 := HL.out
        rw [h1, if_pos rfl]
        omega)
       have m0 : wy.cell? ⟨C, k, none⟩ = some (.bool false) := by rw [HMy.out.cell k, rowB_at M1 nn k hk, HBK.out]
       have f0 : wy.frozen? ⟨C, k, none⟩ = false := HMy.out.thaw k
       have ml := HMy.out.lt
       have hbt : But (fun j => j = C) wy (wy.setCell ⟨C, k, none⟩ (.bool true)) := (But.refl (fun j => j = C) wy).setCell (p := ⟨C, k, none⟩) (fun _ => rfl) _
       have HMz := Lib.hid (show Own (wy.setCell ⟨C, k, none⟩ (.bool true)) C 4 (rowB (setB M1 k) nn) from by rw [← rowB_set M1 nn k hk]; exact HMy.out.put k (.bool true))
       have HOz := Lib.hid (HOy.out.but hbt (by have := HO2l.out; show ¬ B = C; omega))
       have HUz := Lib.hid (HUy.out.but hbt (by have := HU2l.out; show ¬ u = C; omega))
       have HGz := Lib.hid (HGy.out.but hbt (fun j _ hj h => by have := HBE.out; have := HO2l.out; have : j = C := h; omega))
       have HBz := Lib.hid (HBy.out.trans (hbt.below (B := w.heap.size) HBy.out.size (fun j h => by have := HBE.out; have := HO2l.out; omega)))
       clear hbt
       go_wp2
       go_roundg j
       case measure => omega
       case rel => exact ⟨k + 1, setB M1 k, true, rfl, by go_num, by omega, HPN, HLN, HMz, HOz, HUz, HGz, HBz⟩
    ·
     have hk1 : decide ((k : Int) < (nn : Int)) = false := decide_eq_false (by omega)
     have hk2 : decide (k < nn) = false := decide_eq_false hk
     have HP2 := Lib.hid (show passB R nn 0 M false = (M1, z) from HP.out.trans (by rw [show nn - k = 0 by omega]; rfl))
     have HSN := Lib.hid (show RES = if z = true then leastB R nn f M1 else M1 from by
      rw [HS1.out]
      show (match passB R nn 0 M false with
       | (M', true) => leastB R nn f M'
       | (M', false) => M') = _
      rw [HP2.out]
      cases z <;> rfl)
     have HLN := Lib.hid (show z = true → lackB M1 nn < f from fun h => by
      have h1 := HL.out
      have h2 := HL1.out
      rw [if_pos h] at h1
      omega)
     go_wp2
     go_roundg f
     case measure => omega
     case rel => exact ⟨M1, z, rfl, HSN, HLN, HMx, HOx, HUx, HGx, HBx⟩
end Go.Proofs.Ytbjgojdpfehnmaa
