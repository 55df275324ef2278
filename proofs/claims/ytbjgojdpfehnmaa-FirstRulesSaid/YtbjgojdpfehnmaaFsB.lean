/- First bytes of a node, by those of others: the program's, walked. -/
import Derived.Test.YtbjgojdpfehnmaaFsA
import Derived.Test.YtbjgojdpfehnmaaId
import Derived.Test.YtbjgojdpfehnmaaHf
import Derived.Test.YtbjgojdpfehnmaaHi
import Derived.Test.YtbjgojdpfehnmaaHy
import Derived.Test.YtbjgojdpfehnmaaHv
import Derived.Deep.CutBlock
namespace Go.Proofs.Ytbjgojdpfehnmaa
set_option linter.unusedVariables false
open Go.RowKit Go.Sort
def setV (s : Set4) : Value := .agg #[.int .u64 (s.1 : Int), .int .u64 (s.2.1 : Int), .int .u64 (s.2.2.1 : Int), .int .u64 (s.2.2.2 : Int)]
/-- What a walk asks of a grammar for first bytes. -/
structure Gst (gr : Gj) : Prop where
 good : Good gr
 sets : SetG gr
 text : ∀ x ∈ gr.ns, x.op = 1 → 0 < x.tx.size
theorem ors_any (x y : Set4) (hx : fits x) (hy : fits y) (w : World) : Calls Try.prog 63 #[setV x, setV y] w fun e w' => e = .returned (setV (orS x y)) ∧ Below w.heap.size w w' := or_any _ _ _ _ _ _ _ _ hx.1 hx.2.1 hx.2.2.1 hx.2.2.2 hy.1 hy.2.1 hy.2.2.1 hy.2.2.2 w
theorem lit_any (t : ByteArray) (ht : 0 < t.size) (w : World) : Calls Try.prog 61 #[.agg #[.int .u64 0, .int .u64 0, .int .u64 0, .int .u64 0], .int .u8 ((t[0].toNat : Nat) : Int)] w fun e w' => e = .returned (setV (litS t)) ∧ Below w.heap.size w w' := by
 have hb : (byt t 0).toNat = t[0].toNat := by rw [byt_get ht]; simp
 have h := with_any 0 0 0 0 t[0].toNat (UInt8.toNat_lt _) (by decide) (by decide) (by decide) (by decide) w
 unfold litS
 rw [hb]
 exact h
theorem rowW_full0 : rowW 0 0 256 = 18446744073709551615 := by kernel_rfl
theorem rowW_full1 : rowW 1 0 256 = 18446744073709551615 := by kernel_rfl
theorem rowW_full2 : rowW 2 0 256 = 18446744073709551615 := by kernel_rfl
theorem rowW_full3 : rowW 3 0 256 = 18446744073709551615 := by kernel_rfl
theorem full_any (w : World) : Calls Try.prog 62 #[.int .u8 0, .int .u8 255] w fun e w' => e = .returned (setV fullS) ∧ Below w.heap.size w w' := by
 have h := range_any 0 255 (by decide) (by decide) w
 rw [show (255 : Nat) + 1 = 256 from rfl, rowW_full0, rowW_full1, rowW_full2, rowW_full3] at h
 exact h
theorem orL_stop {cut : Bool} {NU : Nat → Bool} {M : Nat → Set4} {L : List Nat} {i k : Nat} {s : Set4} (h : L[i]? = some k) (hc : (cut && !NU k) = true) : orL cut NU M (L.drop i) s = orS s (M k) := by
 obtain ⟨h1, h2⟩ := List.getElem?_eq_some_iff.1 h
 rw [List.drop_eq_getElem_cons h1, h2, orL]
 exact if_pos hc
theorem orL_go {cut : Bool} {NU : Nat → Bool} {M : Nat → Set4} {L : List Nat} {i k : Nat} {s : Set4} (h : L[i]? = some k) (hc : (cut && !NU k) = false) : orL cut NU M (L.drop i) s = orL cut NU M (L.drop (i + 1)) (orS s (M k)) := by
 obtain ⟨h1, h2⟩ := List.getElem?_eq_some_iff.1 h
 rw [List.drop_eq_getElem_cons h1, h2, orL]
 exact if_neg (by rw [hc]; decide)
theorem op_few (o : Int) : o = 1 ∨ o = 2 ∨ o = 3 ∨ o = 11 ∨ o = 9 ∨ o = 10 ∨ o = 13 ∨ o = 4 ∨ ((o == 1) = false ∧ (o == 2) = false ∧ (o == 3) = false ∧ (o == 11) = false ∧ (o == 9) = false ∧ (o == 10) = false ∧ (o == 13) = false ∧ (o == 4) = false) := by
 simp only [beq_eq_false_iff_ne]; omega
theorem op_sev (o : Int) : o = 1 ∨ o = 2 ∨ o = 3 ∨ o = 11 ∨ o = 9 ∨ o = 10 ∨ o = 13 ∨ ((o == 1) = false ∧ (o == 2) = false ∧ (o == 3) = false ∧ (o == 11) = false ∧ (o == 9) = false ∧ (o == 10) = false ∧ (o == 13) = false) := by
 simp only [beq_eq_false_iff_ne]; omega
set_option maxRecDepth 1000000 in
set_option maxHeartbeats 9600000 in
theorem fbeg_any (gr : Gj) (a : Gv) (hg : Gst gr) (NU : Nat → Bool) (M : Nat → Set4) (hM : ∀ j, fits (M j)) (n g h : Nat) (hn : n < gr.ns.length) (w : World) (hG : HasG w gr a) (hu : Own w g 4 (rowB NU gr.ns.length)) (hm : Own w h 40 (rowS M gr.ns.length)) :
  Calls Try.prog 45 #[grv gr a, .slice (some ⟨g, 0, none⟩) gr.ns.length gr.ns.length, .slice (some ⟨h, 0, none⟩) gr.ns.length gr.ns.length, .int .i64 (n : Int)] w fun e w' => e = .returned (setV (begB gr NU M n)) ∧ Below w.heap.size w w' := by
 obtain ⟨x, hx⟩ : ∃ x, gr.ns[n]? = some x := ⟨_, List.getElem?_eq_getElem hn⟩
 have hxm := List.mem_of_getElem? hx
 have HRU := Lib.hid (show begB gr NU M n = (if x.op = 1 then litS x.tx else if x.op = 2 then nodS x else if x.op = 3 ∨ x.op = 13 then fullS else if x.op = 9 ∨ x.op = 10 then set0 else if x.op = 11 then M (bodyG gr n) else orL (x.op == 4) NU M x.ks set0) from by unfold begB; rw [hx])
 have HTX := Lib.hid (hg.text x hxm)
 have HND := Lib.hid (nodS_fits (hg.sets x hxm))
 have HMF := Lib.hid hM
 have HG0 := Lib.hid hG
 have HU0 := Lib.hid hu
 have HM0 := Lib.hid hm
 have HKD := Lib.hid (hg.good.kid x hxm)
 have hbl1 : Below w.heap.size w ((w.alloc (.cells #[.slice a.mo gr.ms.length a.mc, .slice a.no gr.ns.length a.nc, .slice a.ho gr.hs.length a.hc, .slice a.wo gr.ws.length a.wc, .int .i64 gr.st] 27)).alloc (.cells #[.int .u64 0, .int .u64 0, .int .u64 0, .int .u64 0] 40)) := ((Below.refl _ _).alloc (Nat.le_refl _) _).alloc (by simp) _
 have HB1 := Lib.hid hbl1
 have HO1 := Lib.hid ((Own.fresh w 27 [.slice a.mo gr.ms.length a.mc, .slice a.no gr.ns.length a.nc, .slice a.ho gr.hs.length a.hc, .slice a.wo gr.ws.length a.wc, .int .i64 gr.st]).on_alloc (.cells #[.int .u64 0, .int .u64 0, .int .u64 0, .int .u64 0] 40))
 have HR1 := Lib.hid (show Own ((w.alloc (.cells #[.slice a.mo gr.ms.length a.mc, .slice a.no gr.ns.length a.nc, .slice a.ho gr.hs.length a.hc, .slice a.wo gr.ws.length a.wc, .int .i64 gr.st] 27)).alloc (.cells #[.int .u64 0, .int .u64 0, .int .u64 0, .int .u64 0] 40)) (w.heap.size + 1) 40 [.int .u64 0, .int .u64 0, .int .u64 0, .int .u64 0] from Own.fresh' (by simp) _ _)
 obtain ⟨b, off, ko, kc, hno, hb, -, c0, c1, c2, c3, c4, c5, c6, c7, c8, c9, hk⟩ := (hG.below hbl1).1 n x hx
 have HNO := Lib.hid hno
 have HQ := Lib.hid (bodyG_lt hg.good hn)
 have HBO := Lib.hid (fun W h => ebody_any gr a hg.good n hn W h)
 obtain ⟨b0, off0, ko0, kc0, hno0, -, -, -, -, -, -, -, -, e6, -, -, -, hk0⟩ := hG.1 n x hx
 have hkk : ko = ko0 := by
  rw [hno] at hno0
  injection hno0 with hno0
  injection hno0 with e1 e2
  subst e1; subst e2
  have q := (keepc e6 hbl1).symm.trans c6
  injection q with q; injection q with q1
  exact q1.symm
 subst hkk
 have HK0 := Lib.hid hk0
 clear hno hk hno0 e6 hk0 hbl1 hxm
 unfold grv
 unfold grv at HBO
 obtain ⟨RES, hRES⟩ : ∃ z, begB gr NU M n = z := ⟨_, rfl⟩
 obtain ⟨nn, hnn⟩ : ∃ z, gr.ns.length = z := ⟨_, rfl⟩
 obtain ⟨nh, hnh⟩ : ∃ z, gr.hs.length = z := ⟨_, rfl⟩
 obtain ⟨nms, hnms⟩ : ∃ z, gr.ms.length = z := ⟨_, rfl⟩
 obtain ⟨nw, hnw⟩ : ∃ z, gr.ws.length = z := ⟨_, rfl⟩
 obtain ⟨nk, hnk⟩ : ∃ z, x.ks.length = z := ⟨_, rfl⟩
 have HNK := Lib.hid hnk
 obtain ⟨op, hop⟩ : ∃ z, x.op = z := ⟨_, rfl⟩
 obtain ⟨q, hq⟩ : ∃ z, bodyG gr n = z := ⟨_, rfl⟩
 have hn160 : nn ≤ 160 := by rw [← hnn]; exact hg.good.len
 have hk9 : (nk : Int) ≤ 90001 := by have := hg.good.kl x (List.mem_of_getElem? hx); omega
 rw [hnn] at hn
 rw [hRES, hop, hq] at HRU
 rw [hop] at HTX
 rw [hq, hnn] at HQ
 rw [hnn] at HU0 HM0 HKD
 rw [hnn, hnh, hnms, hnw, hq] at HBO
 rw [hnn, hnh, hnms, hnw] at HB1 HO1 HR1 c0 c1 c2 c3 c4 c5 c6 c7 c8 c9 hb
 rw [hnk] at c6
 rw [hop] at c0
 rw [hRES, hnn, hnh, hnms, hnw]
 have hn1 : decide ((n : Int) < (nn : Int)) = true := decide_eq_true (by omega)
 have hn2 : decide (n < nn) = true := decide_eq_true hn
 obtain ⟨B, hB⟩ : ∃ B, w.heap.size = B := ⟨_, rfl⟩
 have HBE := Lib.hid hB
 have HW1 := Lib.hid (show ((w.alloc (.cells #[.slice a.mo nms a.mc, .slice a.no nn a.nc, .slice a.ho nh a.hc, .slice a.wo nw a.wc, .int .i64 gr.st] 27)).alloc (.cells #[.int .u64 0, .int .u64 0, .int .u64 0, .int .u64 0] 40)).heap.size = B + 2 from by rw [← hB]; simp)
 rw [hB] at HO1 HR1
 clear hx hg hG hu hm hM hRES hnn hnh hnms hnw hnk hop hq
 go_enter Try.func45, Try.ntmps45
 go_upto_region 1 with fail
 generalize (w.alloc (.cells #[.slice a.mo nms a.mc, .slice a.no nn a.nc, .slice a.ho nh a.hc, .slice a.wo nw a.wc, .int .i64 gr.st] 27)).alloc (.cells #[.int .u64 0, .int .u64 0, .int .u64 0, .int .u64 0] 40) = w1 at *
 try simp only [World.alloc_size, hB]
 try rw [hB]
 clear hB
 have g0 : w1.cell? ⟨B, 0, none⟩ = some (.slice a.mo nms a.mc) := HO1.out.cell 0
 have g1 : w1.cell? ⟨B, 1, none⟩ = some (.slice a.no nn a.nc) := HO1.out.cell 1
 have gl := HO1.out.lt
 rw [HNO.out] at g1
 have hbl : Below w1.heap.size w1 (w1.alloc (.cells #[.int .i64 op, .string x.tx, .int .u64 x.s0, .int .u64 x.s1, .int .u64 x.s2, .int .u64 x.s3, .slice ko nk kc, .int .i64 x.tg, .int .i64 (x.mo : Int), .int .i64 x.ru] 42)) := (Below.refl _ _).alloc (Nat.le_refl _) _
 have HB2 := Lib.hid (HB1.out.trans (hbl.mono HB1.out.size))
 have HO2 := Lib.hid (HO1.out.under hbl HO1.out.lt)
 have HR2 := Lib.hid (HR1.out.under hbl HR1.out.lt)
 have HN2 := Lib.hid (Own.fresh w1 42 [.int .i64 op, .string x.tx, .int .u64 x.s0, .int .u64 x.s1, .int .u64 x.s2, .int .u64 x.s3, .slice ko nk kc, .int .i64 x.tg, .int .i64 (x.mo : Int), .int .i64 x.ru])
 rw [HW1.out] at HN2
 clear hbl
 go_upto_region 2 with fail
 generalize w1.alloc (.cells #[.int .i64 op, .string x.tx, .int .u64 x.s0, .int .u64 x.s1, .int .u64 x.s2, .int .u64 x.s3, .slice ko nk kc, .int .i64 x.tg, .int .i64 (x.mo : Int), .int .i64 x.ru] 42) = w2 at *
 try rw [HW1.out]
 have y0 : w2.cell? ⟨B + 2, 0, none⟩ = some (.int .i64 op) := HN2.out.cell 0
 have y1 : w2.cell? ⟨B + 2, 1, none⟩ = some (.string x.tx) := HN2.out.cell 1
 have y2 : w2.cell? ⟨B + 2, 2, none⟩ = some (.int .u64 x.s0) := HN2.out.cell 2
 have y3 : w2.cell? ⟨B + 2, 3, none⟩ = some (.int .u64 x.s1) := HN2.out.cell 3
 have y4 : w2.cell? ⟨B + 2, 4, none⟩ = some (.int .u64 x.s2) := HN2.out.cell 4
 have y5 : w2.cell? ⟨B + 2, 5, none⟩ = some (.int .u64 x.s3) := HN2.out.cell 5
 have y6 : w2.cell? ⟨B + 2, 6, none⟩ = some (.slice ko nk kc) := HN2.out.cell 6
 have yl := HN2.out.lt
 have r0 : w2.cell? ⟨B + 1, 0, none⟩ = some (.int .u64 0) := HR2.out.cell 0
 have r1 : w2.cell? ⟨B + 1, 1, none⟩ = some (.int .u64 0) := HR2.out.cell 1
 have r2 : w2.cell? ⟨B + 1, 2, none⟩ = some (.int .u64 0) := HR2.out.cell 2
 have r3 : w2.cell? ⟨B + 1, 3, none⟩ = some (.int .u64 0) := HR2.out.cell 3
 have rl := HR2.out.lt
 clear c0 c1 c2 c3 c4 c5 c6 c7 c8 c9 g0 g1 gl hb HO1 HR1 HB1
 rcases op_sev op with rfl | rfl | rfl | rfl | rfl | rfl | rfl | ⟨h1, h2, h3, h11, h9, h10, h13⟩
 ·
  have ht := HTX.out rfl
  have HE := Lib.hid (show RES = litS x.tx from by rw [HRU.out]; first | rfl | simp)
  have HL := Lib.hid (fun W => lit_any x.tx ht W)
  unfold setV at HL
  go_wp2_with fail
  refine (HL.out _).mono ?_
  rintro e w3 ⟨he, hb3⟩
  subst he
  have HR3 := Lib.hid (HR2.out.under hb3 HR2.out.lt)
  have HB3 := Lib.hid (HB2.out.trans (hb3.mono HB2.out.size))
  clear r0 r1 r2 r3 rl y0 y1 y2 y3 y4 y5 y6 yl hb3
  obtain ⟨r0, r1, r2, r3, r4, r5, r6, r7⟩ := HR3.out.four
  have rl := HR3.out.lt
  generalize litS x.tx = s at *
  go_wp2
  rw [set4_fold]
  have hF := HR3.out.put4 (u0 := .int .u64 (s.1 : Int)) (u1 := .int .u64 (s.2.1 : Int)) (u2 := .int .u64 (s.2.2.1 : Int)) (u3 := .int .u64 (s.2.2.2 : Int))
  have hBB := below_put4 (g := B + 1) HB3.out (by have := HBE.out; omega) (.int .u64 (s.1 : Int)) (.int .u64 (s.2.1 : Int)) (.int .u64 (s.2.2.1 : Int)) (.int .u64 (s.2.2.2 : Int))
  obtain ⟨z0, z1, z2, z3, -⟩ := hF.four
  refine bodyPost_ret (by simp [results, Try.results45, go_sem, z0, z1, z2, z3]; rfl) rfl ?_
  rw [HE.out]
  exact ⟨rfl, hBB⟩
 ·
  have HE := Lib.hid (show RES = nodS x from by rw [HRU.out]; first | rfl | simp)
  rw [HND.out.2.1] at y2
  rw [HND.out.2.2.1] at y3
  rw [HND.out.2.2.2.1] at y4
  rw [HND.out.2.2.2.2] at y5
  generalize nodS x = s at *
  obtain ⟨-, -, -, -, f0, f1, f2, f3⟩ := HR2.out.four
  go_wp2
  rw [set4_fold]
  have hF := HR2.out.put4 (u0 := .int .u64 (s.1 : Int)) (u1 := .int .u64 (s.2.1 : Int)) (u2 := .int .u64 (s.2.2.1 : Int)) (u3 := .int .u64 (s.2.2.2 : Int))
  have hBB := below_put4 (g := B + 1) HB2.out (by have := HBE.out; omega) (.int .u64 (s.1 : Int)) (.int .u64 (s.2.1 : Int)) (.int .u64 (s.2.2.1 : Int)) (.int .u64 (s.2.2.2 : Int))
  obtain ⟨z0, z1, z2, z3, -⟩ := hF.four
  refine bodyPost_ret (by simp [results, Try.results45, go_sem, z0, z1, z2, z3]; rfl) rfl ?_
  rw [HE.out]
  exact ⟨rfl, hBB⟩
 ·
  have HE := Lib.hid (show RES = fullS from by rw [HRU.out]; first | rfl | simp)
  have HL := Lib.hid (fun W => full_any W)
  unfold setV at HL
  generalize fullS = s at *
  go_wp2_with fail
  refine (HL.out _).mono ?_
  rintro e w3 ⟨he, hb3⟩
  subst he
  have HR3 := Lib.hid (HR2.out.under hb3 HR2.out.lt)
  have HB3 := Lib.hid (HB2.out.trans (hb3.mono HB2.out.size))
  clear r0 r1 r2 r3 rl y0 y1 y2 y3 y4 y5 y6 yl hb3
  obtain ⟨r0, r1, r2, r3, r4, r5, r6, r7⟩ := HR3.out.four
  have rl := HR3.out.lt
  go_wp2
  rw [set4_fold]
  have hF := HR3.out.put4 (u0 := .int .u64 (s.1 : Int)) (u1 := .int .u64 (s.2.1 : Int)) (u2 := .int .u64 (s.2.2.1 : Int)) (u3 := .int .u64 (s.2.2.2 : Int))
  have hBB := below_put4 (g := B + 1) HB3.out (by have := HBE.out; omega) (.int .u64 (s.1 : Int)) (.int .u64 (s.2.1 : Int)) (.int .u64 (s.2.2.1 : Int)) (.int .u64 (s.2.2.2 : Int))
  obtain ⟨z0, z1, z2, z3, -⟩ := hF.four
  refine bodyPost_ret (by simp [results, Try.results45, go_sem, z0, z1, z2, z3]; rfl) rfl ?_
  rw [HE.out]
  exact ⟨rfl, hBB⟩
 ·
  have HE := Lib.hid (show RES = M q from by rw [HRU.out]; first | rfl | simp)
  have d0 : w2.cell? ⟨B, 0, none⟩ = some (.slice a.mo nms a.mc) := HO2.out.cell 0
  have d1 : w2.cell? ⟨B, 1, none⟩ = some (.slice a.no nn a.nc) := HO2.out.cell 1
  have d2 : w2.cell? ⟨B, 2, none⟩ = some (.slice a.ho nh a.hc) := HO2.out.cell 2
  have d3 : w2.cell? ⟨B, 3, none⟩ = some (.slice a.wo nw a.wc) := HO2.out.cell 3
  have d4 : w2.cell? ⟨B, 4, none⟩ = some (.int .i64 gr.st) := HO2.out.cell 4
  have dl := HO2.out.lt
  have HG2 := Lib.hid (HG0.out.below HB2.out)
  go_wp2_with fail
  refine (HBO.out w2 HG2.out).mono ?_
  rintro e w3 ⟨he, hb3⟩
  subst he
  have HR3 := Lib.hid (HR2.out.under hb3 HR2.out.lt)
  have HB3 := Lib.hid (HB2.out.trans (hb3.mono HB2.out.size))
  clear r0 r1 r2 r3 rl y0 y1 y2 y3 y4 y5 y6 yl hb3 d0 d1 d2 d3 d4 dl
  obtain ⟨r0, r1, r2, r3, r4, r5, r6, r7⟩ := HR3.out.four
  have rl := HR3.out.lt
  have hqn := HQ.out
  have hHm := HM0.out.under HB3.out HM0.out.lt
  have m0 : w3.cell? ⟨h, q * 4, none⟩ = some (.int .u64 ((M q).1 : Int)) := by rw [hHm.cell]; exact rowS_at M nn q 0 hqn (by decide)
  have m1 : w3.cell? ⟨h, q * 4 + 1, none⟩ = some (.int .u64 ((M q).2.1 : Int)) := by rw [hHm.cell]; exact rowS_at M nn q 1 hqn (by decide)
  have m2 : w3.cell? ⟨h, q * 4 + 2, none⟩ = some (.int .u64 ((M q).2.2.1 : Int)) := by rw [hHm.cell]; exact rowS_at M nn q 2 hqn (by decide)
  have m3 : w3.cell? ⟨h, q * 4 + 3, none⟩ = some (.int .u64 ((M q).2.2.2 : Int)) := by rw [hHm.cell]; exact rowS_at M nn q 3 hqn (by decide)
  have ml := hHm.lt
  have hq1 : decide ((q : Int) < (nn : Int)) = true := decide_eq_true (by omega)
  have hq2 : decide (q < nn) = true := decide_eq_true hqn
  generalize M q = s at *
  clear hHm
  go_wp2
  rw [set4_fold]
  have hF := HR3.out.put4 (u0 := .int .u64 (s.1 : Int)) (u1 := .int .u64 (s.2.1 : Int)) (u2 := .int .u64 (s.2.2.1 : Int)) (u3 := .int .u64 (s.2.2.2 : Int))
  have hBB := below_put4 (g := B + 1) HB3.out (by have := HBE.out; omega) (.int .u64 (s.1 : Int)) (.int .u64 (s.2.1 : Int)) (.int .u64 (s.2.2.1 : Int)) (.int .u64 (s.2.2.2 : Int))
  obtain ⟨z0, z1, z2, z3, -⟩ := hF.four
  refine bodyPost_ret (by simp [results, Try.results45, go_sem, z0, z1, z2, z3]; rfl) rfl ?_
  rw [HE.out]
  exact ⟨rfl, hBB⟩
 ·
  have HE := Lib.hid (show RES = set0 from by rw [HRU.out]; first | rfl | simp)
  obtain ⟨-, -, -, -, f0, f1, f2, f3⟩ := HR2.out.four
  go_wp2
  rw [set4_fold]
  have hF := HR2.out.put4 (u0 := .int .u64 0) (u1 := .int .u64 0) (u2 := .int .u64 0) (u3 := .int .u64 0)
  have hBB := below_put4 (g := B + 1) HB2.out (by have := HBE.out; omega) (.int .u64 0) (.int .u64 0) (.int .u64 0) (.int .u64 0)
  obtain ⟨z0, z1, z2, z3, -⟩ := hF.four
  refine bodyPost_ret (by simp [results, Try.results45, go_sem, z0, z1, z2, z3]; rfl) rfl ?_
  rw [HE.out]
  exact ⟨rfl, hBB⟩
 ·
  have HE := Lib.hid (show RES = set0 from by rw [HRU.out]; first | rfl | simp)
  obtain ⟨-, -, -, -, f0, f1, f2, f3⟩ := HR2.out.four
  go_wp2
  rw [set4_fold]
  have hF := HR2.out.put4 (u0 := .int .u64 0) (u1 := .int .u64 0) (u2 := .int .u64 0) (u3 := .int .u64 0)
  have hBB := below_put4 (g := B + 1) HB2.out (by have := HBE.out; omega) (.int .u64 0) (.int .u64 0) (.int .u64 0) (.int .u64 0)
  obtain ⟨z0, z1, z2, z3, -⟩ := hF.four
  refine bodyPost_ret (by simp [results, Try.results45, go_sem, z0, z1, z2, z3]; rfl) rfl ?_
  rw [HE.out]
  exact ⟨rfl, hBB⟩
 ·
  have HE := Lib.hid (show RES = fullS from by rw [HRU.out]; first | rfl | simp)
  have HL := Lib.hid (fun W => full_any W)
  unfold setV at HL
  generalize fullS = s at *
  go_wp2_with fail
  refine (HL.out _).mono ?_
  rintro e w3 ⟨he, hb3⟩
  subst he
  have HR3 := Lib.hid (HR2.out.under hb3 HR2.out.lt)
  have HB3 := Lib.hid (HB2.out.trans (hb3.mono HB2.out.size))
  clear r0 r1 r2 r3 rl y0 y1 y2 y3 y4 y5 y6 yl hb3
  obtain ⟨r0, r1, r2, r3, r4, r5, r6, r7⟩ := HR3.out.four
  have rl := HR3.out.lt
  go_wp2
  rw [set4_fold]
  have hF := HR3.out.put4 (u0 := .int .u64 (s.1 : Int)) (u1 := .int .u64 (s.2.1 : Int)) (u2 := .int .u64 (s.2.2.1 : Int)) (u3 := .int .u64 (s.2.2.2 : Int))
  have hBB := below_put4 (g := B + 1) HB3.out (by have := HBE.out; omega) (.int .u64 (s.1 : Int)) (.int .u64 (s.2.1 : Int)) (.int .u64 (s.2.2.1 : Int)) (.int .u64 (s.2.2.2 : Int))
  obtain ⟨z0, z1, z2, z3, -⟩ := hF.four
  refine bodyPost_ret (by simp [results, Try.results45, go_sem, z0, z1, z2, z3]; rfl) rfl ?_
  rw [HE.out]
  exact ⟨rfl, hBB⟩
 ·
  have HE0 := Lib.hid (show RES = orL (op == 4) NU M (x.ks.drop 0) set0 from by (rw [HRU.out]; simp only [beq_eq_false_iff_ne] at h1 h2 h3 h11 h9 h10 h13; rw [if_neg h1, if_neg h2, if_neg (fun h => h.elim h3 h13), if_neg (fun h => h.elim h9 h10), if_neg h11]; rfl))
  have hbl : Below w2.heap.size w2 (w2.alloc (.cells #[.int .u64 0, .int .u64 0, .int .u64 0, .int .u64 0] 40)) := (Below.refl _ _).alloc (Nat.le_refl _) _
  have HB3 := Lib.hid (HB2.out.trans (hbl.mono HB2.out.size))
  have HR3 := Lib.hid (HR2.out.under hbl HR2.out.lt)
  have HN3 := Lib.hid (HN2.out.under hbl HN2.out.lt)
  have HS3 := Lib.hid (Own.fresh w2 40 [.int .u64 0, .int .u64 0, .int .u64 0, .int .u64 0])
  clear hbl HRU
  go_upto_region 16 with fail
  obtain ⟨C, hC⟩ : ∃ z, w2.heap.size = z := ⟨_, rfl⟩
  have hCB : B + 2 < C := by rw [← hC]; exact HN2.out.lt
  rw [hC] at HS3
  generalize w2.alloc (.cells #[.int .u64 0, .int .u64 0, .int .u64 0, .int .u64 0] 40) = w3 at *
  try rw [hC]
  clear hC r0 r1 r2 r3 rl y0 y1 y2 y3 y4 y5 y6 yl HO2 HR2 HN2 HB2
  have y0 : w3.cell? ⟨B + 2, 0, none⟩ = some (.int .i64 op) := HN3.out.cell 0
  have y6 : w3.cell? ⟨B + 2, 6, none⟩ = some (.slice ko nk kc) := HN3.out.cell 6
  have yl := HN3.out.lt
  go_wp2_with fail
  go_loopw [50] (fun v50 wr => ∃ (i : Nat) (s : Set4), v50 = .int .i64 (i : Int) ∧ (i : Int) ≤ nk ∧ Hid (RES = orL (op == 4) NU M (x.ks.drop i) s) ∧ Hid (fits s) ∧ Hid (Own wr C 40 (wrdS s)) ∧ Hid (Own wr (B + 1) 40 [.int .u64 0, .int .u64 0, .int .u64 0, .int .u64 0]) ∧ Hid (Own wr (B + 2) 42 [.int .i64 op, .string x.tx, .int .u64 x.s0, .int .u64 x.s1, .int .u64 x.s2, .int .u64 x.s3, .slice ko nk kc, .int .i64 x.tg, .int .i64 (x.mo : Int), .int .i64 x.ru]) ∧ Hid (Below w.heap.size w wr)) (fun v50 _ => nk - (intOf v50).toNat)
  case atStart => exact ⟨0, set0, rfl, by omega, HE0, Lib.hid fits0, HS3, HR3, HN3, HB3⟩
  case round =>
   obtain ⟨i, s, rfl, hi, HE1, HFS, HS, HR, HN, HB⟩ := hrel
   clear y0 y6 yl HS3 HR3 HN3 HB3 HE0
   have y0 : wr.cell? ⟨B + 2, 0, none⟩ = some (.int .i64 op) := HN.out.cell 0
   have y6 : wr.cell? ⟨B + 2, 6, none⟩ = some (.slice ko nk kc) := HN.out.cell 6
   have yl := HN.out.lt
   have s0 : wr.cell? ⟨C, 0, none⟩ = some (.int .u64 (s.1 : Int)) := HS.out.cell 0
   have s1 : wr.cell? ⟨C, 1, none⟩ = some (.int .u64 (s.2.1 : Int)) := HS.out.cell 1
   have s2 : wr.cell? ⟨C, 2, none⟩ = some (.int .u64 (s.2.2.1 : Int)) := HS.out.cell 2
   have s3 : wr.cell? ⟨C, 3, none⟩ = some (.int .u64 (s.2.2.2 : Int)) := HS.out.cell 3
   have sl := HS.out.lt
   by_cases hin : (i : Int) < nk
   ·
    have hi1 : decide ((i : Int) < (nk : Int)) = true := decide_eq_true hin
    have hi2 : decide (i < nk) = true := decide_eq_true (by omega)
    have hw2 : IntKind.i64.wrap ((i : Int) + 1) = (i : Int) + 1 := by rw [IntKind.wrap_i64]; omega
    obtain ⟨k, hk⟩ : ∃ q, x.ks[i]? = some q := ⟨_, List.getElem?_eq_getElem (by have := HNK.out; omega)⟩
    have HKK := Lib.hid hk
    have hkn : k < nn := HKD.out k (List.mem_of_getElem? hk)
    obtain ⟨b2, off2, hko, hb2, -, q0⟩ := HK0.out i k hk
    have q0 := keepc q0 (by have := HBE.out; exact HB.out)
    have hb3 : b2 < wr.heap.size := World.block_lt_of_cell? wr _ q0
    subst hko
    have hHm := HM0.out.under HB.out HM0.out.lt
    have hHu := HU0.out.under HB.out HU0.out.lt
    have m0 : wr.cell? ⟨h, k * 4, none⟩ = some (.int .u64 ((M k).1 : Int)) := by rw [hHm.cell]; exact rowS_at M nn k 0 hkn (by decide)
    have m1 : wr.cell? ⟨h, k * 4 + 1, none⟩ = some (.int .u64 ((M k).2.1 : Int)) := by rw [hHm.cell]; exact rowS_at M nn k 1 hkn (by decide)
    have m2 : wr.cell? ⟨h, k * 4 + 2, none⟩ = some (.int .u64 ((M k).2.2.1 : Int)) := by rw [hHm.cell]; exact rowS_at M nn k 2 hkn (by decide)
    have m3 : wr.cell? ⟨h, k * 4 + 3, none⟩ = some (.int .u64 ((M k).2.2.2 : Int)) := by rw [hHm.cell]; exact rowS_at M nn k 3 hkn (by decide)
    have ml := hHm.lt
    have ul := hHu.lt
    have HU := Lib.hid hHu
    have hk1 : decide ((k : Int) < (nn : Int)) = true := decide_eq_true (by omega)
    have hk2 : decide (k < nn) = true := decide_eq_true hkn
    have HOR := Lib.hid (fun W => ors_any s (M k) HFS.out (HMF.out k) W)
    have HFN := Lib.hid (orS_fits HFS.out (HMF.out k))
    clear hk hHm hHu
    unfold setV at HOR
    go_upto_region 19 with fail
    go_cut [] (fun wx => Hid (Own wx C 40 (wrdS (orS s (M k)))) ∧ Hid (Own wx (B + 1) 40 [.int .u64 0, .int .u64 0, .int .u64 0, .int .u64 0]) ∧ Hid (Own wx (B + 2) 42 [.int .i64 op, .string x.tx, .int .u64 x.s0, .int .u64 x.s1, .int .u64 x.s2, .int .u64 x.s3, .slice (some ⟨b2, off2, none⟩) nk kc, .int .i64 x.tg, .int .i64 (x.mo : Int), .int .i64 x.ru]) ∧ Hid (Below w.heap.size w wx))
    case first =>
     refine wp_region_heldTo (fun Wx => C < Wx.heap.size ∧ Wx.cell? ⟨C, 0, none⟩ = some (.int .u64 (s.1 : Int)) ∧ Wx.cell? ⟨C, 1, none⟩ = some (.int .u64 (s.2.1 : Int)) ∧ Wx.cell? ⟨C, 2, none⟩ = some (.int .u64 (s.2.2.1 : Int)) ∧ Wx.cell? ⟨C, 3, none⟩ = some (.int .u64 (s.2.2.2 : Int)) ∧ h < Wx.heap.size ∧ Wx.cell? ⟨h, k * 4, none⟩ = some (.int .u64 ((M k).1 : Int)) ∧ Wx.cell? ⟨h, k * 4 + 1, none⟩ = some (.int .u64 ((M k).2.1 : Int)) ∧ Wx.cell? ⟨h, k * 4 + 2, none⟩ = some (.int .u64 ((M k).2.2.1 : Int)) ∧ Wx.cell? ⟨h, k * 4 + 3, none⟩ = some (.int .u64 ((M k).2.2.2 : Int))) 6 (by kernel_rfl) ?_
     have HSS := Lib.hid (show C < (World.drew wr).heap.size ∧ (World.drew wr).cell? ⟨C, 0, none⟩ = some (.int .u64 (s.1 : Int)) ∧ (World.drew wr).cell? ⟨C, 1, none⟩ = some (.int .u64 (s.2.1 : Int)) ∧ (World.drew wr).cell? ⟨C, 2, none⟩ = some (.int .u64 (s.2.2.1 : Int)) ∧ (World.drew wr).cell? ⟨C, 3, none⟩ = some (.int .u64 (s.2.2.2 : Int)) ∧ h < (World.drew wr).heap.size ∧ (World.drew wr).cell? ⟨h, k * 4, none⟩ = some (.int .u64 ((M k).1 : Int)) ∧ (World.drew wr).cell? ⟨h, k * 4 + 1, none⟩ = some (.int .u64 ((M k).2.1 : Int)) ∧ (World.drew wr).cell? ⟨h, k * 4 + 2, none⟩ = some (.int .u64 ((M k).2.2.1 : Int)) ∧ (World.drew wr).cell? ⟨h, k * 4 + 3, none⟩ = some (.int .u64 ((M k).2.2.2 : Int)) from ⟨sl, s0, s1, s2, s3, ml, m0, m1, m2, m3⟩)
     clear y0 y6 yl s0 s1 s2 s3 sl q0 m0 m1 m2 m3 ml
     refine heldTo.take (i := 0) (v := ?_) rfl (by kernel_rfl) (by kernel_rfl) (by kernel_rfl) (by kernel_rfl) (fun _ _ _ h => h) (Or.inl ⟨by rfl, ?_⟩) HSS.out ?_
     rotate_left
     ·
      intro Wx hWx
      obtain ⟨q0, q1, q2, q3, q4, q5, q6, q7, q8, q9⟩ := hWx
      go_simp
      try with_reducible rfl
     go_simp
     refine heldTo.take (i := 1) (v := ?_) rfl (by kernel_rfl) (by kernel_rfl) (by kernel_rfl) (by kernel_rfl) (fun _ _ _ h => h) (Or.inl ⟨by rfl, ?_⟩) HSS.out ?_
     rotate_left
     ·
      intro Wx hWx
      obtain ⟨q0, q1, q2, q3, q4, q5, q6, q7, q8, q9⟩ := hWx
      go_simp
      try with_reducible rfl
     go_simp
     refine heldTo.take (i := 2) (v := ?_) rfl (by kernel_rfl) (by kernel_rfl) (by kernel_rfl) (by kernel_rfl) (fun _ _ _ h => h) (Or.inl ⟨by rfl, ?_⟩) HSS.out ?_
     rotate_left
     ·
      intro Wx hWx
      obtain ⟨q0, q1, q2, q3, q4, q5, q6, q7, q8, q9⟩ := hWx
      go_simp
      try with_reducible rfl
     go_simp
     refine heldTo.take (i := 3) (v := ?_) rfl (by kernel_rfl) (by kernel_rfl) (by kernel_rfl) (by kernel_rfl) (fun _ _ _ h => h) (Or.inl ⟨by rfl, ?_⟩) HSS.out ?_
     rotate_left
     ·
      intro Wx hWx
      obtain ⟨q0, q1, q2, q3, q4, q5, q6, q7, q8, q9⟩ := hWx
      go_simp
      try with_reducible rfl
     go_simp
     refine heldTo.take (i := 4) (v := ?_) rfl (by kernel_rfl) (by kernel_rfl) (by kernel_rfl) (by kernel_rfl) (fun _ _ _ h => h) (Or.inl ⟨by rfl, ?_⟩) HSS.out ?_
     rotate_left
     ·
      intro Wx hWx
      obtain ⟨q0, q1, q2, q3, q4, q5, q6, q7, q8, q9⟩ := hWx
      go_simp
      try with_reducible rfl
     go_simp
     refine heldTo.one (i := 5) (by kernel_rfl) (op_call (f := 63) (vs := #[.agg #[.int .u64 (s.1 : Int), .int .u64 (s.2.1 : Int), .int .u64 (s.2.2.1 : Int), .int .u64 (s.2.2.2 : Int)], .agg #[.int .u64 ((M k).1 : Int), .int .u64 ((M k).2.1 : Int), .int .u64 ((M k).2.2.1 : Int), .int .u64 ((M k).2.2.2 : Int)]]) rfl (by kernel_rfl) (by go_simp) ((HOR.out (World.drew wr)).mono ?_))
     rintro e w4 ⟨he, hb4⟩
     refine ⟨_, he, ?_⟩
     have HS4 := Lib.hid (HS.out.on_drew.under hb4 HS.out.lt)
     have HR4 := Lib.hid (HR.out.on_drew.under hb4 HR.out.lt)
     have HN4 := Lib.hid (HN.out.on_drew.under hb4 HN.out.lt)
     have HB4 := Lib.hid (HB.out.drew.trans (hb4.mono HB.out.size))
     have HSN := Lib.hid (show C < w4.heap.size ∧ w4.cell? ⟨C, 0, none⟩ = some (.int .u64 (s.1 : Int)) ∧ w4.cell? ⟨C, 1, none⟩ = some (.int .u64 (s.2.1 : Int)) ∧ w4.cell? ⟨C, 2, none⟩ = some (.int .u64 (s.2.2.1 : Int)) ∧ w4.cell? ⟨C, 3, none⟩ = some (.int .u64 (s.2.2.2 : Int)) ∧ h < w4.heap.size ∧ w4.cell? ⟨h, k * 4, none⟩ = some (.int .u64 ((M k).1 : Int)) ∧ w4.cell? ⟨h, k * 4 + 1, none⟩ = some (.int .u64 ((M k).2.1 : Int)) ∧ w4.cell? ⟨h, k * 4 + 2, none⟩ = some (.int .u64 ((M k).2.2.1 : Int)) ∧ w4.cell? ⟨h, k * 4 + 3, none⟩ = some (.int .u64 ((M k).2.2.2 : Int)) from ⟨HS4.out.lt, keepc HSS.out.2.1 hb4, keepc HSS.out.2.2.1 hb4, keepc HSS.out.2.2.2.1 hb4, keepc HSS.out.2.2.2.2.1 hb4, Nat.lt_of_lt_of_le HSS.out.2.2.2.2.2.1 hb4.size, keepc HSS.out.2.2.2.2.2.2.1 hb4, keepc HSS.out.2.2.2.2.2.2.2.1 hb4, keepc HSS.out.2.2.2.2.2.2.2.2.1 hb4, keepc HSS.out.2.2.2.2.2.2.2.2.2 hb4⟩)
     refine ⟨.inr HSN.out, ?_⟩
     clear HSS hb4
     obtain ⟨t0, t1, t2, t3, f0, f1, f2, f3⟩ := HS4.out.four
     have tl := HS4.out.lt
     go_simp
     refine heldTo.one (i := 6) (by kernel_rfl) (op_store (w' := set4 w4 C (.int .u64 ((orS s (M k)).1 : Int)) (.int .u64 ((orS s (M k)).2.1 : Int)) (.int .u64 ((orS s (M k)).2.2.1 : Int)) (.int .u64 ((orS s (M k)).2.2.2 : Int))) rfl (by kernel_rfl) 40 (.tmp 10) (.tmp 59) rfl _ _ rfl rfl (by go_simp; try rfl) ⟨.inl rfl, ?_⟩)
     refine heldTo.done (by kernel_rfl) ?_ _
     go_simp
     try go_wp2
     go_meet
     exact ⟨Lib.hid HS4.out.put4, Lib.hid (HR4.out.off4 (by omega) _ _ _ _), Lib.hid (HN4.out.off4 (by omega) _ _ _ _), Lib.hid (below_put4 HB4.out (by have := HBE.out; omega) _ _ _ _)⟩
    case rest =>
     obtain ⟨HS5, HR5, HN5, HB5⟩ := hcut
     clear y0 y6 yl s0 s1 s2 s3 sl q0 hb3 m0 m1 m2 m3 ml HOR
     have y0 : wc.cell? ⟨B + 2, 0, none⟩ = some (.int .i64 op) := HN5.out.cell 0
     have yl := HN5.out.lt
     obtain ⟨b4, hb4⟩ : ∃ b, (op == 4) = b := ⟨_, rfl⟩
     cases b4 with
     | false =>
      have HE2 := Lib.hid (show RES = orL (op == 4) NU M (x.ks.drop (i + 1)) (orS s (M k)) from by rw [HE1.out]; exact orL_go HKK.out (by rw [hb4]; rfl))
      go_wp2
      go_roundw
      case rel => exact ⟨i + 1, orS s (M k), by go_num, by omega, HE2, HFN, HS5, HR5, HN5, HB5⟩
      case measure => simp [intOf]; omega
     | true =>
      have hu : wc.cell? ⟨g, k, none⟩ = some (.bool (NU k)) := by rw [(HU0.out.under HB5.out HU0.out.lt).cell k]; exact rowB_at NU nn k hkn
      have hul := (HU0.out.under HB5.out HU0.out.lt).lt
      obtain ⟨z, hz⟩ : ∃ z, NU k = z := ⟨_, rfl⟩
      have HZ := Lib.hid hz
      rw [hz] at hu
      clear hz
      cases z with
      | true =>
       have HE2 := Lib.hid (show RES = orL (op == 4) NU M (x.ks.drop (i + 1)) (orS s (M k)) from by rw [HE1.out]; exact orL_go HKK.out (by rw [hb4, HZ.out]; rfl))
       go_wp2
       go_roundw
       case rel => exact ⟨i + 1, orS s (M k), by go_num, by omega, HE2, HFN, HS5, HR5, HN5, HB5⟩
       case measure => simp [intOf]; omega
      | false =>
       have HE := Lib.hid (show RES = orS s (M k) from by rw [HE1.out]; exact orL_stop HKK.out (by rw [hb4, HZ.out]; rfl))
       generalize orS s (M k) = s9 at *
       obtain ⟨r0, r1, r2, r3, r4, r5, r6, r7⟩ := HR5.out.four
       have rl := HR5.out.lt
       have s0 : wc.cell? ⟨C, 0, none⟩ = some (.int .u64 (s9.1 : Int)) := HS5.out.cell 0
       have s1 : wc.cell? ⟨C, 1, none⟩ = some (.int .u64 (s9.2.1 : Int)) := HS5.out.cell 1
       have s2 : wc.cell? ⟨C, 2, none⟩ = some (.int .u64 (s9.2.2.1 : Int)) := HS5.out.cell 2
       have s3 : wc.cell? ⟨C, 3, none⟩ = some (.int .u64 (s9.2.2.2 : Int)) := HS5.out.cell 3
       have sl := HS5.out.lt
       go_wp2
       rw [set4_fold]
       have hF := HR5.out.put4 (u0 := .int .u64 (s9.1 : Int)) (u1 := .int .u64 (s9.2.1 : Int)) (u2 := .int .u64 (s9.2.2.1 : Int)) (u3 := .int .u64 (s9.2.2.2 : Int))
       have hBB := below_put4 (g := B + 1) HB5.out (by have := HBE.out; omega) (.int .u64 (s9.1 : Int)) (.int .u64 (s9.2.1 : Int)) (.int .u64 (s9.2.2.1 : Int)) (.int .u64 (s9.2.2.2 : Int))
       obtain ⟨z0, z1, z2, z3, -⟩ := hF.four
       refine bodyPost_ret (by simp [results, Try.results45, go_sem, z0, z1, z2, z3]; rfl) rfl ?_
       rw [HE.out]
       exact ⟨rfl, hBB⟩
   ·
    have hi1 : decide ((i : Int) < (nk : Int)) = false := decide_eq_false hin
    have hi2 : decide (i < nk) = false := decide_eq_false (by omega)
    have HE := Lib.hid (show RES = s from by rw [HE1.out, List.drop_of_length_le (by have := HNK.out; omega)]; rfl)
    obtain ⟨r0, r1, r2, r3, r4, r5, r6, r7⟩ := HR.out.four
    have rl := HR.out.lt
    clear y0 y6 yl
    go_wp2
    rw [set4_fold]
    have hF := HR.out.put4 (u0 := .int .u64 (s.1 : Int)) (u1 := .int .u64 (s.2.1 : Int)) (u2 := .int .u64 (s.2.2.1 : Int)) (u3 := .int .u64 (s.2.2.2 : Int))
    have hBB := below_put4 (g := B + 1) HB.out (by have := HBE.out; omega) (.int .u64 (s.1 : Int)) (.int .u64 (s.2.1 : Int)) (.int .u64 (s.2.2.1 : Int)) (.int .u64 (s.2.2.2 : Int))
    obtain ⟨z0, z1, z2, z3, -⟩ := hF.four
    refine bodyPost_ret (by simp [results, Try.results45, go_sem, z0, z1, z2, z3]; rfl) rfl ?_
    rw [HE.out]
    exact ⟨rfl, hBB⟩
end Go.Proofs.Ytbjgojdpfehnmaa
