/- FirstRules: the law's own, walked. -/
import Derived.Test.YtbjgojdpfehnmaaAw15
import Derived.Test.YtbjgojdpfehnmaaGdC
import Derived.Test.YtbjgojdpfehnmaaHf
import Derived.Test.YtbjgojdpfehnmaaIe
import Derived.Test.YtbjgojdpfehnmaaHv
import Derived.Deep.RegionWith
import Derived.Deep.CutBlock
namespace Go.Proofs.Ytbjgojdpfehnmaa
set_option linter.unusedVariables false
open Go.RowKit Go.Sort
theorem rors15 (x y : Set4) (hx : fits x) (hy : fits y) (w : World) : Calls Try.prog 27 #[setV x, setV y] w fun e w' => e = .returned (setV (orS x y)) ∧ Below w.heap.size w w' := ror_any _ _ _ _ _ _ _ _ hx.1 hx.2.1 hx.2.2.1 hx.2.2.2 hy.1 hy.2.1 hy.2.2.1 hy.2.2.2 w
theorem op_fir (o : Int) : (o = 5 ∨ o = 6 ∨ o = 7 ∨ o = 8 ∨ o = 12) ∨ o = 11 ∨ o = 4 ∨ ((o == 5) = false ∧ (o == 6) = false ∧ (o == 7) = false ∧ (o == 8) = false ∧ (o == 12) = false ∧ (o == 11) = false ∧ (o == 4) = false) := by
 simp only [beq_eq_false_iff_ne]; omega
/-- A row's bytes, by those of its first two parts. -/
theorem seq_rule {NU : Nat → Bool} {F : Nat → Set4} {k0 k1 : Nat} {r : List Nat} : orS (orL true NU F (k0 :: k1 :: r) set0) (F k0) = orL true NU F (k0 :: k1 :: r) set0 ∧ (NU k0 = true → orS (orL true NU F (k0 :: k1 :: r) set0) (F k1) = orL true NU F (k0 :: k1 :: r) set0) ∧ (NU k0 = false → F k0 = orL true NU F (k0 :: k1 :: r) set0) := by
 refine ⟨?_, fun h => ?_, fun h => ?_⟩
 ·
  rw [orS_comm]; exact orL_head k0 (k1 :: r) set0
 ·
  have e : orL true NU F (k0 :: k1 :: r) set0 = orL true NU F (k1 :: r) (orS set0 (F k0)) := by rw [orL]; exact if_neg (by rw [h]; decide)
  rw [e, orS_comm]
  exact orL_head k1 r _
 ·
  rw [orL, if_pos (by rw [h]; rfl), orS_zero]
/-- Both rows, above a world. -/
def Qv (w : World) (gr : Gj) (F : Nat → Set4) (nn g h : Nat) (w' : World) : Prop := Own w' g 40 (rowS F nn) ∧ Own w' h 4 (rowB (nulG gr) nn) ∧ Below w.heap.size w w'
theorem Qv.on {w w1 w2 : World} {gr : Gj} {F : Nat → Set4} {nn g h : Nat} (q : Qv w gr F nn g h w1) (b : Below w1.heap.size w1 w2) : Qv w gr F nn g h w2 := ⟨q.1.under b q.1.lt, q.2.1.under b q.2.1.lt, q.2.2.trans (b.mono q.2.2.size)⟩
theorem Qv.set {w w1 : World} {gr : Gj} {F : Nat → Set4} {nn g h : Nat} (q : Qv w gr F nn g h w1) {k : Nat} (hk : k < nn) {s : Set4} (hs : F k = s) : w1.cell? ⟨g, k * 4, none⟩ = some (.int .u64 (s.1 : Int)) ∧ w1.cell? ⟨g, k * 4 + 1, none⟩ = some (.int .u64 (s.2.1 : Int)) ∧ w1.cell? ⟨g, k * 4 + 2, none⟩ = some (.int .u64 (s.2.2.1 : Int)) ∧ w1.cell? ⟨g, k * 4 + 3, none⟩ = some (.int .u64 (s.2.2.2 : Int)) := by
 subst hs
 exact ⟨(q.1.cell _).trans (rowS_at F nn k 0 hk (by decide)), (q.1.cell _).trans (rowS_at F nn k 1 hk (by decide)), (q.1.cell _).trans (rowS_at F nn k 2 hk (by decide)), (q.1.cell _).trans (rowS_at F nn k 3 hk (by decide))⟩
/-- Two blocks of four cells, made in any order, then filled: i and j make them, s and t fill them. -/
theorem pair4 {P : Program} {ops : Array Oper} {Q : Exit → Act → World → Prop} {md : Region.Mode} {S : World → Prop} {fuel : Nat} {l : Array Bool} {a : Act} {w0 w : World} (i j s t di dj : Nat) {oi oj : Oper} (T : TypeId) {z u0 u1 u2 u3 v0 v1 v2 v3 : Value}
  (ei : ops[i]? = some oi) (ej : ops[j]? = some oj) (gi : oi.dst = some di) (gj : oj.dst = some dj) (hd : di ≠ dj) (nij : i ≠ j)
  (wi : ∀ a', Region.wanted oi (yielded ops a') = true) (wj : ∀ a', Region.wanted oj (yielded ops a') = true)
  (mi : ∀ (a' : Act) (W : World), (execOp a'.eval oi).run P W = .ok (.value (.pointer (some ⟨W.heap.size, 0, none⟩))) (W.alloc (.cells #[z, z, z, z] T)))
  (mj : ∀ (a' : Act) (W : World), (execOp a'.eval oj).run P W = .ok (.value (.pointer (some ⟨W.heap.size, 0, none⟩))) (W.alloc (.cells #[z, z, z, z] T)))
  (S2 : ∀ (D D2 : Nat) (W : World) (K : Act → World → Prop), Own W D T [z, z, z, z] → K ((a.put (some di) (.pointer (some ⟨D, 0, none⟩))).put (some dj) (.pointer (some ⟨D2, 0, none⟩))) (set4 W D u0 u1 u2 u3) → wpOp P ops Q s K ((a.put (some di) (.pointer (some ⟨D, 0, none⟩))).put (some dj) (.pointer (some ⟨D2, 0, none⟩))) W)
  (T2 : ∀ (D2 D : Nat) (W : World) (K : Act → World → Prop), Own W D T [z, z, z, z] → K ((a.put (some di) (.pointer (some ⟨D2, 0, none⟩))).put (some dj) (.pointer (some ⟨D, 0, none⟩))) (set4 W D v0 v1 v2 v3) → wpOp P ops Q t K ((a.put (some di) (.pointer (some ⟨D2, 0, none⟩))).put (some dj) (.pointer (some ⟨D, 0, none⟩))) W)
  (hS : ∀ W, Below w0.heap.size w0 W → S W) (hb : Below w0.heap.size w0 w)
  (h : ∀ (D1 D2 : Nat) (W : World), Own W D1 T [u0, u1, u2, u3] → Own W D2 T [v0, v1, v2, v3] → Below w0.heap.size w0 W → wpAnyH P md ops Q S fuel ((((l.setIfInBounds i true).setIfInBounds j true).setIfInBounds s true).setIfInBounds t true) ((a.put (some di) (.pointer (some ⟨D1, 0, none⟩))).put (some dj) (.pointer (some ⟨D2, 0, none⟩))) W)
  (r0 : Region.ready md ops l = [i, j] := by kernel_rfl) (ri : Region.ready md ops (l.setIfInBounds i true) = [j] := by kernel_rfl) (rj : Region.ready md ops (l.setIfInBounds j true) = [i] := by kernel_rfl)
  (rij : Region.ready md ops ((l.setIfInBounds i true).setIfInBounds j true) = [s] := by kernel_rfl) (rijs : Region.ready md ops (((l.setIfInBounds i true).setIfInBounds j true).setIfInBounds s true) = [t] := by kernel_rfl) : wpAnyH P md ops Q S (fuel + 4) l a w := by
 have A : ∀ {k dk : Nat} {o : Oper} {a' : Act} {W : World} {K : Act → World → Prop}, ops[k]? = some o → o.dst = some dk → Region.wanted o (yielded ops a'.tmps) = true → (execOp a'.eval o).run P W = .ok (.value (.pointer (some ⟨W.heap.size, 0, none⟩))) (W.alloc (.cells #[z, z, z, z] T)) → Below w0.heap.size w0 W →
   (∀ D W', Own W' D T [z, z, z, z] → Below W.heap.size W W' → Below w0.heap.size w0 W' → W.heap.size ≤ D → K (a'.put (some dk) (.pointer (some ⟨D, 0, none⟩))) W') → wpOp P ops Q k K a' W := by
  intro k dk o a' W K e g hw hr hW hK
  have hba : Below W.heap.size W (W.alloc (.cells #[z, z, z, z] T)) := (Below.refl _ _).alloc (Nat.le_refl _) _
  exact op_value e hw hr (by rw [g]; exact hK _ _ (Own.fresh W T [z, z, z, z]) hba (hW.trans (hba.mono hW.size)) (Nat.le_refl _))
 have B : ∀ {W : World} {D : Nat} (y0 y1 y2 y3 : Value), Below w0.heap.size w0 W → w0.heap.size ≤ D → Below w0.heap.size w0 (set4 W D y0 y1 y2 y3) := fun y0 y1 y2 y3 h1 h2 => below_put4 h1 h2 y0 y1 y2 y3
 have Eij : ∀ (D1 D2 : Nat) (W : World), D1 ≠ D2 → w0.heap.size ≤ D1 → w0.heap.size ≤ D2 → Own W D1 T [z, z, z, z] → Own W D2 T [z, z, z, z] → Below w0.heap.size w0 W → wpAnyH P md ops Q S (fuel + 2) ((l.setIfInBounds i true).setIfInBounds j true) ((a.put (some di) (.pointer (some ⟨D1, 0, none⟩))).put (some dj) (.pointer (some ⟨D2, 0, none⟩))) W := fun D1 D2 W hne h1 h2 o1 o2 hW =>
  held_one rij (S2 D1 D2 W _ o1 ⟨hS _ (B _ _ _ _ hW h1), held_one rijs (T2 D1 D2 _ _ (o2.off4 (Ne.symm hne) _ _ _ _) ⟨hS _ (B _ _ _ _ (B _ _ _ _ hW h1) h2), h D1 D2 _ (o1.put4.off4 hne _ _ _ _) (o2.off4 (Ne.symm hne) _ _ _ _).put4 (B _ _ _ _ (B _ _ _ _ hW h1) h2)⟩)⟩)
 refine held_two r0 (A ei gi (wi _) (mi _ w) hb fun D1 W1 o1 _ hb1 hl1 => ⟨hS _ hb1, ?_⟩) (A ej gj (wj _) (mj _ w) hb fun D2 W1 o2 _ hb1 hl2 => ⟨hS _ hb1, ?_⟩)
 ·
  exact held_one ri (A ej gj (wj _) (mj _ W1) hb1 fun D2 W2 o2 hb2 hb3 hl2 => ⟨hS _ hb3, Eij D1 D2 W2 (by have := o1.lt; omega) (Nat.le_trans hb.size hl1) (Nat.le_trans hb1.size hl2) (o1.under hb2 o1.lt) o2 hb3⟩)
 ·
  refine held_one rj (A ei gi (wi _) (mi _ W1) hb1 fun D1 W2 o1 hb2 hb3 hl1 => ⟨hS _ hb3, ?_⟩)
  rw [putt_swap a (Ne.symm hd), Array.setIfInBounds_comm _ _ (Ne.symm nij)]
  exact Eij D1 D2 W2 (by have := o2.lt; omega) (Nat.le_trans hb1.size hl1) (Nat.le_trans hb.size hl2) o1 (o2.under hb2 o2.lt) hb3
/-- 'wpAnyH_take', its closed premises laid in. -/
theorem tkV {P : Program} {ops : Array Oper} {Q : Exit → Act → World → Prop} {md : Region.Mode} {S : World → Prop} (i : Nat) {oi : Oper} (v : Value) {fuel : Nat} {listed : Array Bool} {a : Act} {w : World} (hi : ops[i]? = some oi) (hS : S w) (hy : YieldsIf P ops S oi v a)
  (h : wpAnyH P md ops Q S fuel (listed.setIfInBounds i true) (a.put oi.dst v) w) (hs : Region.noSelect ops = true := by kernel_rfl) (hf : Region.free md ops listed i = true := by kernel_rfl) (hr : (Region.ready md ops listed).contains i = true := by kernel_rfl)
  (hQ : ∀ c a w, Q (.panic c) (a.put oi.dst v) w → Q (.panic c) a w := by exact fun _ _ _ h => h) : wpAnyH P md ops Q S (fuel + 1) listed a w :=
 wpAnyH_take hi hs hf hr hQ hy hS h
set_option maxRecDepth 1000000 in
set_option maxHeartbeats 9600000 in
theorem rul15_walk (l : List ByteArray) (ao : Option Addr) (cap : Nat) (s : ByteArray) (w : World) (hl : HasN w ao l) : Calls Try.prog 7 #[.slice ao l.length cap, .string s] w fun e w' => e = .returned (.bool true) ∧ Below w.heap.size w w' := by
 have HJD := Lib.hid (joined15_any l ao cap s w hl)
 obtain ⟨R, hR⟩ : ∃ R, jndO l s = R := ⟨_, rfl⟩
 have HR := Lib.hid hR
 rw [hR] at HJD
 obtain ⟨nl, hnl⟩ : ∃ n, l.length = n := ⟨_, rfl⟩
 rw [hnl] at HJD
 rw [hnl]
 clear hl hR hnl
 go_enter Try.func7, Try.ntmps7
 go_wp2_with fail
 refine HJD.out.mono ?_
 rintro e w2 ⟨hE, hb2⟩
 have HB2 := Lib.hid hb2
 clear hb2 HJD
 cases R with
 | none =>
  have hE' : e = .returned (.tuple #[.agg #[.slice none 0 0, .slice none 0 0, .slice none 0 0, .slice none 0 0, .int .i64 0], .bool false]) := hE
  subst hE'
  have hbl : Below w2.heap.size w2 (w2.alloc (.cells #[.slice none 0 0, .slice none 0 0, .slice none 0 0, .slice none 0 0, .int .i64 0] 27)) := (Below.refl _ _).alloc (Nat.le_refl _) _
  have HB3 := Lib.hid (HB2.out.trans (hbl.mono HB2.out.size))
  clear hbl hE
  go_upto_region 2 with fail
  generalize w2.alloc (.cells #[.slice none 0 0, .slice none 0 0, .slice none 0 0, .slice none 0 0, .int .i64 0] 27) = w3 at *
  have HAW := Lib.hid (awake15_any w3)
  go_wp2_with fail
  refine HAW.out.mono ?_
  rintro e w4 ⟨he, hb4⟩
  subst he
  have HB4 := Lib.hid (HB3.out.trans (hb4.mono HB3.out.size))
  clear hb4
  go_wp2
  go_ret
  exact ⟨rfl, HB4.out⟩
 | some gr =>
  obtain ⟨a, he, hG⟩ : ∃ a, e = .returned (.tuple #[grv gr a, .bool true]) ∧ HasG w2 gr a := hE
  subst he
  have hg : Good gr := jnd_good HR.out
  have HGD := Lib.hid hg
  have har := jnd_ar HR.out
  have HAR := Lib.hid har
  have hgs : Gst gr := ⟨hg, fun x hx => (har x hx).2, fun x hx h1 => ((har x hx).text h1).1⟩
  have HE15 := Lib.hid (firG_end hgs.sets)
  have hbl : Below w2.heap.size w2 (w2.alloc (.cells #[.slice a.mo gr.ms.length a.mc, .slice a.no gr.ns.length a.nc, .slice a.ho gr.hs.length a.hc, .slice a.wo gr.ws.length a.wc, .int .i64 gr.st] 27)) := (Below.refl _ _).alloc (Nat.le_refl _) _
  have HB3 := Lib.hid (HB2.out.trans (hbl.mono HB2.out.size))
  have HG3 := Lib.hid (hG.below hbl)
  have HO3 := Lib.hid (Own.fresh w2 27 [.slice a.mo gr.ms.length a.mc, .slice a.no gr.ns.length a.nc, .slice a.ho gr.hs.length a.hc, .slice a.wo gr.ws.length a.wc, .int .i64 gr.st])
  have HN := Lib.hid (fun W (h : HasG W gr a) => ffirst_any gr a hgs W h)
  have HNU := Lib.hid (fun W (h : HasG W gr a) => snull_any gr a hg W h)
  unfold FsE at HN
  unfold BoE at HNU
  unfold grv
  unfold grv at HN HNU
  have hn160 := hg.len
  obtain ⟨F, hF⟩ : ∃ F, firG gr = F := ⟨_, rfl⟩
  rw [hF] at HN HE15
  obtain ⟨nn, hnn⟩ : ∃ z, gr.ns.length = z := ⟨_, rfl⟩
  obtain ⟨nh, hnh⟩ : ∃ z, gr.hs.length = z := ⟨_, rfl⟩
  obtain ⟨nms, hnms⟩ : ∃ z, gr.ms.length = z := ⟨_, rfl⟩
  obtain ⟨nw, hnw⟩ : ∃ z, gr.ws.length = z := ⟨_, rfl⟩
  have HNN := Lib.hid (And.intro hnn hnh)
  simp only [hnn, hnh, hnms, hnw] at HB3 HG3 HO3 HN HNU hbl HE15
  rw [hnn] at hn160
  rw [hnn, hnh, hnms, hnw]
  clear hnn hnh hnms hnw hG hg hbl hF har hgs
  go_upto_region 2 with fail
  obtain ⟨B, hB⟩ : ∃ B, w2.heap.size = B := ⟨_, rfl⟩
  rw [hB] at HO3
  generalize w2.alloc (.cells #[.slice a.mo nms a.mc, .slice a.no nn a.nc, .slice a.ho nh a.hc, .slice a.wo nw a.wc, .int .i64 gr.st] 27) = w3 at *
  try rw [hB]
  clear hB HB2
  have HC := Lib.hid (show ∀ W, Below w3.heap.size w3 W → W.cell? ⟨B, 0, none⟩ = some (.slice a.mo nms a.mc) ∧ W.cell? ⟨B, 1, none⟩ = some (.slice a.no nn a.nc) ∧ W.cell? ⟨B, 2, none⟩ = some (.slice a.ho nh a.hc) ∧ W.cell? ⟨B, 3, none⟩ = some (.slice a.wo nw a.wc) ∧ W.cell? ⟨B, 4, none⟩ = some (.int .i64 gr.st) ∧ B < W.heap.size from fun W h => by
   have q := HO3.out.under h HO3.out.lt
   exact ⟨q.cell 0, q.cell 1, q.cell 2, q.cell 3, q.cell 4, q.lt⟩)
  obtain ⟨g0, g1, g2, g3, g4, gl⟩ := HC.out w3 (Below.refl _ _)
  go_wp2_with fail
  refine (HN.out w3 HG3.out).mono ?_
  rintro e w5 ⟨g, rfl, hO, hgs, hb5⟩
  have HO5 := Lib.hid hO
  have HB5 := Lib.hid hb5
  clear hO hgs hb5 HN g0 g1 g2 g3 g4 gl
  obtain ⟨k0, k1, k2, k3, k4, kl⟩ := HC.out w5 HB5.out
  go_wp2_with fail
  refine (HNU.out w5 (HG3.out.below HB5.out)).mono ?_
  rintro e w7 ⟨h, rfl, hO, hgs, hb7⟩
  have HQ := Lib.hid (show Qv w3 gr F nn g h w7 from ⟨HO5.out.under hb7 HO5.out.lt, hO, HB5.out.trans (hb7.mono HB5.out.size)⟩)
  clear hO hgs hb7 HNU k0 k1 k2 k3 k4 kl HO5 HB5
  obtain ⟨k0, k1, k2, k3, k4, kl⟩ := HC.out w7 HQ.out.2.2
  go_wp2_with fail
  go_loopw [9] (fun v9 wr => ∃ k : Nat, v9 = .int .i64 (k : Int) ∧ (k : Int) ≤ nn ∧ Hid (Qv w3 gr F nn g h wr)) (fun v9 _ => nn - (intOf v9).toNat)
  case atStart => exact ⟨0, rfl, by omega, HQ⟩
  case round =>
   obtain ⟨k, rfl, hk, HQk⟩ := hrel
   obtain ⟨w0, hw0⟩ : ∃ z, z = wr := ⟨_, rfl⟩
   subst hw0
   clear k0 k1 k2 k3 k4 kl HQ
   obtain ⟨k0, k1, k2, k3, k4, kl⟩ := HC.out w0 HQk.out.2.2
   by_cases hkn : (k : Int) < nn
   ·
    have hkn1 : decide ((k : Int) < nn) = true := decide_eq_true hkn
    have hkn2 : decide (k < nn) = true := decide_eq_true (by omega)
    have hw1 : IntKind.i64.wrap ((k : Int) + 1) = (k : Int) + 1 := by rw [IntKind.wrap_i64]; omega
    obtain ⟨x, hx⟩ : ∃ x, gr.ns[k]? = some x := ⟨_, List.getElem?_eq_getElem (by have := HNN.out.1; omega)⟩
    have HX := Lib.hid hx
    have HFX := Lib.hid (HE15.out.2 k (by omega))
    have HFIT := Lib.hid HE15.out.1.2
    have HARX := Lib.hid (HAR.out x (List.mem_of_getElem? hx))
    have HKID := Lib.hid (HGD.out.kid x (List.mem_of_getElem? hx))
    have HREF := Lib.hid (HGD.out.ref x (List.mem_of_getElem? hx))
    obtain ⟨b, off, ko, kc, hno, hb, -, c0, c1, c2, c3, c4, c5, c6, c7, c8, c9, hkk⟩ := (HG3.out.below HQk.out.2.2).1 k x hx
    obtain ⟨nk, hnk⟩ : ∃ z, x.ks.length = z := ⟨_, rfl⟩
    have HNK := Lib.hid hnk
    have hnk9 : nk ≤ 90001 := by rw [← hnk]; exact HGD.out.kl x (List.mem_of_getElem? hx)
    obtain ⟨op, hop⟩ : ∃ z, x.op = z := ⟨_, rfl⟩
    have HOP := Lib.hid hop
    rw [hnk] at c6
    rw [hop] at c0
    rw [hno] at k1
    have HRU := Lib.hid (show F k = (if op = 1 then litS x.tx else if op = 2 then nodS x else if op = 3 ∨ op = 13 then fullS else if op = 9 ∨ op = 10 then set0 else if op = 11 then F (bodyG gr k) else orL (op == 4) (nulG gr) F x.ks set0) from by
     rw [← HFX.out, ← HOP.out]
     unfold begB
     rw [HX.out]
     try rfl)
    have hbl : Below w0.heap.size w0 (w0.alloc (.cells #[.int .i64 op, .string x.tx, .int .u64 x.s0, .int .u64 x.s1, .int .u64 x.s2, .int .u64 x.s3, .slice ko nk kc, .int .i64 x.tg, .int .i64 (x.mo : Int), .int .i64 x.ru] 42)) := (Below.refl _ _).alloc (Nat.le_refl _) _
    have HB4 := Lib.hid hbl
    have HK0 := Lib.hid hkk
    have HN4 := Lib.hid (Own.fresh w0 42 [.int .i64 op, .string x.tx, .int .u64 x.s0, .int .u64 x.s1, .int .u64 x.s2, .int .u64 x.s3, .slice ko nk kc, .int .i64 x.tg, .int .i64 (x.mo : Int), .int .i64 x.ru])
    have HW4 := Lib.hid (show (w0.alloc (.cells #[.int .i64 op, .string x.tx, .int .u64 x.s0, .int .u64 x.s1, .int .u64 x.s2, .int .u64 x.s3, .slice ko nk kc, .int .i64 x.tg, .int .i64 (x.mo : Int), .int .i64 x.ru] 42)).heap.size = w0.heap.size + 1 from by simp)
    clear hx hkk hbl hnk hop
    go_upto_region 12 with fail
    obtain ⟨B4, hB4⟩ : ∃ z, w0.heap.size = z := ⟨_, rfl⟩
    have HBE := Lib.hid hB4
    rw [hB4] at HN4 HW4
    generalize w0.alloc (.cells #[.int .i64 op, .string x.tx, .int .u64 x.s0, .int .u64 x.s1, .int .u64 x.s2, .int .u64 x.s3, .slice ko nk kc, .int .i64 x.tg, .int .i64 (x.mo : Int), .int .i64 x.ru] 42) = w4 at *
    try rw [hB4]
    clear c0 c1 c2 c3 c4 c5 c6 c7 c8 c9 hb hno k0 k1 k2 k3 k4 kl hB4 HFX
    have hbl : Below w4.heap.size w4 (w4.alloc (.cells #[.int .u64 0, .int .u64 0, .int .u64 0, .int .u64 0] 40)) := (Below.refl _ _).alloc (Nat.le_refl _) _
    have HB5 := Lib.hid (HB4.out.trans (hbl.mono HB4.out.size))
    have HN5 := Lib.hid (HN4.out.under hbl HN4.out.lt)
    have HS5 := Lib.hid (Own.fresh w4 40 [.int .u64 0, .int .u64 0, .int .u64 0, .int .u64 0])
    rw [HW4.out] at HS5
    go_upto_region 13 with fail
    generalize w4.alloc (.cells #[.int .u64 0, .int .u64 0, .int .u64 0, .int .u64 0] 40) = w5 at *
    try rw [HW4.out]
    clear hbl HB4 HN4
    obtain ⟨AL, hAL⟩ : ∃ z, orL false (nulG gr) F x.ks set0 = z := ⟨_, rfl⟩
    have HAL := Lib.hid hAL
    have HE0 := Lib.hid (show AL = orL false (nulG gr) F (x.ks.drop 0) set0 from by rw [← hAL]; rfl)
    clear hAL
    go_wp2_with fail
    go_loopw [12] (fun v12 wr => ∃ (i : Nat) (s : Set4), v12 = .int .i64 (i : Int) ∧ (i : Int) ≤ nk ∧ Hid (AL = orL false (nulG gr) F (x.ks.drop i) s) ∧ Hid (fits s) ∧ Hid (Own wr (B4 + 1) 40 (wrdS s)) ∧ Hid (Own wr B4 42 [.int .i64 op, .string x.tx, .int .u64 x.s0, .int .u64 x.s1, .int .u64 x.s2, .int .u64 x.s3, .slice ko nk kc, .int .i64 x.tg, .int .i64 (x.mo : Int), .int .i64 x.ru]) ∧ Hid (Below w0.heap.size w0 wr)) (fun v12 _ => nk - (intOf v12).toNat)
    case atStart => exact ⟨0, set0, rfl, by omega, HE0, Lib.hid fits0, HS5, HN5, HB5⟩
    case round =>
     obtain ⟨i, s, rfl, hi, HE1, HFS, HS, HN, HB⟩ := hrel
     clear HS5 HN5 HB5 HE0
     have y0 : wr.cell? ⟨B4, 0, none⟩ = some (.int .i64 op) := HN.out.cell 0
     have y6 : wr.cell? ⟨B4, 6, none⟩ = some (.slice ko nk kc) := HN.out.cell 6
     have y7 : wr.cell? ⟨B4, 7, none⟩ = some (.int .i64 x.tg) := HN.out.cell 7
     have yl := HN.out.lt
     have s0 : wr.cell? ⟨B4 + 1, 0, none⟩ = some (.int .u64 (s.1 : Int)) := HS.out.cell 0
     have s1 : wr.cell? ⟨B4 + 1, 1, none⟩ = some (.int .u64 (s.2.1 : Int)) := HS.out.cell 1
     have s2 : wr.cell? ⟨B4 + 1, 2, none⟩ = some (.int .u64 (s.2.2.1 : Int)) := HS.out.cell 2
     have s3 : wr.cell? ⟨B4 + 1, 3, none⟩ = some (.int .u64 (s.2.2.2 : Int)) := HS.out.cell 3
     have sl := HS.out.lt
     have HQr := Lib.hid (HQk.out.on HB.out)
     have ml := HQr.out.1.lt
     by_cases hin : (i : Int) < nk
     ·
      have hi1 : decide ((i : Int) < (nk : Int)) = true := decide_eq_true hin
      have hi2 : decide (i < nk) = true := decide_eq_true (by omega)
      have hw2 : IntKind.i64.wrap ((i : Int) + 1) = (i : Int) + 1 := by rw [IntKind.wrap_i64]; omega
      obtain ⟨q, hq⟩ : ∃ q, x.ks[i]? = some q := ⟨_, List.getElem?_eq_getElem (by have := HNK.out; omega)⟩
      have HKK := Lib.hid hq
      have hqn : q < nn := by have := HKID.out q (List.mem_of_getElem? hq); have := HNN.out.1; omega
      obtain ⟨b2, off2, hko, hb2, -, qq0⟩ := HK0.out i q hq
      have q0 := keepc qq0 HB.out
      have hb3 : b2 < wr.heap.size := World.block_lt_of_cell? wr _ q0
      subst hko
      obtain ⟨A, hA⟩ : ∃ z, F q = z := ⟨_, rfl⟩
      obtain ⟨m0, m1, m2, m3⟩ := HQr.out.set hqn hA
      have HOR := Lib.hid (fun W => rors15 s A HFS.out (by rw [← hA]; exact HFIT.out q) W)
      have HFN := Lib.hid (orS_fits HFS.out (by rw [← hA]; exact HFIT.out q : fits A))
      have hk1 : decide ((q : Int) < (nn : Int)) = true := decide_eq_true (by omega)
      have hk2 : decide (q < nn) = true := decide_eq_true hqn
      have HE2 := Lib.hid (show AL = orL false (nulG gr) F (x.ks.drop (i + 1)) (orS s A) from by rw [HE1.out, ← hA]; exact orL_go HKK.out rfl)
      clear hq hA qq0 hb2
      unfold setV at HOR
      go_upto_region 16 with fail
      refine wp_region_heldTo (fun Wx => B4 + 1 < Wx.heap.size ∧ Wx.cell? ⟨B4 + 1, 0, none⟩ = some (.int .u64 (s.1 : Int)) ∧ Wx.cell? ⟨B4 + 1, 1, none⟩ = some (.int .u64 (s.2.1 : Int)) ∧ Wx.cell? ⟨B4 + 1, 2, none⟩ = some (.int .u64 (s.2.2.1 : Int)) ∧ Wx.cell? ⟨B4 + 1, 3, none⟩ = some (.int .u64 (s.2.2.2 : Int)) ∧ g < Wx.heap.size ∧ Wx.cell? ⟨g, q * 4, none⟩ = some (.int .u64 (A.1 : Int)) ∧ Wx.cell? ⟨g, q * 4 + 1, none⟩ = some (.int .u64 (A.2.1 : Int)) ∧ Wx.cell? ⟨g, q * 4 + 2, none⟩ = some (.int .u64 (A.2.2.1 : Int)) ∧ Wx.cell? ⟨g, q * 4 + 3, none⟩ = some (.int .u64 (A.2.2.2 : Int)) ∧ B4 < Wx.heap.size ∧ Wx.cell? ⟨B4, 6, none⟩ = some (.slice (some ⟨b2, off2, none⟩) nk kc) ∧ b2 < Wx.heap.size ∧ Wx.cell? ⟨b2, off2 + i, none⟩ = some (.int .i64 (q : Int))) 10 (by kernel_rfl) ?_
      have HSS := Lib.hid (show B4 + 1 < (World.drew wr).heap.size ∧ (World.drew wr).cell? ⟨B4 + 1, 0, none⟩ = some (.int .u64 (s.1 : Int)) ∧ (World.drew wr).cell? ⟨B4 + 1, 1, none⟩ = some (.int .u64 (s.2.1 : Int)) ∧ (World.drew wr).cell? ⟨B4 + 1, 2, none⟩ = some (.int .u64 (s.2.2.1 : Int)) ∧ (World.drew wr).cell? ⟨B4 + 1, 3, none⟩ = some (.int .u64 (s.2.2.2 : Int)) ∧ g < (World.drew wr).heap.size ∧ (World.drew wr).cell? ⟨g, q * 4, none⟩ = some (.int .u64 (A.1 : Int)) ∧ (World.drew wr).cell? ⟨g, q * 4 + 1, none⟩ = some (.int .u64 (A.2.1 : Int)) ∧ (World.drew wr).cell? ⟨g, q * 4 + 2, none⟩ = some (.int .u64 (A.2.2.1 : Int)) ∧ (World.drew wr).cell? ⟨g, q * 4 + 3, none⟩ = some (.int .u64 (A.2.2.2 : Int)) ∧ B4 < (World.drew wr).heap.size ∧ (World.drew wr).cell? ⟨B4, 6, none⟩ = some (.slice (some ⟨b2, off2, none⟩) nk kc) ∧ b2 < (World.drew wr).heap.size ∧ (World.drew wr).cell? ⟨b2, off2 + i, none⟩ = some (.int .i64 (q : Int)) from ⟨sl, s0, s1, s2, s3, ml, m0, m1, m2, m3, yl, y6, hb3, q0⟩)
      clear y0 y6 y7 yl s0 s1 s2 s3 sl q0 hb3 m0 m1 m2 m3 ml
      refine heldTo.take (i := 0) (v := ?_) rfl (by kernel_rfl) (by kernel_rfl) (by kernel_rfl) (by kernel_rfl) (fun _ _ _ h => h) (Or.inl ⟨by rfl, ?_⟩) HSS.out ?_
      rotate_left
      ·
       intro Wx hWx
       obtain ⟨q0, q1, q2, q3, q4, q5, q6, q7, q8, q9, qA, qB, qC, qD⟩ := hWx
       go_simp
       try with_reducible rfl
      go_simp
      refine heldTo.take (i := 1) (v := ?_) rfl (by kernel_rfl) (by kernel_rfl) (by kernel_rfl) (by kernel_rfl) (fun _ _ _ h => h) (Or.inl ⟨by rfl, ?_⟩) HSS.out ?_
      rotate_left
      ·
       intro Wx hWx
       obtain ⟨q0, q1, q2, q3, q4, q5, q6, q7, q8, q9, qA, qB, qC, qD⟩ := hWx
       go_simp
       try with_reducible rfl
      go_simp
      refine heldTo.take (i := 2) (v := ?_) rfl (by kernel_rfl) (by kernel_rfl) (by kernel_rfl) (by kernel_rfl) (fun _ _ _ h => h) (Or.inl ⟨by rfl, ?_⟩) HSS.out ?_
      rotate_left
      ·
       intro Wx hWx
       obtain ⟨q0, q1, q2, q3, q4, q5, q6, q7, q8, q9, qA, qB, qC, qD⟩ := hWx
       go_simp
       try with_reducible rfl
      go_simp
      refine heldTo.take (i := 3) (v := ?_) rfl (by kernel_rfl) (by kernel_rfl) (by kernel_rfl) (by kernel_rfl) (fun _ _ _ h => h) (Or.inl ⟨by rfl, ?_⟩) HSS.out ?_
      rotate_left
      ·
       intro Wx hWx
       obtain ⟨q0, q1, q2, q3, q4, q5, q6, q7, q8, q9, qA, qB, qC, qD⟩ := hWx
       go_simp
       try with_reducible rfl
      go_simp
      refine heldTo.take (i := 4) (v := ?_) rfl (by kernel_rfl) (by kernel_rfl) (by kernel_rfl) (by kernel_rfl) (fun _ _ _ h => h) (Or.inl ⟨by rfl, ?_⟩) HSS.out ?_
      rotate_left
      ·
       intro Wx hWx
       obtain ⟨q0, q1, q2, q3, q4, q5, q6, q7, q8, q9, qA, qB, qC, qD⟩ := hWx
       go_simp
       try with_reducible rfl
      go_simp
      refine heldTo.take (i := 5) (v := ?_) rfl (by kernel_rfl) (by kernel_rfl) (by kernel_rfl) (by kernel_rfl) (fun _ _ _ h => h) (Or.inl ⟨by rfl, ?_⟩) HSS.out ?_
      rotate_left
      ·
       intro Wx hWx
       obtain ⟨q0, q1, q2, q3, q4, q5, q6, q7, q8, q9, qA, qB, qC, qD⟩ := hWx
       go_simp
       try with_reducible rfl
      go_simp
      refine heldTo.take (i := 6) (v := ?_) rfl (by kernel_rfl) (by kernel_rfl) (by kernel_rfl) (by kernel_rfl) (fun _ _ _ h => h) (Or.inl ⟨by rfl, ?_⟩) HSS.out ?_
      rotate_left
      ·
       intro Wx hWx
       obtain ⟨q0, q1, q2, q3, q4, q5, q6, q7, q8, q9, qA, qB, qC, qD⟩ := hWx
       go_simp
       try with_reducible rfl
      go_simp
      refine heldTo.take (i := 7) (v := ?_) rfl (by kernel_rfl) (by kernel_rfl) (by kernel_rfl) (by kernel_rfl) (fun _ _ _ h => h) (Or.inl ⟨by rfl, ?_⟩) HSS.out ?_
      rotate_left
      ·
       intro Wx hWx
       obtain ⟨q0, q1, q2, q3, q4, q5, q6, q7, q8, q9, qA, qB, qC, qD⟩ := hWx
       go_simp
       try with_reducible rfl
      go_simp
      refine heldTo.take (i := 8) (v := ?_) rfl (by kernel_rfl) (by kernel_rfl) (by kernel_rfl) (by kernel_rfl) (fun _ _ _ h => h) (Or.inl ⟨by rfl, ?_⟩) HSS.out ?_
      rotate_left
      ·
       intro Wx hWx
       obtain ⟨q0, q1, q2, q3, q4, q5, q6, q7, q8, q9, qA, qB, qC, qD⟩ := hWx
       go_simp
       try with_reducible rfl
      go_simp
      refine heldTo.one (i := 9) (by kernel_rfl) (op_call (f := 27) (vs := #[.agg #[.int .u64 (s.1 : Int), .int .u64 (s.2.1 : Int), .int .u64 (s.2.2.1 : Int), .int .u64 (s.2.2.2 : Int)], .agg #[.int .u64 (A.1 : Int), .int .u64 (A.2.1 : Int), .int .u64 (A.2.2.1 : Int), .int .u64 (A.2.2.2 : Int)]]) rfl (by kernel_rfl) (by go_simp) ((HOR.out (World.drew wr)).mono ?_))
      rintro e w6 ⟨he, hb6⟩
      refine ⟨_, he, ?_⟩
      have HS6 := Lib.hid (HS.out.on_drew.under hb6 HS.out.lt)
      have HN6 := Lib.hid (HN.out.on_drew.under hb6 HN.out.lt)
      have HB6 := Lib.hid (HB.out.drew.trans (hb6.mono HB.out.size))
      refine ⟨.inr ⟨Nat.lt_of_lt_of_le HSS.out.1 hb6.size, keepc HSS.out.2.1 hb6, keepc HSS.out.2.2.1 hb6, keepc HSS.out.2.2.2.1 hb6, keepc HSS.out.2.2.2.2.1 hb6, Nat.lt_of_lt_of_le HSS.out.2.2.2.2.2.1 hb6.size, keepc HSS.out.2.2.2.2.2.2.1 hb6, keepc HSS.out.2.2.2.2.2.2.2.1 hb6, keepc HSS.out.2.2.2.2.2.2.2.2.1 hb6, keepc HSS.out.2.2.2.2.2.2.2.2.2.1 hb6, Nat.lt_of_lt_of_le HSS.out.2.2.2.2.2.2.2.2.2.2.1 hb6.size, keepc HSS.out.2.2.2.2.2.2.2.2.2.2.2.1 hb6, Nat.lt_of_lt_of_le HSS.out.2.2.2.2.2.2.2.2.2.2.2.2.1 hb6.size, keepc HSS.out.2.2.2.2.2.2.2.2.2.2.2.2.2 hb6⟩, ?_⟩
      clear HSS hb6
      obtain ⟨t0, t1, t2, t3, f0, f1, f2, f3⟩ := HS6.out.four
      have tl := HS6.out.lt
      go_simp
      refine heldTo.one (i := 10) (by kernel_rfl) (op_store (w' := set4 w6 (B4 + 1) (.int .u64 ((orS s A).1 : Int)) (.int .u64 ((orS s A).2.1 : Int)) (.int .u64 ((orS s A).2.2.1 : Int)) (.int .u64 ((orS s A).2.2.2 : Int))) rfl (by kernel_rfl) 40 (.tmp 11) (.tmp 62) rfl _ _ rfl rfl (by go_simp; try rfl) ⟨.inl rfl, ?_⟩)
      refine heldTo.done (by kernel_rfl) ?_ _
      have HS7 := Lib.hid (show Own (set4 w6 (B4 + 1) (.int .u64 ((orS s A).1 : Int)) (.int .u64 ((orS s A).2.1 : Int)) (.int .u64 ((orS s A).2.2.1 : Int)) (.int .u64 ((orS s A).2.2.2 : Int))) (B4 + 1) 40 (wrdS (orS s A)) from HS6.out.put4)
      have HN7 := Lib.hid (HN6.out.off4 (k := B4 + 1) (by omega) (.int .u64 ((orS s A).1 : Int)) (.int .u64 ((orS s A).2.1 : Int)) (.int .u64 ((orS s A).2.2.1 : Int)) (.int .u64 ((orS s A).2.2.2 : Int)))
      have HB7 := Lib.hid (below_put4 (g := B4 + 1) HB6.out (by have := HBE.out; omega) (.int .u64 ((orS s A).1 : Int)) (.int .u64 ((orS s A).2.1 : Int)) (.int .u64 ((orS s A).2.2.1 : Int)) (.int .u64 ((orS s A).2.2.2 : Int)))
      generalize set4 w6 (B4 + 1) (.int .u64 ((orS s A).1 : Int)) (.int .u64 ((orS s A).2.1 : Int)) (.int .u64 ((orS s A).2.2.1 : Int)) (.int .u64 ((orS s A).2.2.2 : Int)) = wc at *
      clear t0 t1 t2 t3 f0 f1 f2 f3 tl HOR
      go_simp
      try go_wp2
      go_roundw
      case rel => exact ⟨i + 1, orS s A, by go_num, by omega, HE2, HFN, HS7, HN7, HB7⟩
      case measure => simp [intOf]; omega
     ·
      have hi1 : decide ((i : Int) < (nk : Int)) = false := decide_eq_false hin
      have hi2 : decide (i < nk) = false := decide_eq_false (by omega)
      have HE := Lib.hid (show orL false (nulG gr) F x.ks set0 = s from by rw [HAL.out, HE1.out, List.drop_of_length_le (by have := HNK.out; omega)]; rfl)
      obtain ⟨fk, hfk⟩ : ∃ z, F k = z := ⟨_, rfl⟩
      have HFK := Lib.hid hfk
      obtain ⟨m0, m1, m2, m3⟩ := HQr.out.set (k := k) (by omega) hfk
      rw [hfk] at HRU
      clear hfk HE1 HAL
      rcases op_fir op with h3 | rfl | rfl | ⟨h5, h6, h7, h8, h12, h11, h4⟩
      ·
       rcases h3 with rfl | rfl | rfl | rfl | rfl
       all_goals as_aux_lemma =>
        have hfs : fk = s := HRU.out.trans ((by first | rfl | simp : _ = orL false (nulG gr) F x.ks set0).trans HE.out)
        rw [hfs] at m0 m1 m2 m3
        have hqq : eqQS s s = true := eqQS_yes.2 rfl
        clear hfs
        go_wp2_with fail
        go_quiet (fail)
        have hbz := below_drewN (Below.refl wr.heap.size wr) nq
        have HQz := Lib.hid (HQr.out.on hbz)
        clear hbz
        go_wp2
        go_roundw
        case rel => exact ⟨k + 1, by go_num, by omega, HQz⟩
        case measure => simp [intOf]; omega
      ·
       as_aux_lemma =>
        obtain ⟨tt, hh0, htt, hhe, hbo⟩ := HREF.out HOP.out
        obtain ⟨b2, off2, hho, hb2, -, d0, d1, d2⟩ := (HG3.out.below HQr.out.2.2).2.1 tt hh0 hhe
        obtain ⟨k0, k1, k2, k3, k4, kl⟩ := HC.out wr HQr.out.2.2
        rw [hho] at k2
        rw [htt] at y7
        have htn : tt < nh := by have := (List.getElem?_eq_some_iff.1 hhe).1; have := HNN.out.2; omega
        have ht1 : decide ((tt : Int) < (nh : Int)) = true := decide_eq_true (by omega)
        have ht2 : decide (tt < nh) = true := decide_eq_true htn
        have hbd0 : bodyG gr k = hh0.bo := by
         unfold bodyG
         rw [HX.out]
         show (if x.op = 11 then (match gr.hs[x.tg.toNat]? with
          | some h => h.bo
          | none => 0) else k) = hh0.bo
         rw [if_pos HOP.out, htt, Int.toNat_natCast, hhe]
        obtain ⟨q, hq⟩ : ∃ q, hh0.bo = q := ⟨_, rfl⟩
        rw [hq] at hbd0 hbo d2
        have hqn : q < nn := by have := HNN.out.1; omega
        have e1 : F q = fk := (HRU.out.trans (by rw [hbd0]; first | rfl | simp : _ = F q)).symm
        clear hhe hho htt hbd0 hbo hq
        obtain ⟨n0, n1, n2, n3⟩ := HQr.out.set hqn e1
        have hq1 : decide ((q : Int) < (nn : Int)) = true := decide_eq_true (by omega)
        have hq2 : decide (q < nn) = true := decide_eq_true hqn
        have hqq : eqQS fk fk = true := eqQS_yes.2 rfl
        clear e1
        go_wp2_with fail
        go_quiet (fail)
        have hbz := below_drewN (Below.refl wr.heap.size wr) nq
        have HQz := Lib.hid (HQr.out.on hbz)
        clear hbz
        go_wp2
        go_roundw
        case rel => exact ⟨k + 1, by go_num, by omega, HQz⟩
        case measure => simp [intOf]; omega
      ·
       as_aux_lemma =>
        have h2k : 2 ≤ nk := by
         have q := HARX.out.kids
         rw [HOP.out, HNK.out] at q
         unfold kidsB at q
         simpa using q
        obtain ⟨k0, k1, r, hks⟩ : ∃ k0 k1 r, x.ks = k0 :: k1 :: r := by
         have := HNK.out
         cases hx : x.ks with
         | nil => rw [hx] at this; simp at this; omega
         | cons u v =>
          cases v with
          | nil => rw [hx] at this; simp at this; omega
          | cons v r => exact ⟨u, v, r, rfl⟩
        have hfk : fk = orL true (nulG gr) F (k0 :: k1 :: r) set0 := HRU.out.trans (by rw [hks]; first | rfl | simp)
        obtain ⟨r1, r2, r3⟩ := seq_rule (NU := nulG gr) (F := F) (k0 := k0) (k1 := k1) (r := r)
        rw [← hfk] at r1 r2 r3
        have r4 : orS s fk = s := by
         have h := orL_all (cut := true) (NU := nulG gr) (M := F) (k0 :: k1 :: r) set0
         rw [← hfk, ← hks, HE.out] at h
         rw [orS_comm]
         exact h
        have hk0 : k0 < nn := by have := HKID.out k0 (by rw [hks]; simp); have := HNN.out.1; omega
        have hk1 : k1 < nn := by have := HKID.out k1 (by rw [hks]; simp); have := HNN.out.1; omega
        obtain ⟨b2, off2, hko, hb2, -, qq0⟩ := HK0.out 0 k0 (by rw [hks]; rfl)
        obtain ⟨b3, off3, hko3, hb3, -, qq1⟩ := HK0.out 1 k1 (by rw [hks]; rfl)
        obtain ⟨rfl, rfl⟩ : b2 = b3 ∧ off2 = off3 := by rw [hko] at hko3; injection hko3 with h1; injection h1 with h1 h2; exact ⟨h1, h2⟩
        subst hko
        have q0 : wr.cell? ⟨b2, off2, none⟩ = some (.int .i64 (k0 : Int)) := keepc qq0 HB.out
        have q1 : wr.cell? ⟨b2, off2 + 1, none⟩ = some (.int .i64 (k1 : Int)) := keepc qq1 HB.out
        have hb5 : b2 < wr.heap.size := World.block_lt_of_cell? wr _ q0
        obtain ⟨A, hA⟩ : ∃ z, F k0 = z := ⟨_, rfl⟩
        obtain ⟨E, hE⟩ : ∃ z, F k1 = z := ⟨_, rfl⟩
        obtain ⟨a0, a1, a2, a3⟩ := HQr.out.set hk0 hA
        obtain ⟨e0, e1, e2, e3⟩ := HQr.out.set hk1 hE
        have hfA : fits A := by rw [← hA]; exact HFIT.out k0
        have hfE : fits E := by rw [← hE]; exact HFIT.out k1
        have hfF : fits fk := by rw [← HFK.out]; exact HFIT.out k
        have hz1 : decide ((0 : Int) < (nk : Int)) = true := decide_eq_true (by omega)
        have hz2 : decide (0 < nk) = true := decide_eq_true (by omega)
        have hz3 : decide ((1 : Int) < (nk : Int)) = true := decide_eq_true (by omega)
        have hz4 : decide (1 < nk) = true := decide_eq_true (by omega)
        have hz9 : 0 < nk := by omega
        have hz10 : 1 < nk := by omega
        have hz11 : (1 : Int) < (nk : Int) := by omega
        have hz12 : (0 : Int) < (nk : Int) := by omega
        have hz5 : decide ((k0 : Int) < (nn : Int)) = true := decide_eq_true (by omega)
        have hz6 : decide (k0 < nn) = true := decide_eq_true hk0
        have hz7 : decide ((k1 : Int) < (nn : Int)) = true := decide_eq_true (by omega)
        have hz8 : decide (k1 < nn) = true := decide_eq_true hk1
        have HR1 := Lib.hid (show orS fk A = fk ∧ (nulG gr k0 = true → orS fk E = fk) ∧ (nulG gr k0 = false → A = fk) ∧ orS s fk = s from by rw [← hA, ← hE]; exact ⟨r1, r2, r3, r4⟩)
        have HFF := Lib.hid (show fits A ∧ fits E ∧ fits fk from ⟨hfA, hfE, hfF⟩)
        clear r1 r2 r3 r4 hks hfk hA hE qq0 qq1 hko3 hb2 hb3 hfA hfE hfF
        obtain ⟨S, HSd⟩ : ∃ S : World → Prop, Hid (S = fun Wx => B4 < Wx.heap.size ∧ Wx.cell? ⟨B4, 6, none⟩ = some (.slice (some ⟨b2, off2, none⟩) nk kc) ∧ b2 < Wx.heap.size ∧ Wx.cell? ⟨b2, off2, none⟩ = some (.int .i64 (k0 : Int)) ∧ Wx.cell? ⟨b2, off2 + 1, none⟩ = some (.int .i64 (k1 : Int)) ∧ g < Wx.heap.size ∧ Wx.cell? ⟨g, k0 * 4, none⟩ = some (.int .u64 (A.1 : Int)) ∧ Wx.cell? ⟨g, k0 * 4 + 1, none⟩ = some (.int .u64 (A.2.1 : Int)) ∧ Wx.cell? ⟨g, k0 * 4 + 2, none⟩ = some (.int .u64 (A.2.2.1 : Int)) ∧ Wx.cell? ⟨g, k0 * 4 + 3, none⟩ = some (.int .u64 (A.2.2.2 : Int)) ∧ Wx.cell? ⟨g, k1 * 4, none⟩ = some (.int .u64 (E.1 : Int)) ∧ Wx.cell? ⟨g, k1 * 4 + 1, none⟩ = some (.int .u64 (E.2.1 : Int)) ∧ Wx.cell? ⟨g, k1 * 4 + 2, none⟩ = some (.int .u64 (E.2.2.1 : Int)) ∧ Wx.cell? ⟨g, k1 * 4 + 3, none⟩ = some (.int .u64 (E.2.2.2 : Int))) := ⟨_, Lib.hid rfl⟩
        have HKS : Hid (∀ W, Below wr.heap.size wr W → S W) := Lib.hid (fun W h => by rw [HSd.out]; exact ⟨Nat.lt_of_lt_of_le yl h.size, keepc y6 h, Nat.lt_of_lt_of_le hb5 h.size, keepc q0 h, keepc q1 h, Nat.lt_of_lt_of_le ml h.size, keepc a0 h, keepc a1 h, keepc a2 h, keepc a3 h, keepc e0 h, keepc e1 h, keepc e2 h, keepc e3 h⟩)
        have HSS := Lib.hid (HKS.out (World.drew wr) (Below.refl _ _).drew)
        have HM := Lib.hid (show wr.cell? ⟨g, k * 4, none⟩ = some (.int .u64 (fk.1 : Int)) ∧ wr.cell? ⟨g, k * 4 + 1, none⟩ = some (.int .u64 (fk.2.1 : Int)) ∧ wr.cell? ⟨g, k * 4 + 2, none⟩ = some (.int .u64 (fk.2.2.1 : Int)) ∧ wr.cell? ⟨g, k * 4 + 3, none⟩ = some (.int .u64 (fk.2.2.2 : Int)) from ⟨m0, m1, m2, m3⟩)
        have HS0 := Lib.hid (show wr.cell? ⟨B4 + 1, 0, none⟩ = some (.int .u64 (s.1 : Int)) ∧ wr.cell? ⟨B4 + 1, 1, none⟩ = some (.int .u64 (s.2.1 : Int)) ∧ wr.cell? ⟨B4 + 1, 2, none⟩ = some (.int .u64 (s.2.2.1 : Int)) ∧ wr.cell? ⟨B4 + 1, 3, none⟩ = some (.int .u64 (s.2.2.2 : Int)) from ⟨s0, s1, s2, s3⟩)
        have HQ01 := Lib.hid (show wr.cell? ⟨b2, off2, none⟩ = some (.int .i64 (k0 : Int)) ∧ wr.cell? ⟨b2, off2 + 1, none⟩ = some (.int .i64 (k1 : Int)) from ⟨q0, q1⟩)
        go_upto_region 29 with fail
        clear y0 y6 y7 yl s0 s1 s2 s3 sl m0 m1 m2 m3 ml q0 q1 hb5 a0 a1 a2 a3 e0 e1 e2 e3
        go_cut [13, 14] (fun s13 s14 wx => ∃ D1 D2, s13 = .pointer (some ⟨D1, 0, none⟩) ∧ s14 = .pointer (some ⟨D2, 0, none⟩) ∧ Hid (Own wx D1 40 (wrdS A)) ∧ Hid (Own wx D2 40 (wrdS E)) ∧ Hid (Below wr.heap.size wr wx))
        case first =>
         refine wp_region_held (S := S) (by kernel_rfl) ?_
         refine tkV 0 ?_ rfl HSS.out (Or.inl ⟨by rfl, ?_⟩) ?_; rotate_left; · intro W h; rw [HSd.out] at h; obtain ⟨r0, r1, r2, r3, r4, r5, r6, r7, r8, r9, rA, rB, rC, rD⟩ := h; go_simp; try with_reducible rfl
         go_simp
         refine tkV 1 ?_ rfl HSS.out (Or.inl ⟨by rfl, ?_⟩) ?_; rotate_left; · intro W h; rw [HSd.out] at h; obtain ⟨r0, r1, r2, r3, r4, r5, r6, r7, r8, r9, rA, rB, rC, rD⟩ := h; go_simp; try with_reducible rfl
         go_simp
         refine tkV 2 ?_ rfl HSS.out (Or.inl ⟨by rfl, ?_⟩) ?_; rotate_left; · intro W h; rw [HSd.out] at h; obtain ⟨r0, r1, r2, r3, r4, r5, r6, r7, r8, r9, rA, rB, rC, rD⟩ := h; go_simp; try with_reducible rfl
         go_simp
         refine tkV 3 ?_ rfl HSS.out (Or.inl ⟨by rfl, ?_⟩) ?_; rotate_left; · intro W h; rw [HSd.out] at h; obtain ⟨r0, r1, r2, r3, r4, r5, r6, r7, r8, r9, rA, rB, rC, rD⟩ := h; go_simp; try with_reducible rfl
         go_simp
         refine tkV 4 ?_ rfl HSS.out (Or.inl ⟨by rfl, ?_⟩) ?_; rotate_left; · intro W h; rw [HSd.out] at h; obtain ⟨r0, r1, r2, r3, r4, r5, r6, r7, r8, r9, rA, rB, rC, rD⟩ := h; go_simp; try with_reducible rfl
         go_simp
         refine tkV 5 ?_ rfl HSS.out (Or.inl ⟨by rfl, ?_⟩) ?_; rotate_left; · intro W h; rw [HSd.out] at h; obtain ⟨r0, r1, r2, r3, r4, r5, r6, r7, r8, r9, rA, rB, rC, rD⟩ := h; go_simp; try with_reducible rfl
         go_simp
         refine tkV 6 ?_ rfl HSS.out (Or.inl ⟨by rfl, ?_⟩) ?_; rotate_left; · intro W h; rw [HSd.out] at h; obtain ⟨r0, r1, r2, r3, r4, r5, r6, r7, r8, r9, rA, rB, rC, rD⟩ := h; go_simp; try with_reducible rfl
         go_simp
         refine tkV 7 ?_ rfl HSS.out (Or.inl ⟨by rfl, ?_⟩) ?_; rotate_left; · intro W h; rw [HSd.out] at h; obtain ⟨r0, r1, r2, r3, r4, r5, r6, r7, r8, r9, rA, rB, rC, rD⟩ := h; go_simp; try with_reducible rfl
         go_simp
         refine tkV 8 ?_ rfl HSS.out (Or.inl ⟨by rfl, ?_⟩) ?_; rotate_left; · intro W h; rw [HSd.out] at h; obtain ⟨r0, r1, r2, r3, r4, r5, r6, r7, r8, r9, rA, rB, rC, rD⟩ := h; go_simp; try with_reducible rfl
         go_simp
         refine tkV 9 ?_ rfl HSS.out (Or.inl ⟨by rfl, ?_⟩) ?_; rotate_left; · intro W h; rw [HSd.out] at h; obtain ⟨r0, r1, r2, r3, r4, r5, r6, r7, r8, r9, rA, rB, rC, rD⟩ := h; go_simp; try with_reducible rfl
         go_simp
         refine tkV 10 ?_ rfl HSS.out (Or.inl ⟨by rfl, ?_⟩) ?_; rotate_left; · intro W h; rw [HSd.out] at h; obtain ⟨r0, r1, r2, r3, r4, r5, r6, r7, r8, r9, rA, rB, rC, rD⟩ := h; go_simp; try with_reducible rfl
         go_simp
         refine tkV 11 ?_ rfl HSS.out (Or.inl ⟨by rfl, ?_⟩) ?_; rotate_left; · intro W h; rw [HSd.out] at h; obtain ⟨r0, r1, r2, r3, r4, r5, r6, r7, r8, r9, rA, rB, rC, rD⟩ := h; go_simp; try with_reducible rfl
         go_simp
         refine tkV 12 ?_ rfl HSS.out (Or.inl ⟨by rfl, ?_⟩) ?_; rotate_left; · intro W h; rw [HSd.out] at h; obtain ⟨r0, r1, r2, r3, r4, r5, r6, r7, r8, r9, rA, rB, rC, rD⟩ := h; go_simp; try with_reducible rfl
         go_simp
         refine tkV 13 ?_ rfl HSS.out (Or.inl ⟨by rfl, ?_⟩) ?_; rotate_left; · intro W h; rw [HSd.out] at h; obtain ⟨r0, r1, r2, r3, r4, r5, r6, r7, r8, r9, rA, rB, rC, rD⟩ := h; go_simp; try with_reducible rfl
         go_simp
         have hb0 : Below wr.heap.size wr (World.drew wr) := (Below.refl _ _).drew
         refine pair4 (w0 := wr) 14 15 16 17 13 14 40 (z := .int .u64 0) rfl rfl rfl rfl (by decide) (by decide) (fun _ => rfl) (fun _ => rfl) (fun a' W => by go_simp) (fun a' W => by go_simp)
          (fun D D2 W K hO hK => by
           obtain ⟨t0, t1, t2, t3, f0, f1, f2, f3⟩ := hO.four
           have tl := hO.lt
           exact op_store (w' := set4 W D (.int .u64 ((A).1 : Int)) (.int .u64 ((A).2.1 : Int)) (.int .u64 ((A).2.2.1 : Int)) (.int .u64 ((A).2.2.2 : Int))) rfl (by kernel_rfl) 40 (.tmp 13) (.tmp 102) rfl _ _ rfl rfl (by go_simp; try rfl) hK)
          (fun D2 D W K hO hK => by
           obtain ⟨t0, t1, t2, t3, f0, f1, f2, f3⟩ := hO.four
           have tl := hO.lt
           exact op_store (w' := set4 W D (.int .u64 ((E).1 : Int)) (.int .u64 ((E).2.1 : Int)) (.int .u64 ((E).2.2.1 : Int)) (.int .u64 ((E).2.2.2 : Int))) rfl (by kernel_rfl) 40 (.tmp 14) (.tmp 109) rfl _ _ rfl rfl (by go_simp; try rfl) hK)
          HKS.out hb0 (fun D1 D2 W o1 o2 hW => ?_)
         refine wpAnyH_done (by kernel_rfl) ?_ _
         go_simp
         try go_wp2
         go_meet
         exact ⟨D1, D2, rfl, rfl, Lib.hid (show Own W D1 40 (wrdS A) from o1), Lib.hid (show Own W D2 40 (wrdS E) from o2), Lib.hid hW⟩
        case rest =>
         obtain ⟨D1, D2, rfl, rfl, H1, H2, HBc⟩ := hcut
         have HQc := Lib.hid (HQr.out.on HBc.out)
         have HNc := Lib.hid (HN.out.under HBc.out HN.out.lt)
         have y6 : wc.cell? ⟨B4, 6, none⟩ = some (.slice (some ⟨b2, off2, none⟩) nk kc) := HNc.out.cell 6
         have yl := HNc.out.lt
         have ml := HQc.out.1.lt
         have nl := HQc.out.2.1.lt
         have q0 := keepc HQ01.out.1 HBc.out
         have hb5 : b2 < wc.heap.size := World.block_lt_of_cell? wc _ q0
         have m0 := keepc HM.out.1 HBc.out
         have m1 := keepc HM.out.2.1 HBc.out
         have m2 := keepc HM.out.2.2.1 HBc.out
         have m3 := keepc HM.out.2.2.2 HBc.out
         have s0 := keepc HS0.out.1 HBc.out
         have s1 := keepc HS0.out.2.1 HBc.out
         have s2 := keepc HS0.out.2.2.1 HBc.out
         have s3 := keepc HS0.out.2.2.2 HBc.out
         have sl : B4 + 1 < wc.heap.size := World.block_lt_of_cell? wc _ s0
         have p0 : wc.cell? ⟨D1, 0, none⟩ = some (.int .u64 (A.1 : Int)) := H1.out.cell 0
         have p1 : wc.cell? ⟨D1, 1, none⟩ = some (.int .u64 (A.2.1 : Int)) := H1.out.cell 1
         have p2 : wc.cell? ⟨D1, 2, none⟩ = some (.int .u64 (A.2.2.1 : Int)) := H1.out.cell 2
         have p3 : wc.cell? ⟨D1, 3, none⟩ = some (.int .u64 (A.2.2.2 : Int)) := H1.out.cell 3
         have pl := H1.out.lt
         have v0 : wc.cell? ⟨D2, 0, none⟩ = some (.int .u64 (E.1 : Int)) := H2.out.cell 0
         have v1 : wc.cell? ⟨D2, 1, none⟩ = some (.int .u64 (E.2.1 : Int)) := H2.out.cell 1
         have v2 : wc.cell? ⟨D2, 2, none⟩ = some (.int .u64 (E.2.2.1 : Int)) := H2.out.cell 2
         have v3 : wc.cell? ⟨D2, 3, none⟩ = some (.int .u64 (E.2.2.2 : Int)) := H2.out.cell 3
         have vl := H2.out.lt
         have z0 : wc.cell? ⟨h, k0, none⟩ = some (.bool (nulG gr k0)) := (HQc.out.2.1.cell k0).trans (rowB_at _ nn k0 hk0)
         have C1 := Lib.hid (fun (dq : Nat) (os : Array Obj) => show Calls Try.prog 27 #[.agg #[.int .u64 (fk.1 : Int), .int .u64 (fk.2.1 : Int), .int .u64 (fk.2.2.1 : Int), .int .u64 (fk.2.2.2 : Int)], .agg #[.int .u64 (A.1 : Int), .int .u64 (A.2.1 : Int), .int .u64 (A.2.2.1 : Int), .int .u64 (A.2.2.2 : Int)]] (grow (redrawn wc dq) os) fun e w' => e = .returned (.agg #[.int .u64 (fk.1 : Int), .int .u64 (fk.2.1 : Int), .int .u64 (fk.2.2.1 : Int), .int .u64 (fk.2.2.2 : Int)]) ∧ Below (grow (redrawn wc dq) os).heap.size (grow (redrawn wc dq) os) w' from by
          have h := rors15 fk A HFF.out.2.2 HFF.out.1 (grow (redrawn wc dq) os)
          rw [HR1.out.1] at h
          exact h)
         have C3 := Lib.hid (fun (dq : Nat) (os : Array Obj) => show Calls Try.prog 27 #[.agg #[.int .u64 (s.1 : Int), .int .u64 (s.2.1 : Int), .int .u64 (s.2.2.1 : Int), .int .u64 (s.2.2.2 : Int)], .agg #[.int .u64 (fk.1 : Int), .int .u64 (fk.2.1 : Int), .int .u64 (fk.2.2.1 : Int), .int .u64 (fk.2.2.2 : Int)]] (grow (redrawn wc dq) os) fun e w' => e = .returned (.agg #[.int .u64 (s.1 : Int), .int .u64 (s.2.1 : Int), .int .u64 (s.2.2.1 : Int), .int .u64 (s.2.2.2 : Int)]) ∧ Below (grow (redrawn wc dq) os).heap.size (grow (redrawn wc dq) os) w' from by
          have h := rors15 s fk HFS.out HFF.out.2.2 (grow (redrawn wc dq) os)
          rw [HR1.out.2.2.2] at h
          exact h)
         have hqq : eqQS fk fk = true := eqQS_yes.2 rfl
         have hss : eqQS s s = true := eqQS_yes.2 rfl
         obtain ⟨nu, hnu⟩ : ∃ z, nulG gr k0 = z := ⟨_, rfl⟩
         have HRN := Lib.hid (show (nu = true → orS fk E = fk) ∧ (nu = false → A = fk) from by rw [← hnu]; exact ⟨HR1.out.2.1, HR1.out.2.2.1⟩)
         rw [hnu] at z0
         clear hnu
         cases nu with
         | true =>
          have C2 := Lib.hid (fun (dq : Nat) (os : Array Obj) => show Calls Try.prog 27 #[.agg #[.int .u64 (fk.1 : Int), .int .u64 (fk.2.1 : Int), .int .u64 (fk.2.2.1 : Int), .int .u64 (fk.2.2.2 : Int)], .agg #[.int .u64 (E.1 : Int), .int .u64 (E.2.1 : Int), .int .u64 (E.2.2.1 : Int), .int .u64 (E.2.2.2 : Int)]] (grow (redrawn wc dq) os) fun e w' => e = .returned (.agg #[.int .u64 (fk.1 : Int), .int .u64 (fk.2.1 : Int), .int .u64 (fk.2.2.1 : Int), .int .u64 (fk.2.2.2 : Int)]) ∧ Below (grow (redrawn wc dq) os).heap.size (grow (redrawn wc dq) os) w' from by
           have h := rors15 fk E HFF.out.2.2 HFF.out.2.1 (grow (redrawn wc dq) os)
           rw [HRN.out.1 rfl] at h
           exact h)
          have y6' := cell_regrown y6
          have q0' := cell_regrown q0
          have m0' := cell_regrown m0
          have m1' := cell_regrown m1
          have m2' := cell_regrown m2
          have m3' := cell_regrown m3
          have s0' := cell_regrown s0
          have s1' := cell_regrown s1
          have s2' := cell_regrown s2
          have s3' := cell_regrown s3
          have p0' := cell_regrown p0
          have p1' := cell_regrown p1
          have p2' := cell_regrown p2
          have p3' := cell_regrown p3
          have v0' := cell_regrown v0
          have v1' := cell_regrown v1
          have v2' := cell_regrown v2
          have v3' := cell_regrown v3
          have z0' := cell_regrown z0
          go_wp2_with fail
          refine wp_region_quiet_below (by kernel_rfl) (by kernel_rfl) ?_
          repeat (go_big_quiet_step (first
           | (go_at_call 27; with_reducible exact Calls.regrown_of (C1.out _ _))
           | (go_at_call 27; with_reducible exact Calls.regrown_of (C2.out _ _))
           | (go_at_call 27; with_reducible exact Calls.regrown_of (C3.out _ _))))
          refine wpQuiet_nil ?_
          intro _ hw'
          obtain ⟨⟨dq, osq⟩, hw''⟩ := hw'
          subst hw''
          have hbz := (below_regrown wc dq osq)
          have HQz := Lib.hid (HQc.out.on hbz)
          clear hbz
          go_wp2
          go_roundw
          case rel => exact ⟨k + 1, by go_num, by omega, HQz⟩
          case measure => simp [intOf]; omega
         | false =>
          have hfs : A = fk := HRN.out.2 rfl
          rw [hfs] at p0 p1 p2 p3 C1
          have y6' := cell_regrown y6
          have q0' := cell_regrown q0
          have m0' := cell_regrown m0
          have m1' := cell_regrown m1
          have m2' := cell_regrown m2
          have m3' := cell_regrown m3
          have s0' := cell_regrown s0
          have s1' := cell_regrown s1
          have s2' := cell_regrown s2
          have s3' := cell_regrown s3
          have p0' := cell_regrown p0
          have p1' := cell_regrown p1
          have p2' := cell_regrown p2
          have p3' := cell_regrown p3
          have v0' := cell_regrown v0
          have v1' := cell_regrown v1
          have v2' := cell_regrown v2
          have v3' := cell_regrown v3
          have z0' := cell_regrown z0
          go_wp2_with fail
          refine wp_region_quiet_below (by kernel_rfl) (by kernel_rfl) ?_
          repeat (go_big_quiet_step (first
           | (go_at_call 27; with_reducible exact Calls.regrown_of (C1.out _ _))
           | (go_at_call 27; with_reducible exact Calls.regrown_of (C3.out _ _))))
          refine wpQuiet_nil ?_
          intro _ hw'
          obtain ⟨⟨dq, osq⟩, hw''⟩ := hw'
          subst hw''
          have hbz := (below_regrown wc dq osq)
          have HQz := Lib.hid (HQc.out.on hbz)
          clear hbz
          go_wp2
          go_roundw
          case rel => exact ⟨k + 1, by go_num, by omega, HQz⟩
          case measure => simp [intOf]; omega
      ·
       go_wp2
       have hbz := Below.refl wr.heap.size wr
       have HQz := Lib.hid (HQr.out.on hbz)
       go_roundw
       case rel => exact ⟨k + 1, by go_num, by omega, HQz⟩
       case measure => simp [intOf]; omega
   ·
    have hkn1 : decide ((k : Int) < nn) = false := decide_eq_false hkn
    have hkn2 : decide (k < nn) = false := decide_eq_false (by omega)
    have HAW := Lib.hid (awake15_any w0)
    go_wp2_with fail
    refine HAW.out.mono ?_
    rintro e w5 ⟨he, hb5⟩
    subst he
    have HBZ := Lib.hid (HB3.out.trans ((HQk.out.2.2.trans (hb5.mono HQk.out.2.2.size)).mono HB3.out.size))
    clear hb5
    go_wp2
    go_ret
    exact ⟨rfl, HBZ.out⟩
end Go.Proofs.Ytbjgojdpfehnmaa
