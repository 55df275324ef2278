/- LeadRules: the law's own, walked. -/
import Derived.Test.YtbjgojdpfehnmaaMd
import Derived.Test.YtbjgojdpfehnmaaGdC
import Derived.Deep.RegionWith
import Derived.Deep.CutBlock
namespace Go.Proofs.Ytbjgojdpfehnmaa
set_option linter.unusedVariables false
open Go.RowKit Go.Sort
/-- 'wpAnyH_take', its closed premises laid in. -/
theorem tkV {P : Program} {ops : Array Oper} {Q : Exit → Act → World → Prop} {md : Region.Mode} {S : World → Prop} (i : Nat) {oi : Oper} (v : Value) {fuel : Nat} {listed : Array Bool} {a : Act} {w : World} (hi : ops[i]? = some oi) (hS : S w) (hy : YieldsIf P ops S oi v a)
 (h : wpAnyH P md ops Q S fuel (listed.setIfInBounds i true) (a.put oi.dst v) w) (hs : Region.noSelect ops = true := by kernel_rfl) (hf : Region.free md ops listed i = true := by kernel_rfl) (hr : (Region.ready md ops listed).contains i = true := by kernel_rfl)
 (hQ : ∀ c a w, Q (.panic c) (a.put oi.dst v) w → Q (.panic c) a w := by exact fun _ _ _ h => h) : wpAnyH P md ops Q S (fuel + 1) listed a w :=
 wpAnyH_take hi hs hf hr hQ hy hS h
theorem op_fiv3 (o : Int) : (o = 13 ∨ o = 6 ∨ o = 12) ∨ (o = 9 ∨ o = 10) ∨ ((o == 13) = false ∧ (o == 6) = false ∧ (o == 12) = false ∧ (o == 9) = false ∧ (o == 10) = false) := by
 simp only [beq_eq_false_iff_ne]; omega
theorem nextL_in {gr : Gj} (hg : Good gr) : ∀ n, n < gr.ns.length → ∀ k ∈ nextL gr n, k < gr.ns.length := fun n hn => nextL_lt hg (fun _ h => bodyG_lt hg h) hn
/-- What stands for itself has no sea first, and is no reference. -/
theorem term_ops {gr : Gj} {n : Nat} {x : Nj} (hx : gr.ns[n]? = some x) (ha : Ar x) (h : termB gr n = true) : ledG gr n = false ∧ (x.op = 1 ∨ x.op = 2 ∨ x.op = 3 ∨ x.op = 4 ∨ x.op = 5) := by
 rw [termB_eq hx] at h
 have hn := (List.getElem?_eq_some_iff.1 hx).1
 have hk := ha.kids
 split at h
 ·
  cases h
 next ho =>
 cases hq : ledG gr n with
 | false =>
  refine ⟨rfl, ?_⟩
  rw [hq] at h
  unfold kidsB at hk
  by_cases h4 : x.op = 4
  ·
   omega
  by_cases h5 : x.op = 5
  ·
   omega
  have he : x.ks = [] := by simpa [h4, h5] using h
  rw [he] at hk
  by_cases h1 : x.op = 1 ∨ x.op = 2 ∨ x.op = 3 ∨ x.op = 11
  ·
   omega
  ·
   exfalso
   rw [if_neg h1, if_neg (by omega)] at hk
   split at hk <;> simp at hk
 | true =>
  exfalso
  rw [hq] at h
  have he : x.ks = [] := by simpa using h
  have hf := ledG_fix gr n hn
  rw [hq] at hf
  unfold ledB at hf
  rw [hx] at hf
  have hf : true = (if x.op = 13 then true else if x.op = 9 ∨ x.op = 10 then false else if x.op = 11 then ledG gr (bodyG gr n) else if x.op = 4 then (frontL (nulG gr) x.ks).any (ledG gr) else x.ks.any (ledG gr)) := hf
  rw [he] at hf hk
  by_cases h13 : x.op = 13
  ·
   rw [h13] at hk; revert hk; decide
  ·
   rw [if_neg h13, if_neg (fun e => ho (.inr e)), if_neg (fun e => ho (.inl e))] at hf
   split at hf <;> simp [frontL] at hf
theorem Rch.lt {gr : Gj} (hN : ∀ n, n < gr.ns.length → ∀ k ∈ nextL gr n, k < gr.ns.length) {n j : Nat} (h : Rch gr n j) : n < gr.ns.length → j < gr.ns.length := by
 induction h with
 | refl n => exact fun h => h
 | step hk _ ih => exact fun h => ih (hN _ h _ hk)
theorem leadI_eq {gr : Gj} {n : Nat} (hn : n < gr.ns.length) : leadI gr (n : Int) = leadG gr n := by unfold leadI; rw [if_pos (by omega), Int.toNat_natCast]
theorem lead_ops {gr : Gj} (hg : Good gr) (har : ∀ x ∈ gr.ns, Ar x) {n : Nat} (hn : n < gr.ns.length) : RisL (leadI gr (n : Int)) ∧ ∀ y ∈ leadI gr (n : Int), ∃ j x, y = ((j : Nat) : Int) ∧ gr.ns[j]? = some x ∧ ledG gr j = false ∧ (x.op = 1 ∨ x.op = 2 ∨ x.op = 3 ∨ x.op = 4 ∨ x.op = 5) := by
 rw [leadI_eq hn]
 obtain ⟨h1, h2⟩ := leadG_mem (nextL_in hg) hn
 refine ⟨h1, fun y hy => ?_⟩
 obtain ⟨j, e, hr, ht⟩ := (h2 y).1 hy
 have hj := hr.lt (nextL_in hg) hn
 obtain ⟨x, hx⟩ : ∃ x, gr.ns[j]? = some x := ⟨_, List.getElem?_eq_getElem hj⟩
 obtain ⟨q1, q2⟩ := term_ops hx (har x (List.mem_of_getElem? hx)) ht
 exact ⟨j, x, e, hx, q1, q2⟩
theorem lead_kid {gr : Gj} (hg : Good gr) {n k : Nat} {x : Nj} (hx : gr.ns[n]? = some x) (hk : x.ks = [k]) (ho : x.op = 13 ∨ x.op = 6 ∨ x.op = 12) : leadI gr (n : Int) = leadI gr (k : Int) := by
 have hn := (List.getElem?_eq_some_iff.1 hx).1
 have hkn : k < gr.ns.length := hg.kid x (List.mem_of_getElem? hx) k (by rw [hk]; exact List.mem_singleton.2 rfl)
 have b4 : (x.op == 4) = false := beq_eq_false_iff_ne.2 (by omega)
 have b5 : (x.op == 5) = false := beq_eq_false_iff_ne.2 (by omega)
 rw [leadI_eq hn, leadI_eq hkn]
 refine leadG_one (nextL_in hg) hn ?_ ?_
 ·
  rw [nextL_eq hx, if_neg (by omega), if_neg (by omega), hk, b4, b5]
  rw [if_neg (by simp), if_neg (by omega)]
 ·
  rw [termB_eq hx, if_neg (by omega), hk, b4, b5]
  simp
theorem lead_look {gr : Gj} (hg : Good gr) {n : Nat} {x : Nj} (hx : gr.ns[n]? = some x) (ho : x.op = 9 ∨ x.op = 10) : leadI gr (n : Int) = [] := by
 have hn := (List.getElem?_eq_some_iff.1 hx).1
 rw [leadI_eq hn]
 refine leadG_none (nextL_in hg) hn ?_ ?_
 ·
  rw [nextL_eq hx, if_neg (by omega), if_pos ho]
 ·
  rw [termB_eq hx, if_pos (.inr ho)]
theorem lead_len {gr : Gj} (hg : Good gr) (har : ∀ x ∈ gr.ns, Ar x) {n : Nat} (hn : n < gr.ns.length) : ((leadI gr (n : Int)).length : Int) ≤ 1000 := by
 have h1 := visF_fnd gr (fun _ => True) (fun _ _ _ _ => trivial) (gr.ns.length + 1) n (fun _ => false, []) trivial ⟨fun _ _ => trivial, fun x => ⟨fun h => (by cases h), fun ⟨j, _, h, _⟩ => (by cases h)⟩, trivial⟩
 obtain ⟨hr, hm⟩ := lead_ops hg har hn
 have key : ∀ (L : List Int) (b : Nat), RisL L → (∀ y ∈ L, (b : Int) ≤ y ∧ y < (gr.ns.length : Int)) → b ≤ gr.ns.length → L.length + b ≤ gr.ns.length := by
  intro L
  induction L with
  | nil => intro b _ _ hb; simpa using hb
  | cons z r ih =>
   intro b hr hy hb
   obtain ⟨z1, z2⟩ := hy z (List.mem_cons_self ..)
   have := ih (z.toNat + 1) hr.2 (fun y hyy => ⟨by have := hr.1 y hyy; omega, (hy y (List.mem_cons_of_mem _ hyy)).2⟩) (by omega)
   rw [List.length_cons]
   omega
 have := key (leadI gr (n : Int)) 0 hr (fun y hy => by obtain ⟨j, x, e, hx, -, -⟩ := hm y hy; have := (List.getElem?_eq_some_iff.1 hx).1; omega) (Nat.zero_le _)
 have := hg.len
 omega
set_option maxRecDepth 1000000 in
set_option maxHeartbeats 9600000 in
theorem rul13_walk (l : List ByteArray) (ao : Option Addr) (cap : Nat) (s : ByteArray) (w : World) (hl : HasN w ao l) : Calls Try.prog 4 #[.slice ao l.length cap, .string s] w fun e w' => e = .returned (.bool true) ∧ Below w.heap.size w w' := by
 have HJD := Lib.hid (joined13_any l ao cap s w hl)
 obtain ⟨R, hR⟩ : ∃ R, jndO l s = R := ⟨_, rfl⟩
 have HR := Lib.hid hR
 rw [hR] at HJD
 obtain ⟨nl, hnl⟩ : ∃ n, l.length = n := ⟨_, rfl⟩
 rw [hnl] at HJD
 rw [hnl]
 clear hl hR hnl
 go_enter Try.func4, Try.ntmps4
 go_wp2_with fail
 refine HJD.out.mono ?_
 rintro e w2 ⟨hE, hb2⟩
 have HB2 := Lib.hid hb2
 clear hb2 HJD
 cases R with
 | none =>
  have hE' : e = .returned (.tuple #[.agg #[.slice none 0 0, .slice none 0 0, .slice none 0 0, .slice none 0 0, .int .i64 0], .bool false]) := hE
  subst hE'
  have hbl : Below w2.heap.size w2 (w2.alloc (.cells #[.slice none 0 0, .slice none 0 0, .slice none 0 0, .slice none 0 0, .int .i64 0] 27)) := (Below.refl _ _).alloc (Nat.le_refl _) _
  have HB3 := Lib.hid (HB2.out.trans (hbl.mono HB2.out.size))
  clear hbl hE
  go_upto_region 2 with fail
  generalize w2.alloc (.cells #[.slice none 0 0, .slice none 0 0, .slice none 0 0, .slice none 0 0, .int .i64 0] 27) = w3 at *
  have HAW := Lib.hid (awake13_any w3)
  go_wp2_with fail
  refine HAW.out.mono ?_
  rintro e w4 ⟨he, hb4⟩
  subst he
  have HB4 := Lib.hid (HB3.out.trans (hb4.mono HB3.out.size))
  clear hb4
  go_wp2
  go_ret
  exact ⟨rfl, HB4.out⟩
 | some gr =>
  obtain ⟨a, he, hG⟩ : ∃ a, e = .returned (.tuple #[grv gr a, .bool true]) ∧ HasG w2 gr a := hE
  subst he
  have hg : Good gr := jnd_good HR.out
  have HGD := Lib.hid hg
  have har := jnd_ar HR.out
  have HAR := Lib.hid har
  have hbl : Below w2.heap.size w2 (w2.alloc (.cells #[.slice a.mo gr.ms.length a.mc, .slice a.no gr.ns.length a.nc, .slice a.ho gr.hs.length a.hc, .slice a.wo gr.ws.length a.wc, .int .i64 gr.st] 27)) := (Below.refl _ _).alloc (Nat.le_refl _) _
  have HB3 := Lib.hid (HB2.out.trans (hbl.mono HB2.out.size))
  have HG3 := Lib.hid (hG.below hbl)
  have HO3 := Lib.hid (Own.fresh w2 27 [.slice a.mo gr.ms.length a.mc, .slice a.no gr.ns.length a.nc, .slice a.ho gr.hs.length a.hc, .slice a.wo gr.ws.length a.wc, .int .i64 gr.st])
  have HN := Lib.hid (fun W (h : HasG W gr a) => pled_any gr a hg W h)
  have HLE := Lib.hid (fun (k : Int) W (h : HasG W gr a) => plead_any gr a hg k W h)
  have HOP2 := Lib.hid (fun n hn => lead_ops hg har (n := n) hn)
  have HLEN := Lib.hid (fun n hn => lead_len hg har (n := n) hn)
  unfold BoE at HN
  unfold LeE at HLE
  unfold grv
  unfold grv at HN HLE
  have hn160 := hg.len
  obtain ⟨nn, hnn⟩ : ∃ z, gr.ns.length = z := ⟨_, rfl⟩
  obtain ⟨nh, hnh⟩ : ∃ z, gr.hs.length = z := ⟨_, rfl⟩
  obtain ⟨nms, hnms⟩ : ∃ z, gr.ms.length = z := ⟨_, rfl⟩
  obtain ⟨nw, hnw⟩ : ∃ z, gr.ws.length = z := ⟨_, rfl⟩
  have HNN := Lib.hid (And.intro hnn hnh)
  simp only [hnn, hnh, hnms, hnw] at HB3 HG3 HO3 HN HLE hbl HOP2 HLEN
  rw [hnn] at hn160
  rw [hnn, hnh, hnms, hnw]
  clear hnn hnh hnms hnw hG hg hbl har
  go_upto_region 2 with fail
  obtain ⟨B, hB⟩ : ∃ B, w2.heap.size = B := ⟨_, rfl⟩
  rw [hB] at HO3
  generalize w2.alloc (.cells #[.slice a.mo nms a.mc, .slice a.no nn a.nc, .slice a.ho nh a.hc, .slice a.wo nw a.wc, .int .i64 gr.st] 27) = w3 at *
  try rw [hB]
  clear hB HB2
  have HC := Lib.hid (show ∀ W, Below w3.heap.size w3 W → W.cell? ⟨B, 0, none⟩ = some (.slice a.mo nms a.mc) ∧ W.cell? ⟨B, 1, none⟩ = some (.slice a.no nn a.nc) ∧ W.cell? ⟨B, 2, none⟩ = some (.slice a.ho nh a.hc) ∧ W.cell? ⟨B, 3, none⟩ = some (.slice a.wo nw a.wc) ∧ W.cell? ⟨B, 4, none⟩ = some (.int .i64 gr.st) ∧ B < W.heap.size from fun W h => by
   have q := HO3.out.under h HO3.out.lt
   exact ⟨q.cell 0, q.cell 1, q.cell 2, q.cell 3, q.cell 4, q.lt⟩)
  obtain ⟨g0, g1, g2, g3, g4, gl⟩ := HC.out w3 (Below.refl _ _)
  go_wp2_with fail
  refine (HN.out w3 HG3.out).mono ?_
  rintro e w5 ⟨g, rfl, hO, hgs, hb5⟩
  have HQ := Lib.hid (show Own w5 g 4 (rowB (ledG gr) nn) ∧ Below w3.heap.size w3 w5 from ⟨hO, hb5⟩)
  clear hO hgs hb5 HN g0 g1 g2 g3 g4 gl
  obtain ⟨k0, k1, k2, k3, k4, kl⟩ := HC.out w5 HQ.out.2
  go_wp2_with fail
  go_loopw [8] (fun v8 wr => ∃ k : Nat, v8 = .int .i64 (k : Int) ∧ (k : Int) ≤ nn ∧ Hid (Own wr g 4 (rowB (ledG gr) nn) ∧ Below w3.heap.size w3 wr)) (fun v8 _ => nn - (intOf v8).toNat)
  case atStart => exact ⟨0, rfl, by omega, HQ⟩
  case round =>
   obtain ⟨k, rfl, hk, HQk⟩ := hrel
   clear k0 k1 k2 k3 k4 kl HQ
   obtain ⟨k0, k1, k2, k3, k4, kl⟩ := HC.out wr HQk.out.2
   by_cases hkn : (k : Int) < nn
   ·
    have hkn1 : decide ((k : Int) < nn) = true := decide_eq_true hkn
    have hkn2 : decide (k < nn) = true := decide_eq_true (by omega)
    have hw1 : IntKind.i64.wrap ((k : Int) + 1) = (k : Int) + 1 := by rw [IntKind.wrap_i64]; omega
    obtain ⟨x, hx⟩ : ∃ x, gr.ns[k]? = some x := ⟨_, List.getElem?_eq_getElem (by have := HNN.out.1; omega)⟩
    have HX := Lib.hid hx
    have HARX := Lib.hid (HAR.out x (List.mem_of_getElem? hx))
    obtain ⟨hris, hops⟩ := HOP2.out k (by omega)
    have HRIS := Lib.hid hris
    have HOPS := Lib.hid hops
    have HLL := Lib.hid (HLEN.out k (by omega))
    have HCA := Lib.hid (HLE.out (k : Int) wr (HG3.out.below HQk.out.2))
    obtain ⟨F, hF⟩ : ∃ F, leadI gr (k : Int) = F := ⟨_, rfl⟩
    have HFE := Lib.hid hF
    rw [hF] at HCA HRIS HOPS HLL
    clear hx hris hops hF
    go_wp2_with fail
    refine HCA.out.mono ?_
    rintro e w6 ⟨vF, he, hI, hb6⟩
    subst he
    have HI := Lib.hid hI
    have HQ6 := Lib.hid (show Own w6 g 4 (rowB (ledG gr) nn) ∧ Below w3.heap.size w3 w6 from ⟨HQk.out.1.under hb6 HQk.out.1.lt, HQk.out.2.trans (hb6.mono HQk.out.2.size)⟩)
    obtain ⟨fo, fc, rfl, hfc, hfcell⟩ := hI
    have HFC := Lib.hid hfcell
    obtain ⟨m, hm⟩ : ∃ m, F.length = m := ⟨_, rfl⟩
    have HM := Lib.hid hm
    rw [hm] at HLL HI
    rw [hm]
    have hm1000 := HLL.out
    clear k0 k1 k2 k3 k4 kl hb6 hfc hfcell hm HQk HCA
    go_wp2_with fail
    go_loopw [10] (fun v10 wq => ∃ j : Nat, v10 = .int .i64 (j : Int) ∧ (j : Int) ≤ m ∧ Hid (Below w6.heap.size w6 wq)) (fun v10 _ => m - (intOf v10).toNat)
    case atStart => exact ⟨0, rfl, by omega, Lib.hid (Below.refl _ _)⟩
    case round =>
     obtain ⟨j, rfl, hj, HBr⟩ := hrel
     have HQr := Lib.hid (show Own wr g 4 (rowB (ledG gr) nn) ∧ Below w3.heap.size w3 wr from ⟨HQ6.out.1.under HBr.out HQ6.out.1.lt, HQ6.out.2.trans (HBr.out.mono HQ6.out.2.size)⟩)
     obtain ⟨k0, k1, k2, k3, k4, kl⟩ := HC.out wr HQr.out.2
     by_cases hjm : (j : Int) < m
     ·
      have hj1 : decide ((j : Int) < (m : Int)) = true := decide_eq_true hjm
      have hj2 : decide (j < m) = true := decide_eq_true (by omega)
      have hw2 : IntKind.i64.wrap ((j : Int) + 1) = (j : Int) + 1 := by rw [IntKind.wrap_i64]; omega
      obtain ⟨fb, foff, hfo, hfl, -, f0⟩ := HFC.out j (by have := HM.out; omega)
      obtain ⟨q, xq, hq, hxq, hled, hopq⟩ := HOPS.out (F.getD j 0) (by rw [List.getD_eq_getElem?_getD, List.getElem?_eq_getElem (by have := HM.out; omega)]; exact List.getElem_mem _)
      have HQE := Lib.hid hq
      have HOQ := Lib.hid hopq
      rw [hq] at f0
      have f0 := keepc f0 HBr.out
      have fl : fb < wr.heap.size := World.block_lt_of_cell? wr _ f0
      have hqn : q < nn := by have := (List.getElem?_eq_some_iff.1 hxq).1; have := HNN.out.1; omega
      have hq0 : decide ((q : Int) < 0) = false := decide_eq_false (by omega)
      have hq1 : decide ((q : Int) < (nn : Int)) = true := decide_eq_true (by omega)
      have hq2 : decide (q < nn) = true := decide_eq_true hqn
      have hq3 : decide ((nn : Int) ≤ (q : Int)) = false := decide_eq_false (by omega)
      have hq4 : decide (nn ≤ q) = false := decide_eq_false (by omega)
      have m0 : wr.cell? ⟨g, q, none⟩ = some (.bool false) := by rw [HQr.out.1.cell q, rowB_at _ nn q hqn, hled]
      have ml := HQr.out.1.lt
      obtain ⟨b, off, ko, kc, hno, hb, -, c0, -, -, -, -, -, -, -, -, -, -⟩ := (HG3.out.below HQr.out.2).1 q xq hxq
      rw [hno] at k1
      have hprev : ∀ i : Nat, j = i + 1 → ∃ y1, wr.cell? ⟨fb, foff + i, none⟩ = some (.int .i64 y1) ∧ y1 < (q : Int) := fun i hi => by
       obtain ⟨fb2, foff2, hfo2, -, -, f1⟩ := HFC.out i (by have := HM.out; omega)
       obtain ⟨rfl, rfl⟩ : fb = fb2 ∧ foff = foff2 := by rw [hfo] at hfo2; injection hfo2 with h1; injection h1 with h1 h2; exact ⟨h1, h2⟩
       refine ⟨_, keepc f1 HBr.out, ?_⟩
       have hlt := HRIS.out.step (k := i) (x := F.getD i 0) (y := F.getD (i + 1) 0) (by rw [List.getD_eq_getElem?_getD, List.getElem?_eq_getElem (by have := HM.out; omega)]; rfl) (by rw [List.getD_eq_getElem?_getD, List.getElem?_eq_getElem (by have := HM.out; omega)]; rfl)
       rw [← hi, hq] at hlt
       exact hlt
      have HPV := Lib.hid hprev
      subst hfo
      clear hprev hq hxq hled hopq hfl hno
      obtain ⟨oq, hoq⟩ : ∃ o, xq.op = o := ⟨_, rfl⟩
      rw [hoq] at c0 HOQ
      clear hoq
      cases j with
      | zero =>
       as_aux_lemma =>
        have hj0 : decide ((0 : Int) < 0) = false := rfl
        have hz1 : decide ((0 : Int) < (m : Int)) = true := decide_eq_true (by omega)
        have hz2 : decide (0 < m) = true := decide_eq_true (by omega)
        have fz : wr.cell? ⟨fb, foff, none⟩ = some (.int .i64 (q : Int)) := f0
        go_wp2_with fail
        go_quiet (fail)
        go_wp2_with fail
        go_quiet (fail)
        rcases HOQ.out with rfl | rfl | rfl | rfl | rfl
        all_goals
         go_wp2
         go_roundw
         case rel => exact ⟨1, by go_num, by omega, Lib.hid (below_drewN HBr.out _)⟩
         case measure => simp [intOf]; omega
      | succ i =>
       as_aux_lemma =>
        obtain ⟨y1, f1, hlt⟩ := HPV.out i rfl
        have hj0 : decide ((0 : Int) < ((i + 1 : Nat) : Int)) = true := decide_eq_true (by omega)
        have hj3 : decide (0 < i + 1) = true := rfl
        have hw3 : IntKind.i64.wrap (((i + 1 : Nat) : Int) - 1) = (i : Int) := by rw [IntKind.wrap_i64]; omega
        have hw4 : IntKind.i64.wrap ((i : Int) + 1 - 1) = (i : Int) := by rw [IntKind.wrap_i64]; omega
        have hi1 : decide ((i : Int) < (m : Int)) = true := decide_eq_true (by omega)
        have hi2 : decide (i < m) = true := decide_eq_true (by omega)
        have hge : decide ((q : Int) ≤ y1) = false := decide_eq_false (by omega)
        go_wp2_with fail
        go_quiet (fail)
        go_wp2_with fail
        go_quiet (fail)
        rcases HOQ.out with rfl | rfl | rfl | rfl | rfl
        all_goals
         go_wp2
         go_roundw
         case rel => exact ⟨i + 1 + 1, by go_num, by omega, Lib.hid (below_drewN HBr.out _)⟩
         case measure => simp [intOf]; omega
     ·
      have hj1 : decide ((j : Int) < (m : Int)) = false := decide_eq_false hjm
      have hj2 : decide (j < m) = false := decide_eq_false (by omega)
      obtain ⟨b, off, ko, kc, hno, hb, -, c0, c1, c2, c3, c4, c5, c6, c7, c8, c9, hkk⟩ := (HG3.out.below HQr.out.2).1 k x HX.out
      obtain ⟨nk, hnk⟩ : ∃ z, x.ks.length = z := ⟨_, rfl⟩
      have HNK := Lib.hid hnk
      obtain ⟨op, hop⟩ : ∃ z, x.op = z := ⟨_, rfl⟩
      have HOP := Lib.hid hop
      rw [hnk] at c6
      rw [hop] at c0
      rw [hno] at k1
      have HNO := Lib.hid hno
      have hbl : Below wr.heap.size wr (wr.alloc (.cells #[.int .i64 op, .string x.tx, .int .u64 x.s0, .int .u64 x.s1, .int .u64 x.s2, .int .u64 x.s3, .slice ko nk kc, .int .i64 x.tg, .int .i64 (x.mo : Int), .int .i64 x.ru] 42)) := (Below.refl _ _).alloc (Nat.le_refl _) _
      have HQ7 := Lib.hid (show Own (wr.alloc (.cells #[.int .i64 op, .string x.tx, .int .u64 x.s0, .int .u64 x.s1, .int .u64 x.s2, .int .u64 x.s3, .slice ko nk kc, .int .i64 x.tg, .int .i64 (x.mo : Int), .int .i64 x.ru] 42)) g 4 (rowB (ledG gr) nn) ∧ Below w3.heap.size w3 (wr.alloc (.cells #[.int .i64 op, .string x.tx, .int .u64 x.s0, .int .u64 x.s1, .int .u64 x.s2, .int .u64 x.s3, .slice ko nk kc, .int .i64 x.tg, .int .i64 (x.mo : Int), .int .i64 x.ru] 42)) from ⟨HQr.out.1.under hbl HQr.out.1.lt, HQr.out.2.trans (hbl.mono HQr.out.2.size)⟩)
      have HB7 := Lib.hid (HBr.out.trans (hbl.mono HBr.out.size))
      have HK7 := Lib.hid (hkk.below hbl)
      have HN7 := Lib.hid (Own.fresh wr 42 [.int .i64 op, .string x.tx, .int .u64 x.s0, .int .u64 x.s1, .int .u64 x.s2, .int .u64 x.s3, .slice ko nk kc, .int .i64 x.tg, .int .i64 (x.mo : Int), .int .i64 x.ru])
      clear hkk hbl hnk hop hno
      go_upto_region 20 with fail
      obtain ⟨X, hX⟩ : ∃ z, wr.heap.size = z := ⟨_, rfl⟩
      rw [hX] at HN7
      generalize wr.alloc (.cells #[.int .i64 op, .string x.tx, .int .u64 x.s0, .int .u64 x.s1, .int .u64 x.s2, .int .u64 x.s3, .slice ko nk kc, .int .i64 x.tg, .int .i64 (x.mo : Int), .int .i64 x.ru] 42) = w7 at *
      try rw [hX]
      clear c0 c1 c2 c3 c4 c5 c6 c7 c8 c9 hb k0 k1 k2 k3 k4 kl hX HQr HBr
      have y0 : w7.cell? ⟨X, 0, none⟩ = some (.int .i64 op) := HN7.out.cell 0
      have y6 : w7.cell? ⟨X, 6, none⟩ = some (.slice ko nk kc) := HN7.out.cell 6
      have yl := HN7.out.lt
      rcases op_fiv3 op with h3 | h2 | ⟨h13, h6, h12, h9, h10⟩
      ·
       have hn1 : nk = 1 := by
        have q := HARX.out.kids
        rw [HOP.out, HNK.out] at q
        unfold kidsB at q
        rcases h3 with rfl | rfl | rfl <;> simpa using q
       subst hn1
       obtain ⟨q, hq⟩ : ∃ q, x.ks = [q] := List.length_eq_one_iff.1 HNK.out
       have HLK := Lib.hid (lead_kid HGD.out HX.out hq (by rw [HOP.out]; exact h3))
       obtain ⟨b2, off2, hko, hb2, -, q0⟩ := HK7.out 0 q (by rw [hq]; rfl)
       have q0 : w7.cell? ⟨b2, off2, none⟩ = some (.int .i64 (q : Int)) := q0
       have l0 : w7.cell? ⟨g, k, none⟩ = some (.bool (ledG gr k)) := by rw [HQ7.out.1.cell k]; exact rowB_at _ nn k (by omega)
       have hlt : op = 13 → ledG gr k = true := fun e => by
        rw [ledG_fix gr k (by have := HNN.out.1; omega)]
        unfold ledB
        rw [HX.out]
        show (if x.op = 13 then true else _) = true
        rw [if_pos (HOP.out.trans e)]
       obtain ⟨lk, hlk⟩ : ∃ z, ledG gr k = z := ⟨_, rfl⟩
       rw [hlk] at l0 hlt
       clear hlk
       obtain ⟨k0, k1, k2, k3, k4, kl⟩ := HC.out w7 HQ7.out.2
       have gl := HQ7.out.1.lt
       subst hko
       obtain ⟨S, HS⟩ : ∃ S : World → Prop, Hid (S = fun Wx => Wx.cell? ⟨B, 0, none⟩ = some (.slice a.mo nms a.mc) ∧ Wx.cell? ⟨B, 1, none⟩ = some (.slice a.no nn a.nc) ∧ Wx.cell? ⟨B, 2, none⟩ = some (.slice a.ho nh a.hc) ∧ Wx.cell? ⟨B, 3, none⟩ = some (.slice a.wo nw a.wc) ∧ Wx.cell? ⟨B, 4, none⟩ = some (.int .i64 gr.st) ∧ B < Wx.heap.size ∧ Wx.cell? ⟨X, 0, none⟩ = some (.int .i64 op) ∧ Wx.cell? ⟨X, 6, none⟩ = some (.slice (some ⟨b2, off2, none⟩) 1 kc) ∧ X < Wx.heap.size ∧ Wx.cell? ⟨b2, off2, none⟩ = some (.int .i64 (q : Int)) ∧ b2 < Wx.heap.size ∧ Wx.cell? ⟨g, k, none⟩ = some (.bool lk) ∧ g < Wx.heap.size) := ⟨_, Lib.hid rfl⟩
       have HKS : Hid (∀ W, Below w7.heap.size w7 W → S W) := Lib.hid (fun W h => by rw [HS.out]; exact ⟨keepc k0 h, keepc k1 h, keepc k2 h, keepc k3 h, keepc k4 h, Nat.lt_of_lt_of_le kl h.size, keepc y0 h, keepc y6 h, Nat.lt_of_lt_of_le yl h.size, keepc q0 h, Nat.lt_of_lt_of_le hb2 h.size, keepc l0 h, Nat.lt_of_lt_of_le gl h.size⟩)
       have HSS := Lib.hid (HKS.out (World.drew w7) (Below.refl _ _).drew)
       clear k0 k1 k2 k3 k4 kl y0 y6 yl q0 hb2 l0 gl
       rcases h3 with rfl | rfl | rfl
       all_goals as_aux_lemma =>
        try (have hl := hlt rfl; subst hl)
        refine wp_region_held (S := S) (by kernel_rfl) ?_
        change wpAnyH _ _ _ _ _ _ _ _ (World.drew _)
        refine tkV 0 ?_ rfl HSS.out (Or.inl ⟨by rfl, ?_⟩) ?_; rotate_left; · intro W h; rw [HS.out] at h; obtain ⟨_,_,_,_,_,_,_,_,_,_,_,_,_⟩ := h; go_simp; try with_reducible rfl
        go_simp
        refine tkV 1 ?_ rfl HSS.out (Or.inl ⟨by rfl, ?_⟩) ?_; rotate_left; · intro W h; rw [HS.out] at h; obtain ⟨_,_,_,_,_,_,_,_,_,_,_,_,_⟩ := h; go_simp; try with_reducible rfl
        go_simp
        refine tkV 2 ?_ rfl HSS.out (Or.inl ⟨by rfl, ?_⟩) ?_; rotate_left; · intro W h; rw [HS.out] at h; obtain ⟨_,_,_,_,_,_,_,_,_,_,_,_,_⟩ := h; go_simp; try with_reducible rfl
        go_simp
        refine tkV 3 ?_ rfl HSS.out (Or.inl ⟨by rfl, ?_⟩) ?_; rotate_left; · intro W h; rw [HS.out] at h; obtain ⟨_,_,_,_,_,_,_,_,_,_,_,_,_⟩ := h; go_simp; try with_reducible rfl
        go_simp
        first | (refine tkV 4 undef rfl HSS.out (Or.inr ⟨by rfl, rfl⟩) ?_) | (refine tkV 4 ?_ rfl HSS.out (Or.inl ⟨by rfl, ?_⟩) ?_; rotate_left; · intro W h; rw [HS.out] at h; obtain ⟨_,_,_,_,_,_,_,_,_,_,_,_,_⟩ := h; go_simp; try with_reducible rfl)
        go_simp
        first | (refine tkV 5 undef rfl HSS.out (Or.inr ⟨by rfl, rfl⟩) ?_) | (refine tkV 5 ?_ rfl HSS.out (Or.inl ⟨by rfl, ?_⟩) ?_; rotate_left; · intro W h; rw [HS.out] at h; obtain ⟨_,_,_,_,_,_,_,_,_,_,_,_,_⟩ := h; go_simp; try with_reducible rfl)
        go_simp
        first | (refine tkV 6 undef rfl HSS.out (Or.inr ⟨by rfl, rfl⟩) ?_) | (refine tkV 6 ?_ rfl HSS.out (Or.inl ⟨by rfl, ?_⟩) ?_; rotate_left; · intro W h; rw [HS.out] at h; obtain ⟨_,_,_,_,_,_,_,_,_,_,_,_,_⟩ := h; go_simp; try with_reducible rfl)
        go_simp
        refine tkV 7 ?_ rfl HSS.out (Or.inl ⟨by rfl, ?_⟩) ?_; rotate_left; · intro W h; rw [HS.out] at h; obtain ⟨_,_,_,_,_,_,_,_,_,_,_,_,_⟩ := h; go_simp; try with_reducible rfl
        go_simp
        refine tkV 8 ?_ rfl HSS.out (Or.inl ⟨by rfl, ?_⟩) ?_; rotate_left; · intro W h; rw [HS.out] at h; obtain ⟨_,_,_,_,_,_,_,_,_,_,_,_,_⟩ := h; go_simp; try with_reducible rfl
        go_simp
        first | (refine tkV 9 undef rfl HSS.out (Or.inr ⟨by rfl, rfl⟩) ?_) | (refine tkV 9 ?_ rfl HSS.out (Or.inl ⟨by rfl, ?_⟩) ?_; rotate_left; · intro W h; rw [HS.out] at h; obtain ⟨_,_,_,_,_,_,_,_,_,_,_,_,_⟩ := h; go_simp; try with_reducible rfl)
        go_simp
        first | (refine tkV 10 undef rfl HSS.out (Or.inr ⟨by rfl, rfl⟩) ?_) | (refine tkV 10 ?_ rfl HSS.out (Or.inl ⟨by rfl, ?_⟩) ?_; rotate_left; · intro W h; rw [HS.out] at h; obtain ⟨_,_,_,_,_,_,_,_,_,_,_,_,_⟩ := h; go_simp; try with_reducible rfl)
        go_simp
        first | (refine tkV 11 undef rfl HSS.out (Or.inr ⟨by rfl, rfl⟩) ?_) | (refine tkV 11 ?_ rfl HSS.out (Or.inl ⟨by rfl, ?_⟩) ?_; rotate_left; · intro W h; rw [HS.out] at h; obtain ⟨_,_,_,_,_,_,_,_,_,_,_,_,_⟩ := h; go_simp; try with_reducible rfl)
        go_simp
        refine tkV 12 ?_ rfl HSS.out (Or.inl ⟨by rfl, ?_⟩) ?_; rotate_left; · intro W h; rw [HS.out] at h; obtain ⟨_,_,_,_,_,_,_,_,_,_,_,_,_⟩ := h; go_simp; try with_reducible rfl
        go_simp
        refine tkV 13 ?_ rfl HSS.out (Or.inl ⟨by rfl, ?_⟩) ?_; rotate_left; · intro W h; rw [HS.out] at h; obtain ⟨_,_,_,_,_,_,_,_,_,_,_,_,_⟩ := h; go_simp; try with_reducible rfl
        go_simp
        refine tkV 14 ?_ rfl HSS.out (Or.inl ⟨by rfl, ?_⟩) ?_; rotate_left; · intro W h; rw [HS.out] at h; obtain ⟨_,_,_,_,_,_,_,_,_,_,_,_,_⟩ := h; go_simp; try with_reducible rfl
        go_simp
        refine tkV 15 ?_ rfl HSS.out (Or.inl ⟨by rfl, ?_⟩) ?_; rotate_left; · intro W h; rw [HS.out] at h; obtain ⟨_,_,_,_,_,_,_,_,_,_,_,_,_⟩ := h; go_simp; try with_reducible rfl
        go_simp
        refine tkV 16 ?_ rfl HSS.out (Or.inl ⟨by rfl, ?_⟩) ?_; rotate_left; · intro W h; rw [HS.out] at h; obtain ⟨_,_,_,_,_,_,_,_,_,_,_,_,_⟩ := h; go_simp; try with_reducible rfl
        go_simp
        refine tkV 17 ?_ rfl HSS.out (Or.inl ⟨by rfl, ?_⟩) ?_; rotate_left; · intro W h; rw [HS.out] at h; obtain ⟨_,_,_,_,_,_,_,_,_,_,_,_,_⟩ := h; go_simp; try with_reducible rfl
        go_simp
        refine tkV 18 ?_ rfl HSS.out (Or.inl ⟨by rfl, ?_⟩) ?_; rotate_left; · intro W h; rw [HS.out] at h; obtain ⟨_,_,_,_,_,_,_,_,_,_,_,_,_⟩ := h; go_simp; try with_reducible rfl
        go_simp
        refine tkV 19 ?_ rfl HSS.out (Or.inl ⟨by rfl, ?_⟩) ?_; rotate_left; · intro W h; rw [HS.out] at h; obtain ⟨_,_,_,_,_,_,_,_,_,_,_,_,_⟩ := h; go_simp; try with_reducible rfl
        go_simp
        have hb0 : Below w7.heap.size w7 (World.drew w7) := (Below.refl _ _).drew
        refine held_one (i := 20) (by kernel_rfl) (op_call (f := 11) (vs := #[.agg #[.slice a.mo nms a.mc, .slice a.no nn a.nc, .slice a.ho nh a.hc, .slice a.wo nw a.wc, .int .i64 gr.st], .int .i64 (q : Int)]) rfl (by kernel_rfl) (by go_simp) ((HLE.out (q : Int) (World.drew w7) (HG3.out.below (HQ7.out.2.drew))).mono ?_))
        rintro e w8 ⟨v8, he, hI8, hb8⟩
        have hb1 := hb0.trans (hb8.mono hb0.size)
        refine ⟨_, he, HKS.out w8 hb1, ?_⟩
        rw [← HLK.out, HFE.out] at hI8
        have HIQ := Lib.hid (intsat_any _ v8 F _ _ (by rw [HM.out]; exact HLL.out) w8 (HI.out.below (HB7.out.trans (hb1.mono HB7.out.size))) hI8)
        clear hI8
        go_simp
        refine held_one (i := 21) (by kernel_rfl) (op_call (f := 10) (vs := #[.slice fo m fc, v8]) rfl (by kernel_rfl) (by go_simp) (HIQ.out.mono ?_))
        rintro e w9 ⟨he9, hb9⟩
        have hb2 := hb1.trans (hb9.mono hb1.size)
        refine ⟨_, he9, HKS.out w9 hb2, ?_⟩
        have HZ := Lib.hid (HKS.out w9 hb2)
        go_simp
        refine tkV 22 ?_ rfl HZ.out (Or.inl ⟨by rfl, ?_⟩) ?_; rotate_left; · intro W h; rw [HS.out] at h; obtain ⟨_,_,_,_,_,_,_,_,_,_,_,_,_⟩ := h; go_simp; try with_reducible rfl
        go_simp
        refine tkV 23 ?_ rfl HZ.out (Or.inl ⟨by rfl, ?_⟩) ?_; rotate_left; · intro W h; rw [HS.out] at h; obtain ⟨_,_,_,_,_,_,_,_,_,_,_,_,_⟩ := h; go_simp; try with_reducible rfl
        go_simp
        refine tkV 24 ?_ rfl HZ.out (Or.inl ⟨by rfl, ?_⟩) ?_; rotate_left; · intro W h; rw [HS.out] at h; obtain ⟨_,_,_,_,_,_,_,_,_,_,_,_,_⟩ := h; go_simp; try with_reducible rfl
        go_simp
        refine tkV 25 ?_ rfl HZ.out (Or.inl ⟨by rfl, ?_⟩) ?_; rotate_left; · intro W h; rw [HS.out] at h; obtain ⟨_,_,_,_,_,_,_,_,_,_,_,_,_⟩ := h; go_simp; try with_reducible rfl
        go_simp
        refine tkV 26 ?_ rfl HZ.out (Or.inl ⟨by rfl, ?_⟩) ?_; rotate_left; · intro W h; rw [HS.out] at h; obtain ⟨_,_,_,_,_,_,_,_,_,_,_,_,_⟩ := h; go_simp; try with_reducible rfl
        go_simp
        refine tkV 27 ?_ rfl HZ.out (Or.inl ⟨by rfl, ?_⟩) ?_; rotate_left; · intro W h; rw [HS.out] at h; obtain ⟨_,_,_,_,_,_,_,_,_,_,_,_,_⟩ := h; go_simp; try with_reducible rfl
        go_simp
        refine tkV 28 ?_ rfl HZ.out (Or.inl ⟨by rfl, ?_⟩) ?_; rotate_left; · intro W h; rw [HS.out] at h; obtain ⟨_,_,_,_,_,_,_,_,_,_,_,_,_⟩ := h; go_simp; try with_reducible rfl
        go_simp
        refine tkV 29 ?_ rfl HZ.out (Or.inl ⟨by rfl, ?_⟩) ?_; rotate_left; · intro W h; rw [HS.out] at h; obtain ⟨_,_,_,_,_,_,_,_,_,_,_,_,_⟩ := h; go_simp; try with_reducible rfl
        go_simp
        refine tkV 30 ?_ rfl HZ.out (Or.inl ⟨by rfl, ?_⟩) ?_; rotate_left; · intro W h; rw [HS.out] at h; obtain ⟨_,_,_,_,_,_,_,_,_,_,_,_,_⟩ := h; go_simp; try with_reducible rfl
        go_simp
        refine tkV 31 ?_ rfl HZ.out (Or.inl ⟨by rfl, ?_⟩) ?_; rotate_left; · intro W h; rw [HS.out] at h; obtain ⟨_,_,_,_,_,_,_,_,_,_,_,_,_⟩ := h; go_simp; try with_reducible rfl
        go_simp
        refine tkV 32 ?_ rfl HZ.out (Or.inl ⟨by rfl, ?_⟩) ?_; rotate_left; · intro W h; rw [HS.out] at h; obtain ⟨_,_,_,_,_,_,_,_,_,_,_,_,_⟩ := h; go_simp; try with_reducible rfl
        go_simp
        refine tkV 33 ?_ rfl HZ.out (Or.inl ⟨by rfl, ?_⟩) ?_; rotate_left; · intro W h; rw [HS.out] at h; obtain ⟨_,_,_,_,_,_,_,_,_,_,_,_,_⟩ := h; go_simp; try with_reducible rfl
        go_simp
        refine tkV 34 undef rfl HZ.out (Or.inr ⟨by rfl, rfl⟩) ?_
        go_simp
        refine tkV 35 undef rfl HZ.out (Or.inr ⟨by rfl, rfl⟩) ?_
        go_simp
        refine tkV 36 undef rfl HZ.out (Or.inr ⟨by rfl, rfl⟩) ?_
        go_simp
        refine tkV 37 ?_ rfl HZ.out (Or.inl ⟨by rfl, ?_⟩) ?_; rotate_left; · intro W h; rw [HS.out] at h; obtain ⟨_,_,_,_,_,_,_,_,_,_,_,_,_⟩ := h; go_simp; try with_reducible rfl
        go_simp
        refine tkV 38 ?_ rfl HZ.out (Or.inl ⟨by rfl, ?_⟩) ?_; rotate_left; · intro W h; rw [HS.out] at h; obtain ⟨_,_,_,_,_,_,_,_,_,_,_,_,_⟩ := h; go_simp; try with_reducible rfl
        go_simp
        refine tkV 39 ?_ rfl HZ.out (Or.inl ⟨by rfl, ?_⟩) ?_; rotate_left; · intro W h; rw [HS.out] at h; obtain ⟨_,_,_,_,_,_,_,_,_,_,_,_,_⟩ := h; go_simp; try with_reducible rfl
        go_simp
        refine tkV 40 ?_ rfl HZ.out (Or.inl ⟨by rfl, ?_⟩) ?_; rotate_left; · intro W h; rw [HS.out] at h; obtain ⟨_,_,_,_,_,_,_,_,_,_,_,_,_⟩ := h; go_simp; try with_reducible rfl
        go_simp
        refine tkV 41 ?_ rfl HZ.out (Or.inl ⟨by rfl, ?_⟩) ?_; rotate_left; · intro W h; rw [HS.out] at h; obtain ⟨_,_,_,_,_,_,_,_,_,_,_,_,_⟩ := h; go_simp; try with_reducible rfl
        go_simp
        refine tkV 42 ?_ rfl HZ.out (Or.inl ⟨by rfl, ?_⟩) ?_; rotate_left; · intro W h; rw [HS.out] at h; obtain ⟨_,_,_,_,_,_,_,_,_,_,_,_,_⟩ := h; go_simp; try with_reducible rfl
        go_simp
        refine tkV 43 ?_ rfl HZ.out (Or.inl ⟨by rfl, ?_⟩) ?_; rotate_left; · intro W h; rw [HS.out] at h; obtain ⟨_,_,_,_,_,_,_,_,_,_,_,_,_⟩ := h; go_simp; try with_reducible rfl
        go_simp
        first | (refine tkV 44 undef rfl HZ.out (Or.inr ⟨by rfl, rfl⟩) ?_) | (refine tkV 44 ?_ rfl HZ.out (Or.inl ⟨by rfl, ?_⟩) ?_; rotate_left; · intro W h; rw [HS.out] at h; obtain ⟨_,_,_,_,_,_,_,_,_,_,_,_,_⟩ := h; go_simp; try with_reducible rfl)
        go_simp
        first | (refine tkV 45 undef rfl HZ.out (Or.inr ⟨by rfl, rfl⟩) ?_) | (refine tkV 45 ?_ rfl HZ.out (Or.inl ⟨by rfl, ?_⟩) ?_; rotate_left; · intro W h; rw [HS.out] at h; obtain ⟨_,_,_,_,_,_,_,_,_,_,_,_,_⟩ := h; go_simp; try with_reducible rfl)
        go_simp
        first | (refine tkV 46 undef rfl HZ.out (Or.inr ⟨by rfl, rfl⟩) ?_) | (refine tkV 46 ?_ rfl HZ.out (Or.inl ⟨by rfl, ?_⟩) ?_; rotate_left; · intro W h; rw [HS.out] at h; obtain ⟨_,_,_,_,_,_,_,_,_,_,_,_,_⟩ := h; go_simp; try with_reducible rfl)
        go_simp
        first | (refine tkV 47 undef rfl HZ.out (Or.inr ⟨by rfl, rfl⟩) ?_) | (refine tkV 47 ?_ rfl HZ.out (Or.inl ⟨by rfl, ?_⟩) ?_; rotate_left; · intro W h; rw [HS.out] at h; obtain ⟨_,_,_,_,_,_,_,_,_,_,_,_,_⟩ := h; go_simp; try with_reducible rfl)
        go_simp
        first | (refine tkV 48 undef rfl HZ.out (Or.inr ⟨by rfl, rfl⟩) ?_) | (refine tkV 48 ?_ rfl HZ.out (Or.inl ⟨by rfl, ?_⟩) ?_; rotate_left; · intro W h; rw [HS.out] at h; obtain ⟨_,_,_,_,_,_,_,_,_,_,_,_,_⟩ := h; go_simp; try with_reducible rfl)
        go_simp
        refine tkV 49 ?_ rfl HZ.out (Or.inl ⟨by rfl, ?_⟩) ?_; rotate_left; · intro W h; rw [HS.out] at h; obtain ⟨_,_,_,_,_,_,_,_,_,_,_,_,_⟩ := h; go_simp; try with_reducible rfl
        go_simp
        refine tkV 50 ?_ rfl HZ.out (Or.inl ⟨by rfl, ?_⟩) ?_; rotate_left; · intro W h; rw [HS.out] at h; obtain ⟨_,_,_,_,_,_,_,_,_,_,_,_,_⟩ := h; go_simp; try with_reducible rfl
        go_simp
        refine wpAnyH_done (by kernel_rfl) ?_ _
        go_simp
        have HQ9 := Lib.hid (show Own w9 g 4 (rowB (ledG gr) nn) ∧ Below w3.heap.size w3 w9 from ⟨HQ7.out.1.under hb2 HQ7.out.1.lt, HQ7.out.2.trans (hb2.mono HQ7.out.2.size)⟩)
        clear hb0 hb1 hb2 hb8 hb9 HIQ
        go_wp2
        go_roundw
        case rel => exact ⟨k + 1, by go_num, by omega, HQ9⟩
        case measure => simp [intOf]; omega
      ·
       rcases h2 with rfl | rfl
       all_goals as_aux_lemma =>
        have hm0 : m = 0 := by
         have h := lead_look HGD.out HX.out (by rw [HOP.out]; omega)
         rw [HFE.out] at h
         rw [← HM.out, h]
         rfl
        have hm1 : decide ((0 : Int) < (m : Int)) = false := decide_eq_false (by omega)
        have hm2 : decide (0 < m) = false := decide_eq_false (by omega)
        go_wp2_with fail
        go_quiet (fail)
        have hbd := below_drewN (Below.refl w7.heap.size w7) nq
        have HQ9 := Lib.hid (show Own (w7.drewN nq) g 4 (rowB (ledG gr) nn) ∧ Below w3.heap.size w3 (w7.drewN nq) from ⟨HQ7.out.1.under hbd HQ7.out.1.lt, HQ7.out.2.trans (hbd.mono HQ7.out.2.size)⟩)
        clear hbd
        go_wp2
        go_roundw
        case rel => exact ⟨k + 1, by go_num, by omega, HQ9⟩
        case measure => simp [intOf]; omega
      ·
       as_aux_lemma =>
        go_wp2_with fail
        go_quiet (fail)
        have hbd := below_drewN (Below.refl w7.heap.size w7) nq
        have HQ9 := Lib.hid (show Own (w7.drewN nq) g 4 (rowB (ledG gr) nn) ∧ Below w3.heap.size w3 (w7.drewN nq) from ⟨HQ7.out.1.under hbd HQ7.out.1.lt, HQ7.out.2.trans (hbd.mono HQ7.out.2.size)⟩)
        clear hbd
        go_wp2
        go_roundw
        case rel => exact ⟨k + 1, by go_num, by omega, HQ9⟩
        case measure => simp [intOf]; omega
   ·
    have hkn1 : decide ((k : Int) < nn) = false := decide_eq_false hkn
    have hkn2 : decide (k < nn) = false := decide_eq_false (by omega)
    have HAW := Lib.hid (awake13_any wr)
    go_wp2_with fail
    refine HAW.out.mono ?_
    rintro e w5 ⟨he, hb5⟩
    subst he
    have HBZ := Lib.hid (HB3.out.trans ((HQk.out.2.trans (hb5.mono HQk.out.2.size)).mono HB3.out.size))
    clear hb5
    go_wp2
    go_ret
    exact ⟨rfl, HBZ.out⟩
end Go.Proofs.Ytbjgojdpfehnmaa
