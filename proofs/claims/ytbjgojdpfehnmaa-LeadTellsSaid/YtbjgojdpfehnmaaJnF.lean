/- A grammar that is put together: an expression's nodes, one level, walked. -/
import Derived.Test.YtbjgojdpfehnmaaJnD
namespace Go.Proofs.Ytbjgojdpfehnmaa
set_option linter.unusedVariables false
open Go.RowKit Go.Sort
set_option maxRecDepth 1000000 in
set_option maxHeartbeats 6400000 in
theorem jput_step (ML : List Md) (FL : List Nat) (mo : Option Addr) (mc : Nat) (w0 : World) (D0 : Nat) (hM : HasMs w0 D0 mo ML) (hfew : Few ML) (hFL : FL.length = ML.length) (hFb : ∀ x ∈ FL, x ≤ 1000000000) (g : Nat) (mod : Nat) (hmod : mod ≤ 1000000) (ru : Int) (rows : Rw) (hr5 : rows 5 = (FL.length, knrow FL)) (st : Int) (P : Ex → List Nj → Pt) (nd : Nat)
  (o a b c d : Int) (t : ByteArray) (K : List Ex)
  (hPL : ∀ y N, N.length ≤ (P y N).1.length) (hP : ∀ y ∈ K, ∀ (yo : Option Addr) (yc : Nat), HasK w0 nd yo y.kids → ∀ (W : World) (ct : Nat → Nat) (N : List Nj), Jn w0 W g ct rows (.slice mo ML.length mc) st N none → Calls Try.prog 48 #[.pointer (some ⟨g, 0, none⟩), exv y yo yc, .int .i64 (mod : Int), .int .i64 ru] W (JPo w0 g rows (.slice mo ML.length mc) st (P y N) W ct))
  (ht : t.size ≤ 100000) (hk : K.length ≤ 90001) (ko : Option Addr) (kc : Nat) (hK : HasK w0 (nd + 1) ko K) (w : World) (ct : Nat → Nat) (N : List Nj) (hJ : Jn w0 w g ct rows (.slice mo ML.length mc) st N none) :
  Calls Try.prog 48 #[.pointer (some ⟨g, 0, none⟩), .agg #[.int .i64 o, .string t, .int .u64 a, .int .u64 b, .int .u64 c, .int .u64 d, .slice ko K.length kc], .int .i64 (mod : Int), .int .i64 ru] w (JPo w0 g rows (.slice mo ML.length mc) st (putG ML FL mod ru P (.mk o t a b c d K) N) w ct) := by
 have HP := Lib.hid hP
 have HPL := Lib.hid hPL
 have HK := Lib.hid hK
 obtain ⟨m, hm⟩ : ∃ m, K.length = m := ⟨_, rfl⟩
 have HKM := Lib.hid hm
 have hm9 : m ≤ 90001 := by rw [← hm]; exact hk
 have HRV := Lib.hid (fun (W : World) (hW : HasMs W D0 mo ML) => rresolve_any ML D0 mo mc (mod : Int) t (by omega) hfew W hW)
 have HMS := Lib.hid (fun (W : World) (h : Below w0.heap.size w0 W) => hM.below h)
 have HFEW := Lib.hid hfew
 obtain ⟨nm, hnm⟩ : ∃ n, ML.length = n := ⟨_, rfl⟩
 have HNM := Lib.hid hnm
 have HFL := Lib.hid (show FL.length = nm from hFL.trans hnm)
 have HFB := Lib.hid hFb
 have HR5 := Lib.hid hr5
 obtain ⟨RES, hRES⟩ : ∃ r, putG ML FL mod ru P (.mk o t a b c d K) N = r := ⟨_, rfl⟩
 have HS := Lib.hid (show RES = if 160 ≤ N.length then (N, some (3, (mod : Int), ru), 0) else match toO ML FL mod (.mk o t a b c d K) with
  | none => (N, some (5, (mod : Int), ru), 0)
  | some tt => endK N.length (kidsF P K (N ++ [nodeJ (.mk o t a b c d K) [] tt mod ru]) []) from by rw [← hRES]; rfl)
 have HB1 := Lib.hid (show Below w.heap.size w (w.alloc (.cells #[.int .i64 o, .string t, .int .u64 a, .int .u64 b, .int .u64 c, .int .u64 d, .slice ko m kc] 79)) from (Below.refl _ _).alloc (Nat.le_refl _) _)
 have HX1 := Lib.hid (Own.fresh w 79 [.int .i64 o, .string t, .int .u64 a, .int .u64 b, .int .u64 c, .int .u64 d, .slice ko m kc])
 have HJ1 := Lib.hid (hJ.below HB1.out)
 have HJ := Lib.hid hJ
 rw [hnm] at HJ1 HP HRV HJ
 rw [hRES, hm, hnm]
 clear hP hPL hK hm hJ hM hfew hnm hFL hFb hr5 hRES
 go_enter Try.func48, Try.ntmps48
 go_upto_region 1 with fail
 obtain ⟨B5, hB5⟩ : ∃ B, w.heap.size = B := ⟨_, rfl⟩
 have HZB := Lib.hid hB5
 generalize hw1 : w.alloc (.cells #[.int .i64 o, .string t, .int .u64 a, .int .u64 b, .int .u64 c, .int .u64 d, .slice ko m kc] 79) = w1 at *
 clear hw1
 rw [hB5] at HX1
 try rw [hB5]
 clear hB5
 obtain ⟨v, Z, hW, hZ, hKn⟩ := HJ1.out
 have ho : Own w1 g 87 [.slice mo nm mc, v 1, v 2, v 3, v 4, .int .i64 st, v 5, .int .i64 0, .int .i64 0, .int .i64 0, .int .i64 0] := hW.own
 have HWN := Lib.hid (show Win (fun b => ct b = 2) 42 10 w1 (v 2) Z.length (Z.flatMap njrow) from by have q := hW.win 2 (by omega) (by omega); rw [upd_same] at q; exact q)
 obtain ⟨zn, hzn⟩ : ∃ n, Z.length = n := ⟨_, rfl⟩
 have HZN := Lib.hid hzn
 rw [hzn] at HWN
 have HNL := Lib.hid (show N.length = zn from by rw [← hZ, List.length_map, hzn])
 obtain ⟨no, nc, hv2, hnc, -, -⟩ := HWN.out.form
 obtain ⟨c0, -, c2, -, -, -, c6, c7, -⟩ := ho.elev
 rw [hv2] at c2
 have HW := Lib.hid hW
 have HZ := Lib.hid hZ
 have HKN := Lib.hid hKn
 have HV2 := Lib.hid hv2
 have hgl := ho.lt
 obtain ⟨a0, a1, a2, a3, a4, a5, a6⟩ := HX1.out.seven
 have al := HX1.out.lt
 clear ho hW hZ hKn hv2 hzn
 by_cases h160 : (160 : Int) ≤ (zn : Int)
 ·
  have g160 : decide ((160 : Int) ≤ (zn : Int)) = true := decide_eq_true h160
  have g160n : decide (160 ≤ zn) = true := decide_eq_true (by omega)
  have HE := Lib.hid (HS.out.trans (if_pos (by have := HNL.out; omega)))
  go_wp2_with fail
  refine (jfail_any 3 (mod : Int) ru (by decide) HW.out).mono ?_
  rintro e w2 ⟨rfl, hW2, hb2⟩
  have HW2 := Lib.hid hW2
  have HBU := Lib.hid hb2
  clear hW2 hb2
  go_wp2
  go_ret
  rw [HE.out]
  exact ⟨ct, rfl, ⟨v, Z, HW2.out, HZ.out, fun z hz => (HKN.out z hz).but HBU.out fun b _ hb e => by have e : b = g := e; rw [e, HW.out.cg] at hb; omega⟩, (But.of_below HB1.out).trans (HBU.out.mono (T := fun b => b = g ∨ ct b = 2) fun b _ h => .inl h) (fun b _ h => h), Agree.refl _ _⟩
 ·
  have g160 : decide ((160 : Int) ≤ (zn : Int)) = false := decide_eq_false h160
  have g160n : decide (160 ≤ zn) = false := decide_eq_false (by omega)
  have HS2 := Lib.hid (HS.out.trans (if_neg (by have := HNL.out; omega)))
  clear HS
  have HB2 := Lib.hid (show Below w1.heap.size w1 (w1.alloc (.cells #[.int .i64 o, .string t, .int .u64 a, .int .u64 b, .int .u64 c, .int .u64 d, .slice none 0 0, .int .i64 (-1), .int .i64 (mod : Int), .int .i64 ru] 42)) from (Below.refl _ _).alloc (Nat.le_refl _) _)
  have HX2 := Lib.hid (HX1.out.on_alloc (.cells #[.int .i64 o, .string t, .int .u64 a, .int .u64 b, .int .u64 c, .int .u64 d, .slice none 0 0, .int .i64 (-1), .int .i64 (mod : Int), .int .i64 ru] 42))
  have HY2 := Lib.hid (Own.fresh w1 42 [.int .i64 o, .string t, .int .u64 a, .int .u64 b, .int .u64 c, .int .u64 d, .slice none 0 0, .int .i64 (-1), .int .i64 (mod : Int), .int .i64 ru])
  have HW2 := Lib.hid (HW.out.below HB2.out)
  have HKN2 := Lib.hid (fun z hz => (HKN.out z hz).but (S := fun _ => False) (But.of_below HB2.out) fun _ _ _ h => h)
  obtain ⟨A, hA⟩ : ∃ A, w1.heap.size = A := ⟨_, rfl⟩
  have HA := Lib.hid hA
  obtain ⟨bo, hbo⟩ : ∃ z, (o == 11) = z := ⟨_, rfl⟩
  have HBO := Lib.hid hbo
  go_upto_region 6 with fail
  generalize hw2 : w1.alloc (.cells #[.int .i64 o, .string t, .int .u64 a, .int .u64 b, .int .u64 c, .int .u64 d, .slice none 0 0, .int .i64 (-1), .int .i64 (mod : Int), .int .i64 ru] 42) = w2 at *
  clear hw2
  rw [hA] at HY2
  try rw [hA]
  clear hA a0 a1 a2 a3 a4 a5 a6 al c0 c2 c6 c7 hgl
  obtain ⟨a0, a1, a2, a3, a4, a5, a6⟩ := HX2.out.seven
  go_upto_if 39 with fail
  go_cut [] (fun wx => ∃ tt : Int, Hid (RES = endK N.length (kidsF P K (N ++ [nodeJ (.mk o t a b c d K) [] tt mod ru]) [])) ∧ Hid (Own wx A 42 [.int .i64 o, .string t, .int .u64 a, .int .u64 b, .int .u64 c, .int .u64 d, .slice none 0 0, .int .i64 tt, .int .i64 (mod : Int), .int .i64 ru]) ∧ Hid (Own wx B5 79 [.int .i64 o, .string t, .int .u64 a, .int .u64 b, .int .u64 c, .int .u64 d, .slice ko m kc]) ∧ Hid (∃ wq, Below w2.heap.size w2 wq ∧ But (fun j => j = A) wq wx))
  case first =>
   cases bo with
   | false =>
    have HE := Lib.hid (show RES = endK N.length (kidsF P K (N ++ [nodeJ (.mk o t a b c d K) [] (-1) mod ru]) []) from by
     rw [HS2.out, show toO ML FL mod (.mk o t a b c d K) = some (-1) from if_neg (by have := HBO.out; exact beq_eq_false_iff_ne.1 this)])
    go_wp2
    go_meet
    exact ⟨-1, HE, HY2, HX2, Lib.hid ⟨w2, Below.refl _ _, But.refl _ _⟩⟩
   | true =>
    have ho11 : o = 11 := beq_iff_eq.1 HBO.out
    have ho2 : Own w2 g 87 [.slice mo nm mc, v 1, v 2, v 3, v 4, .int .i64 st, v 5, .int .i64 0, .int .i64 0, .int .i64 0, .int .i64 0] := HW2.out.own
    have c0 : w2.cell? ⟨g, 0, none⟩ = some (.slice mo nm mc) := ho2.cell 0
    have c0' := cell_regrown c0
    have a1' := cell_regrown a1
    have hgl := ho2.lt
    obtain ⟨⟨rm, rr, rb⟩, hr⟩ : ∃ r, resO ML (mod : Int) t = r := ⟨_, rfl⟩
    have HRR := Lib.hid hr
    have HTO := Lib.hid (show toO ML FL mod (.mk o t a b c d K) = (match (rm, rr, rb) with
     | (m, r, true) => some ((FL.getD m.toNat 0 : Nat) + r)
     | (_, _, false) => none) from by rw [← hr]; exact if_pos ho11)
    have CPS := Lib.hid (fun (dq : Nat) (os : Array Obj) => show Calls Try.prog 72 #[.slice mo nm mc, .int .i64 (mod : Int), .string t] (grow (redrawn w2 dq) os) fun e w' => e = .returned (.tuple #[.int .i64 rm, .int .i64 rr, .bool rb]) ∧ Below (grow (redrawn w2 dq) os).heap.size (grow (redrawn w2 dq) os) w' from by
     have h := HRV.out _ (HMS.out _ (HW2.out.bl.trans ((below_regrown w2 dq os).mono HW2.out.bl.size)))
     rw [hr] at h
     exact h)
    clear ho11 hr ho2
    go_wp2_with fail
    refine wp_region_quiet_below (by kernel_rfl) (by kernel_rfl) ?_
    repeat (go_big_quiet_step (first
     | (go_at_call 72; with_reducible exact Calls.regrown_of (CPS.out _ _))))
    refine wpQuiet_nil ?_
    intro _ hw'
    obtain ⟨⟨dq, osq⟩, hw''⟩ := hw'
    subst hw''
    have hbr := below_regrown w2 dq osq
    clear c0' a1' CPS c0
    have HB3 := Lib.hid hbr
    have HW3 := Lib.hid (HW2.out.below hbr)
    have HKN3 := Lib.hid (fun z hz => (HKN2.out z hz).but (S := fun _ => False) (But.of_below hbr) fun _ _ _ h => h)
    have HX3 := Lib.hid (HX2.out.under hbr HX2.out.lt)
    have HY3 := Lib.hid (HY2.out.under hbr HY2.out.lt)
    clear hbr
    generalize grow (redrawn w2 dq) osq = w3 at *
    cases rb with
    | false =>
     have HE := Lib.hid (show RES = (N, some (5, (mod : Int), ru), 0) from by rw [HS2.out, HTO.out])
     go_wp2_with fail
     refine (jfail_any 5 (mod : Int) ru (by decide) HW3.out).mono ?_
     rintro e w4 ⟨rfl, hW4, hb4⟩
     have HW4 := Lib.hid hW4
     have HBU := Lib.hid hb4
     clear hW4 hb4
     go_wp2
     go_ret
     rw [HE.out]
     exact ⟨ct, rfl, ⟨v, Z, HW4.out, HZ.out, fun z hz => (HKN3.out z hz).but HBU.out fun b _ hb e => by have e : b = g := e; rw [e, HW3.out.cg] at hb; omega⟩, ((But.of_below HB1.out).trans (But.of_below HB2.out) (fun b _ h => h)).trans ((But.of_below HB3.out).trans (HBU.out.mono (T := fun b => b = g ∨ ct b = 2) fun b _ h => .inl h) (fun b _ h => h)) (fun b _ h => h), Agree.refl _ _⟩
    | true =>
     obtain ⟨mm, md, hmm, hmd, -, hr0, hr1⟩ := resO_bd HRR.out
     subst hmm
     have hmmn : mm < nm := by have := (List.getElem?_eq_some_iff.1 hmd).1; have := HNM.out; omega
     have hrr : rr ≤ 1000000 := by have := (HFEW.out.2 md (List.mem_of_getElem? hmd)).2; omega
     obtain ⟨fx, hfx⟩ : ∃ x, FL[mm]? = some x := ⟨_, List.getElem?_eq_getElem (by have := HFL.out; omega)⟩
     have hfb : fx ≤ 1000000000 := HFB.out fx (List.mem_of_getElem? hfx)
     have HTO2 := Lib.hid (show toO ML FL mod (.mk o t a b c d K) = some ((fx : Int) + rr) from by
      rw [HTO.out]
      show some (((FL.getD (mm : Int).toNat 0 : Nat) : Int) + rr) = _
      rw [Int.toNat_natCast, List.getD_eq_getElem?_getD, hfx]; rfl)
     have HWF := Lib.hid (show Win (fun b => ct b = 5) 3 1 w3 (v 5) FL.length (knrow FL) from by
      have q := HW3.out.win 5 (by omega) (by omega)
      rw [upd_far _ _ (by decide), HR5.out] at q; exact q)
     obtain ⟨fo, fc, hv5, -, -, -⟩ := HWF.out.form
     have hkf := HWF.out
     rw [hv5] at hkf
     obtain ⟨fb, foff, hfo, hfl, -, d0⟩ := hasKn_of hkf mm fx hfx
     have ho3 : Own w3 g 87 [.slice mo nm mc, v 1, v 2, v 3, v 4, .int .i64 st, v 5, .int .i64 0, .int .i64 0, .int .i64 0, .int .i64 0] := HW3.out.own
     have c6 : w3.cell? ⟨g, 6, none⟩ = some (.slice (some ⟨fb, foff, none⟩) nm fc) := by have q := ho3.cell 6; rw [q, ← hfo, ← HFL.out]; exact congrArg some hv5
     have hwr : IntKind.i64.wrap ((fx : Int) + rr) = (fx : Int) + rr := by rw [IntKind.wrap_i64]; omega
     have hmi : decide ((mm : Int) < (nm : Int)) = true := decide_eq_true (by omega)
     have hmin : decide (mm < nm) = true := decide_eq_true hmmn
     have hyl := HY3.out.lt
     have hyf : w3.frozen? ⟨A, 7, none⟩ = false := HY3.out.thaw 7
     have hy7 : w3.cell? ⟨A, 7, none⟩ = some (.int .i64 (-1)) := HY3.out.cell 7
     have hgl3 := ho3.lt
     have HAB := Lib.hid (show A ≠ B5 ∧ B5 < w2.heap.size from ⟨fun e => by have h1 := HX1.out.lt; have h2 := HA.out; omega, HX2.out.lt⟩)
     have HE := Lib.hid (show RES = endK N.length (kidsF P K (N ++ [nodeJ (.mk o t a b c d K) [] ((fx : Int) + rr) mod ru]) []) from by
      rw [HS2.out, HTO2.out])
     clear hmd hfx hkf hfo ho3 hr1 hv5
     go_wp2
     go_meet
     exact ⟨(fx : Int) + rr, HE, Lib.hid (HY3.out.put 7 _), Lib.hid (HX3.out.but (But.put w3 A 7 _) (fun e => HAB.out.1 e.symm)), Lib.hid ⟨w3, HB3.out, But.put w3 A 7 _⟩⟩
  case rest =>
   obtain ⟨tt, HRS, HY, HX, HQ⟩ := hcut
   obtain ⟨wq, hq1, hq2⟩ := HQ.out
   have hgw : g < w.heap.size ∧ ct B5 = 0 ∧ ct A = 0 ∧ w0.heap.size ≤ w.heap.size ∧ B5 < A ∧ ct g = 9 := by
    obtain ⟨v', Z', hj, -⟩ := HJ.out
    refine ⟨hj.own.lt, ?_, ?_, hj.bl.size, ?_, hj.cg⟩
    ·
     by_cases e : ct B5 = 0
     ·
      exact e
     ·
      have := (hj.dom B5 e).2; have := HZB.out; omega
    ·
     by_cases e : ct A = 0
     ·
      exact e
     ·
      have := (hj.dom A e).2; have := HB1.out.size; have := HA.out; omega
    ·
     have := HX1.out.lt; have := HA.out; omega
   have HGW := Lib.hid hgw
   have HWC := Lib.hid ((HW2.out.below hq1).other hq2 (fun b hb e => by
    have e : b = A := e
    subst e
    exact ⟨hgw.2.2.1, by have := HB1.out.size; have := HA.out; omega⟩))
   have HBC := Lib.hid ((But.of_below (S := fun j => j = A) hq1).trans hq2 (fun b _ h => h))
   have HKC := Lib.hid (kids_keep (c1 := ct) (w' := wc) HKN2.out HBC.out (fun b _ h7 e => by have e : b = A := e; rw [e, hgw.2.2.1] at h7; omega) (Agree.refl _ _))
   have HUC := Lib.hid (show But (fun b => b = g ∨ ct b = 2) w wc from by
    have q := ((But.of_below (S := fun b => b = g ∨ ct b = 2) HB1.out).trans (But.of_below HB2.out) (fun b _ h => h)).trans HBC.out (T := fun j => j = A) (fun b hb e => by
     have e : b = A := e
     have := HB1.out.size; have := HA.out; omega)
    exact q)
   clear hq1 hq2 HQ HW2 HKN2 HY2 HX2 HBC a0 a1 a2 a3 a4 a5 a6 hgw HS2 HRV HMS HW HKN HJ1 HBO
   clear hbo
   have HWN2 := Lib.hid (show Win (fun b => ct b = 2) 42 10 wc (.slice no zn nc) zn (Z.flatMap njrow) from by
    have q := HWC.out.win 2 (by omega) (by omega)
    rw [upd_same] at q
    have q : Win (fun b => ct b = 2) 42 10 wc (v 2) Z.length (Z.flatMap njrow) := q
    rw [HZN.out, HV2.out] at q
    exact q)
   have hoc : Own wc g 87 [.slice mo nm mc, v 1, .slice no zn nc, v 3, v 4, .int .i64 st, v 5, .int .i64 0, .int .i64 0, .int .i64 0, .int .i64 0] := by
    have q : Own wc g 87 [.slice mo nm mc, v 1, v 2, v 3, v 4, .int .i64 st, v 5, .int .i64 0, .int .i64 0, .int .i64 0, .int .i64 0] := HWC.out.own
    rw [HV2.out] at q; exact q
   have HOC := Lib.hid hoc
   have c2 : wc.cell? ⟨g, 2, none⟩ = some (.slice no zn nc) := hoc.cell 2
   have c2a : (wc.alloc (.cells #[.int .i64 o, .string t, .int .u64 a, .int .u64 b, .int .u64 c, .int .u64 d, .slice none 0 0, .int .i64 tt, .int .i64 (mod : Int), .int .i64 ru] 42)).cell? ⟨g, 2, none⟩ = some (.slice no zn nc) := (hoc.on_alloc _).cell 2
   have hgl := hoc.lt
   obtain ⟨y0, y1, y2, y3, y4, y5, y6, y7, y8, y9⟩ : wc.cell? ⟨A, 0, none⟩ = some (.int .i64 o) ∧ wc.cell? ⟨A, 1, none⟩ = some (.string t) ∧ wc.cell? ⟨A, 2, none⟩ = some (.int .u64 a) ∧ wc.cell? ⟨A, 3, none⟩ = some (.int .u64 b) ∧ wc.cell? ⟨A, 4, none⟩ = some (.int .u64 c) ∧ wc.cell? ⟨A, 5, none⟩ = some (.int .u64 d) ∧ wc.cell? ⟨A, 6, none⟩ = some (.slice none 0 0) ∧ wc.cell? ⟨A, 7, none⟩ = some (.int .i64 tt) ∧ wc.cell? ⟨A, 8, none⟩ = some (.int .i64 (mod : Int)) ∧ wc.cell? ⟨A, 9, none⟩ = some (.int .i64 ru) :=
    ⟨HY.out.cell 0, HY.out.cell 1, HY.out.cell 2, HY.out.cell 3, HY.out.cell 4, HY.out.cell 5, HY.out.cell 6, HY.out.cell 7, HY.out.cell 8, HY.out.cell 9⟩
   have yl := HY.out.lt
   obtain ⟨i0, hi, hz0, hz1, hz2⟩ := info_parts7 info_node
   have IP := Lib.hid (And.intro hi (And.intro hz0 (And.intro hz1 hz2)))
   clear hi hz0 hz1 hz2 hoc
   have K1 : zn + 1 ≤ maxLen := by unfold maxLen; omega
   have K2 : (zn + 1) * 104 ≤ 140737488355328 := by omega
   have FN := Lib.hid (fresh_news wc 42 [.int .i64 o, .string t, .int .u64 a, .int .u64 b, .int .u64 c, .int .u64 d, .slice none 0 0, .int .i64 tt, .int .i64 (mod : Int), .int .i64 ru])
   have HCEL := Lib.hid (show ∀ u ∈ ([.int .i64 o, .string t, .int .u64 a, .int .u64 b, .int .u64 c, .int .u64 d, .slice none 0 0, .int .i64 tt, .int .i64 (mod : Int), .int .i64 ru] : List Value), u.oneCell' = true by intro u hu; simp at hu; rcases hu with rfl | rfl | rfl | rfl | rfl | rfl | rfl | rfl | rfl | rfl <;> rfl)
   have NP := Lib.hid (show ¬ ct g = 2 from by rw [HGW.out.2.2.2.2.2]; omega)
   obtain ⟨x0, hx0⟩ : ∃ x : Nj, x = nodeJ (.mk o t a b c d K) [] tt mod ru := ⟨_, rfl⟩
   have HX0 := Lib.hid hx0
   obtain ⟨z0, hz0⟩ : ∃ z : Zj, z = ⟨x0, none, 0⟩ := ⟨_, rfl⟩
   have HROW := Lib.hid (show njrow z0 = [.int .i64 o, .string t, .int .u64 a, .int .u64 b, .int .u64 c, .int .u64 d, .slice none 0 0, .int .i64 tt, .int .i64 (mod : Int), .int .i64 ru] from by rw [hz0, hx0]; rfl)
   have HZ0 := Lib.hid (show z0.n = x0 ∧ z0.n.ks = [] from by rw [hz0, hx0]; exact ⟨rfl, rfl⟩)
   rw [← hx0] at HRS
   clear hx0 hz0
   go_upto_region 12 with fail
   go_cut [] (fun wx => ∃ (c1 : Nat → Nat) (v1 : Nat → Value), Hid (Wk w0 wx g c1 (upd rows 2 ((Z ++ [z0]).length, (Z ++ [z0]).flatMap njrow)) v1 (.slice mo nm mc) st none) ∧ Hid (∀ z ∈ Z ++ [z0], HasKz wx (fun b => c1 b = 7) z) ∧ Hid (But (fun b => b = g ∨ ct b = 2) w wx) ∧ Hid (Agree wc ct c1) ∧ Hid (But (fun b => b = g ∨ ct b = 2) wc wx))
   case first =>
    go_region_law ((refine step_append_win rfl _ _ 24 rfl (fun b => ct b = 2) 42 _ _ 10 104 Try.underlying24 IP.out.1 IP.out.2.1 IP.out.2.2.1 IP.out.2.2.2 rfl (by decide) _ zn (Z.flatMap njrow) rfl (HWN2.out.below ((Below.refl _ _).alloc (Nat.le_refl _) _).drew) ⟨wc.heap.size, 0, none⟩ 1 1 [.int .i64 o, .string t, .int .u64 a, .int .u64 b, .int .u64 c, .int .u64 d, .slice none 0 0, .int .i64 tt, .int .i64 (mod : Int), .int .i64 ru] rfl rfl FN.out HCEL.out K1 K2 ?_); intro v' w' hw hb; obtain ⟨vb, voff, vcap, rfl, hg2, hle2, hlt2⟩ := hw.has (by omega); have hO := Lib.hid (((HOC.out.on_alloc (.cells #[.int .i64 o, .string t, .int .u64 a, .int .u64 b, .int .u64 c, .int .u64 d, .slice none 0 0, .int .i64 tt, .int .i64 (mod : Int), .int .i64 ru] 42)).on_drew).but hb NP.out); have d2 := hO.out.cell 2; have e2 := hO.out.thaw 2; have gl2 := hO.out.lt; have hw2 := Lib.hid hw; have hb2 := Lib.hid hb; clear hw hb)
    all_goals
     have HG := Lib.hid (HWC.out.grown2 (z := z0) ((Below.refl _ _).alloc (Nat.le_refl _) (.cells #[.int .i64 o, .string t, .int .u64 a, .int .u64 b, .int .u64 c, .int .u64 d, .slice none 0 0, .int .i64 tt, .int .i64 (mod : Int), .int .i64 ru] 42)).drew HZN.out (by rw [HROW.out]; exact hw2.out) hb2.out)
     go_wp2
     go_meet
     refine ⟨_, _, Lib.hid HG.out.1, Lib.hid (fun z hz => ?_), Lib.hid (HUC.out.trans HG.out.2.1 (fun b _ h => h)), Lib.hid HG.out.2.2, Lib.hid HG.out.2.1⟩
     rcases List.mem_append.1 hz with hz | hz
     ·
      exact kids_keep HKC.out HG.out.2.1 (fun b _ h7 hs => by
       rcases hs with hs | hs
       ·
        rw [hs, HGW.out.2.2.2.2.2] at h7; omega
       ·
        omega) HG.out.2.2 z hz
     ·
      rw [List.mem_singleton] at hz
      subst hz
      exact ⟨by rw [HZ0.out.2]; exact HasKn.nil _ _ _, by rw [HZ0.out.2]; exact Nat.zero_le _⟩
   case rest =>
    clear c2 c2a y0 y1 y2 y3 y4 y5 y6 y7 y8 y9 yl hgl K1 K2
    obtain ⟨c1, v1, HW1, HK1, HU1, HA1, HC1⟩ := hcut
    have HX1 := Lib.hid (HX.out.but HC1.out (fun h => by
     rcases h with h | h
     ·
      have := HGW.out.1; have := HZB.out; omega
     ·
      have := HGW.out.2.1; omega))
    have HJ1 := Lib.hid (show Jn w0 wc g c1 rows (.slice mo nm mc) st (N ++ [x0]) none from ⟨v1, Z ++ [z0], HW1.out, by rw [List.map_append, HZ.out]; show N ++ [z0.n] = _; rw [HZ0.out.1], HK1.out⟩)
    have HC5 := Lib.hid (show c1 B5 = 0 from by rw [HA1.out B5 HX.out.lt]; exact HGW.out.2.1)
    have HJ0 := HJ
    have HAG := Lib.hid (show Agree w ct c1 from fun x hx => HA1.out x (Nat.lt_of_lt_of_le hx HUC.out.size))
    have HSW := Lib.hid (show w.heap.size ≤ wc.heap.size from HU1.out.size)
    clear HW1 HK1 HA1 HC1 HX HY HWC HKC HUC HWN2 HOC FN HCEL NP HROW HZ0 HX0
    obtain ⟨RES0, hR0⟩ : ∃ r, kidsF P K (N ++ [x0]) [] = r := ⟨_, rfl⟩
    have HR1 := Lib.hid (show RES = endK N.length RES0 from by rw [← hR0]; exact HRS.out)
    have HQ0 := Lib.hid (show KQ P K RES0 0 (N ++ [x0]) [] none from by rw [← hR0]; rfl)
    have HL0 := Lib.hid (show N.length < (N ++ [x0]).length from by simp)
    have HG0 := Lib.hid (show ¬ g = B5 ∧ g < w.heap.size ∧ ct g = 9 from ⟨fun e => by have := HGW.out.1; have := HZB.out; omega, HGW.out.1, HGW.out.2.2.2.2.2⟩)
    clear hR0 HRS HGW
    go_wp2_with fail
    go_loopw [14, 15] (fun v14 v15 wr => ∃ (k : Nat) (Nk : List Nj) (ks : List Nat) (Fk : Option Ft3) (ck : Nat → Nat) (SK : Nat → Prop) (so : Option Addr) (sc : Nat), v14 = .slice so k sc ∧ v15 = .int .i64 (k : Int) ∧ (k : Int) ≤ m ∧ Hid (ks.length = k) ∧ Hid (KQ P K RES0 k Nk ks Fk) ∧ Hid (N.length < Nk.length) ∧
      Hid (Jn w0 wr g ck rows (.slice mo nm mc) st Nk Fk) ∧ Hid (But (fun b => b = g ∨ ct b = 2) w wr) ∧ Hid (Agree w ct ck) ∧ Hid (Own wr B5 79 [.int .i64 o, .string t, .int .u64 a, .int .u64 b, .int .u64 c, .int .u64 d, .slice ko m kc]) ∧ Hid (ck B5 = 0) ∧ Hid (Win SK 3 1 wr (.slice so k sc) k (knrow ks)) ∧ Hid (∀ b, SK b → ck b = 0 ∧ w.heap.size ≤ b ∧ b < wr.heap.size ∧ b ≠ B5)) (fun _ v15 _ => m - (intOf v15).toNat)
    case atStart => exact ⟨0, N ++ [x0], [], none, c1, fun _ => False, none, 0, rfl, rfl, by omega, Lib.hid rfl, HQ0, HL0, HJ1, HU1, HAG, HX1, HC5, Lib.hid (Win.nil _ _ _ _), Lib.hid (fun b h => h.elim)⟩
    case round =>
     obtain ⟨k, Nk, ks, Fk, ck, SK, so, sc, rfl, rfl, hk2, HKS, HQ, HL, HJ, HU, HAG, HX, HC5, HWK, HSK⟩ := hrel
     clear HQ0 HL0 HJ1 HU1 HX1
     obtain ⟨vr, Zr, hWr, hZr, hKr⟩ := HJ.out
     have hor : Own wr g 87 [.slice mo nm mc, vr 1, vr 2, vr 3, vr 4, .int .i64 st, vr 5, .int .i64 (e3 Fk), .int .i64 0, .int .i64 (m3 Fk), .int .i64 (r3 Fk)] := hWr.own
     have c7 : wr.cell? ⟨g, 7, none⟩ = some (.int .i64 (e3 Fk)) := hor.cell 7
     have hgl := hor.lt
     have a6 : wr.cell? ⟨B5, 6, none⟩ = some (.slice ko m kc) := HX.out.cell 6
     have al := HX.out.lt
     have HWR := Lib.hid hWr
     have HZR := Lib.hid hZr
     have HKR := Lib.hid hKr
     clear hor hWr hZr hKr
     cases Fk with
     | some f =>
      have hf0 := HWR.out.nz f rfl
      have c7' : wr.cell? ⟨g, 7, none⟩ = some (.int .i64 f.1) := c7
      have ef : (f.1 == 0) = false := beq_eq_false_iff_ne.2 hf0
      have ef2 : decide (f.1 = 0) = false := decide_eq_false hf0
      have HE := Lib.hid (show RES = (Nk, some f, N.length) from by rw [HR1.out, show RES0 = (Nk, some f, ks) from HQ.out]; rfl)
      clear c7 hf0
      by_cases hkm : (k : Int) < m
      ·
       have hkm1 : decide ((k : Int) < m) = true := decide_eq_true hkm
       have hkm2 : decide (k < m) = true := decide_eq_true (by omega)
       go_wp2
       go_ret
       rw [HE.out]
       exact ⟨ck, (by show Ending.returned (.int .i64 (zn : Int)) = .returned (.int .i64 (N.length : Int)); rw [HNL.out]), HJ.out, HU.out, HAG.out⟩
      ·
       have hkm1 : decide ((k : Int) < m) = false := decide_eq_false hkm
       have hkm2 : decide (k < m) = false := decide_eq_false (by omega)
       go_wp2
       go_ret
       rw [HE.out]
       exact ⟨ck, (by show Ending.returned (.int .i64 (zn : Int)) = .returned (.int .i64 (N.length : Int)); rw [HNL.out]), HJ.out, HU.out, HAG.out⟩
     | none =>
      have c7' : wr.cell? ⟨g, 7, none⟩ = some (.int .i64 0) := c7
      clear c7
      by_cases hkm : (k : Int) < m
      ·
       have hkm1 : decide ((k : Int) < m) = true := decide_eq_true hkm
       have hkm2 : decide (k < m) = true := decide_eq_true (by omega)
       obtain ⟨y, hy⟩ : ∃ y, K[k]? = some y := ⟨_, List.getElem?_eq_getElem (by have := HKM.out; omega)⟩
       obtain ⟨kb, koff, yo, yc, hko, hkb, k0, k1, k2, k3, k4, k5, k6, hky⟩ := HK.out k y hy
       obtain ⟨⟨N1, F1, n1⟩, hp⟩ : ∃ r, P y Nk = r := ⟨_, rfl⟩
       have HPC := Lib.hid (HP.out y (List.mem_of_getElem? hy) yo yc hky wr ck Nk HJ.out)
       have hl1 : Nk.length ≤ N1.length := by have q := HPL.out y Nk; rw [hp] at q; exact q
       have HL1 := Lib.hid (show N.length < N1.length from Nat.lt_of_lt_of_le HL.out hl1)
       clear hl1
       have HQ1 := Lib.hid (show KQ P K RES0 (k + 1) N1 (ks ++ [n1]) F1 from HQ.out.step hy hp)
       rw [hp] at HPC
       have e0 := keepc k0 HWR.out.bl
       have e1 := keepc k1 HWR.out.bl
       have e2 := keepc k2 HWR.out.bl
       have e3 := keepc k3 HWR.out.bl
       have e4 := keepc k4 HWR.out.bl
       have e5 := keepc k5 HWR.out.bl
       have e6 := keepc k6 HWR.out.bl
       have hkb2 : kb < wr.heap.size := Nat.lt_of_lt_of_le hkb HWR.out.bl.size
       have HCG := Lib.hid HWR.out.cg
       have HSW0 := Lib.hid (show w0.heap.size ≤ w.heap.size from by obtain ⟨v', Z', hj, -⟩ := HJ0.out; exact hj.bl.size)
       have hw1 : IntKind.i64.wrap ((k : Int) + 1) = (k : Int) + 1 := by rw [IntKind.wrap_i64]; omega
       rw [hko] at a6
       clear hy k0 k1 k2 k3 k4 k5 k6 hkb hky hp hko
       go_wp2_with fail
       refine HPC.out.mono ?_
       rintro e w4 ⟨c4, rfl, hJ4, hb4, ha4⟩
       have HJ4 := Lib.hid hJ4
       have HB4 := Lib.hid hb4
       have HA4 := Lib.hid ha4
       have HWK4 := Lib.hid (HWK.out.keep hb4 (fun b _ hs h => by
        have := (HSK.out b hs).1
        rcases h with h | h
        ·
         rw [h, HCG.out] at this; omega
        ·
         omega))
       have HX4 := Lib.hid (HX.out.but hb4 (fun h => by
        rcases h with h | h
        ·
         exact HG0.out.1 h.symm
        ·
         have := HC5.out; omega))
       have HD4 := Lib.hid (fun b (h : w4.heap.size ≤ b) => show c4 b = 0 from by
        obtain ⟨v', Z', hj, -⟩ := hJ4
        by_cases e : c4 b = 0
        ·
         exact e
        ·
         have := (hj.dom b e).2; omega)
       have HS4 := Lib.hid hb4.size
       obtain ⟨i0, hi0, hz0, hz1, hz2⟩ := info_parts7 info_int
       have HNEW := Lib.hid (fun W => fresh_news W 3 [.int .i64 (n1 : Int)])
       clear hJ4 hb4 ha4 e0 e1 e2 e3 e4 e5 e6 hkb2 a6 al c7' hgl HPC
       go_wp2_with (first
        | (at_builtin; refine wpList_append_win _ rfl _ _ 23 rfl SK 3 i0 _ 1 8 Try.underlying23 hi0 hz0 hz1 hz2 rfl (by decide) _ k (knrow ks) rfl (HWK4.out.below ((Below.refl _ _).alloc (Nat.le_refl _) _)) ⟨w4.heap.size, 0, none⟩ 1 1 [.int .i64 (n1 : Int)] rfl rfl (HNEW.out w4) (by intro u hu; rw [List.mem_singleton.1 hu]; rfl) (by unfold maxLen; omega) (by omega) ?_))
       intro v' w5 hw5 hb5
       have hblx : Below w4.heap.size w4 (w4.alloc (.cells #[.int .i64 (n1 : Int)] 3)) := (Below.refl _ _).alloc (Nat.le_refl _) _
       have hsx : (w4.alloc (.cells #[.int .i64 (n1 : Int)] 3)).heap.size = w4.heap.size + 1 := by simp
       have HS5 := Lib.hid (show w4.heap.size + 1 ≤ w5.heap.size from by have := hb5.size; omega)
       have HK4 := Lib.hid (fun b (h : SK b) => show c4 b = 0 ∧ w.heap.size ≤ b ∧ b < w4.heap.size ∧ b ≠ B5 from by
        obtain ⟨h1, h2, h3, h4⟩ := HSK.out b h
        exact ⟨(HA4.out b h3).trans h1, h2, Nat.lt_of_lt_of_le h3 HS4.out, h4⟩)
       have HJ5 := Lib.hid ((HJ4.out.below hblx).other hb5 (fun b _ hs => ⟨(HK4.out b hs).1, by have := (HK4.out b hs).2.1; have := HSW0.out; omega⟩))
       have HU5 := Lib.hid (show But (fun b => b = g ∨ ct b = 2) w w5 from ((HU.out.trans HB4.out (fun b hlt h => by
        rcases h with h | h
        ·
         exact .inl h
        ·
         exact .inr ((HAG.out b hlt).symm.trans h))).then_below hblx).trans hb5 (fun b hlt h => by have := (HK4.out b h).2.1; omega))
       have HAG5 := Lib.hid (show Agree w ct c4 from HAG.out.trans HA4.out HU.out.size)
       have HX5 := Lib.hid ((HX4.out.under hblx HX4.out.lt).but hb5 (fun h => (HK4.out B5 h).2.2.2 rfl))
       have HC55 := Lib.hid (show c4 B5 = 0 from (HA4.out B5 HX.out.lt).trans HC5.out)
       have HWK5 := Lib.hid (show Win (fun b => (SK b ∨ w4.heap.size + 1 ≤ b) ∧ b < w5.heap.size) 3 1 w5 v' (k + 1) (knrow (ks ++ [n1])) from by
        unfold knrow
        rw [List.map_append]
        exact hw5.mono (fun j hlt h => ⟨by rcases h with h | h; exact .inl h; exact .inr (by first | exact h | (rw [hsx] at h; exact h)), hlt⟩))
       have HSK5 := Lib.hid (fun b (h : (SK b ∨ w4.heap.size + 1 ≤ b) ∧ b < w5.heap.size) => show c4 b = 0 ∧ w.heap.size ≤ b ∧ b < w5.heap.size ∧ b ≠ B5 from by
        obtain ⟨h | h, hlt⟩ := h
        ·
         have := HK4.out b h
         exact ⟨this.1, this.2.1, hlt, this.2.2.2⟩
        ·
         refine ⟨HD4.out b (by omega), ?_, hlt, ?_⟩
         ·
          have := HU.out.size; have := HS4.out; omega
         ·
          have := HX4.out.lt; omega)
       obtain ⟨so', sc', hv, -⟩ := HWK5.out.form
       subst hv
       have HKS5 := Lib.hid (show (ks ++ [n1]).length = k + 1 from by rw [List.length_append, HKS.out]; rfl)
       clear hw5 hb5 hblx hsx HWK HSK HX HC5 HU HJ HJ4 HAG HWK4 HX4 HQ HL HKS HWR HKR HZR
       go_wp2
       go_roundw
       case rel => exact ⟨k + 1, N1, ks ++ [n1], F1, c4, _, so', sc', rfl, by go_num, by omega, HKS5, HQ1, HL1, HJ5, HU5, HAG5, HX5, HC55, HWK5, HSK5⟩
       case measure => simp [intOf]; omega
      ·
       have hkm1 : decide ((k : Int) < m) = false := decide_eq_false hkm
       have hkm2 : decide (k < m) = false := decide_eq_false (by omega)
       have HE := Lib.hid (show RES = (setK Nk N.length ks, none, N.length) from by rw [HR1.out, show RES0 = (Nk, none, ks) from HQ.out.done (by have := HKM.out; omega)]; rfl)
       obtain ⟨zr, hzr⟩ : ∃ n, Zr.length = n := ⟨_, rfl⟩
       have hzl : zn < zr := by have h1 := HL.out; have h2 := HNL.out; have h3 : Nk.length = Zr.length := by rw [← HZR.out, List.length_map]
                                omega
       have HWN := Lib.hid (show Win (fun b => ck b = 2) 42 10 wr (vr 2) zr (Zr.flatMap njrow) from by have q := HWR.out.win 2 (by omega) (by omega); rw [upd_same] at q; have q : Win (fun b => ck b = 2) 42 10 wr (vr 2) Zr.length (Zr.flatMap njrow) := q; rw [hzr] at q; exact q)
       obtain ⟨no', nc', hvr, hnc', -, hnf⟩ := HWN.out.form
       obtain ⟨zz, hzz⟩ : ∃ z, Zr[zn]? = some z := ⟨_, List.getElem?_eq_getElem (by omega)⟩
       obtain ⟨nb, noff, hno, -, hnbl, hcell, hfr⟩ := hnf (zn * 10 + 6) (by omega)
       rw [njrow_at Zr zn 6 zz hzz (by omega)] at hcell
       have hcell : wr.cell? ⟨nb, noff + zn * 10 + 6, none⟩ = some (.slice zz.ko zz.n.ks.length zz.kc) := by rw [Nat.add_assoc]; exact hcell
       have hfr : wr.frozen? ⟨nb, noff + zn * 10 + 6, none⟩ = false := by rw [Nat.add_assoc]; exact hfr
       subst hno
       have c2 : wr.cell? ⟨g, 2, none⟩ = some (.slice (some ⟨nb, noff, none⟩) zr nc') := by
        have q : wr.cell? ⟨g, 2, none⟩ = some (vr 2) := HWR.out.own.cell 2
        rw [q, hvr]
       have HCL := jn_close (SK := SK) (so := so) (sc := sc) (n := zn) (ks := ks) (rows := rows) HWR.out HKR.out (by rw [hzr]; exact hvr) (by omega) (by rw [HKS.out]; exact HWK.out) (fun b hs => by
        obtain ⟨h1, h2, h3, h4⟩ := HSK.out b hs
        exact ⟨h1, by obtain ⟨v', Z', hj, -⟩ := HJ0.out; have := hj.bl.size; omega, h3⟩)
       rw [HKS.out, ← Nat.add_assoc, HZR.out] at HCL
       obtain ⟨c', hj, hb, hcc⟩ := HCL
       have HJ9 := Lib.hid hj
       have HB9 := Lib.hid hb
       have HC9 := Lib.hid hcc
       have hzi : decide ((zn : Int) < (zr : Int)) = true := decide_eq_true (by omega)
       have hzin : decide (zn < zr) = true := decide_eq_true hzl
       clear hj hb hcc hzz hvr hnf hnc' hzr
       go_wp2
       go_ret
       rw [HE.out]
       refine ⟨c', (by show Ending.returned (.int .i64 (zn : Int)) = .returned (.int .i64 (N.length : Int)); rw [HNL.out]), (by rw [HNL.out]; exact HJ9.out), HU.out.trans HB9.out (fun b hlt h => .inr ((HAG.out b hlt).symm.trans h)), fun b hlt => ?_⟩
       rw [HC9.out b (fun hs => by have := (HSK.out b hs).2.1; omega)]
       exact HAG.out b hlt
end Go.Proofs.Ytbjgojdpfehnmaa
