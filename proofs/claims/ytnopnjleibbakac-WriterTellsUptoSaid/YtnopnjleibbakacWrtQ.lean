/- Expressions as they are written: the walks of the reference. -/
import Derived.Test.YtnopnjleibbakacWrtR
namespace Go.Proofs.Ytnopnjleibbakac
set_option linter.unusedVariables false
open Go.RowKit Go.Sort

def RPrints (n : Nat) : Prop := ∀ (y : Ex) (ko : Option Addr) (kc : Nat) (W : World), PrOk n y → HasK W n ko y.kids →
  Calls Try.prog 7 #[exv y ko kc] W fun e w' => e = .returned (.string (ofL (prX n y))) ∧ Below W.heap.size W w'
theorem par_yes (l : List UInt8) : (⟨#[40]⟩ : ByteArray) ++ ofL l ++ (⟨#[41]⟩ : ByteArray) = ofL (parX true l) := by
  rw [bytes_cons, bytes_snoc]; rfl

set_option maxRecDepth 100000 in
set_option maxHeartbeats 3200000 in
theorem rkid_any (n : Nat) (IHP : RPrints n) (x : Ex) (ko : Option Addr) (kc : Nat) (c : Int) (w : World) (hx : PrOk n x) (hK : HasK w n ko x.kids) :
    Calls Try.prog 23 #[exv x ko kc, .int .i64 (c + 1)] w fun e w' => e = .returned (.string (ofL (parX (decide (cloX x.op ≤ c)) (prX n x)))) ∧ Below w.heap.size w w' := by
  obtain ⟨m, hm⟩ : ∃ m, x.kids.length = m := ⟨_, rfl⟩
  obtain ⟨o, ho⟩ : ∃ o, x.op = o := ⟨_, rfl⟩
  have hlen : (prX n x).length ≤ 1099511627776 := by have h1 := prX_len n x hx.small; have h2 := hx.room; omega
  have IH := Lib.hid (fun (W : World) (hb : Below w.heap.size w W) => show Calls Try.prog 7 #[.agg #[.int .i64 o, .string x.text, .int .u64 x.s0, .int .u64 x.s1, .int .u64 x.s2, .int .u64 x.s3, .slice ko m kc]] W fun e w' => e = .returned (.string (ofL (prX n x))) ∧ Below W.heap.size W w' from by
    have h := IHP x ko kc W hx (HasK.below hb hK)
    unfold exv at h
    rw [hm, ho] at h
    exact h)
  have HB0 := Lib.hid (below_box w (.cells #[.int .i64 o, .string x.text, .int .u64 x.s0, .int .u64 x.s1, .int .u64 x.s2, .int .u64 x.s3, .slice ko m kc] 27))
  have HO := Lib.hid (Own.fresh w 27 [.int .i64 o, .string x.text, .int .u64 x.s0, .int .u64 x.s1, .int .u64 x.s2, .int .u64 x.s3, .slice ko m kc])
  have HC := Lib.hid (level_any o)
  unfold exv
  rw [hm, ho]
  generalize prX n x = l at *
  obtain ⟨R, hR⟩ : ∃ R, ofL l = R := ⟨_, rfl⟩
  have HR := Lib.hid hR
  have rs : R.size ≤ 1099511627776 := by rw [← hR, ofL_size]; exact hlen
  rw [hR] at IH
  generalize cloX o = cx at *
  clear hR hlen hm ho hx hK IHP
  by_cases hc : cx ≤ c
  · have hd : decide (cx < c + 1) = true := decide_eq_true (by omega)
    have HE := Lib.hid (show decide (cx ≤ c) = true from decide_eq_true hc)
    clear hc
    go_enter Try.func23, Try.ntmps23
    go_wp2_with fail
    refine (HC.out _).mono ?_
    rintro e w1 ⟨rfl, rfl⟩
    go_wp2_with fail
    refine (IH.out _ HB0.out).mono ?_
    rintro e w1 ⟨rfl, hb1⟩
    have HB1 := Lib.hid (keepb HB0.out hb1)
    clear hb1
    go_wp2
    go_ret
    exact ⟨ret_str (by rw [HE.out, ← HR.out]; exact par_yes l), HB1.out⟩
  · have hd : decide (cx < c + 1) = false := decide_eq_false (by omega)
    have HE := Lib.hid (show decide (cx ≤ c) = false from decide_eq_false hc)
    clear hc
    go_enter Try.func23, Try.ntmps23
    go_wp2_with fail
    refine (HC.out _).mono ?_
    rintro e w1 ⟨rfl, rfl⟩
    go_wp2_with fail
    refine (IH.out _ HB0.out).mono ?_
    rintro e w1 ⟨rfl, hb1⟩
    have HB1 := Lib.hid (keepb HB0.out hb1)
    clear hb1
    go_wp2
    go_ret
    exact ⟨ret_str (by rw [HE.out, ← HR.out]; rfl), HB1.out⟩

theorem ofL_two (a b : List UInt8) (s : ByteArray) (hs : s = ofL b) (c : List UInt8) : ofL a ++ s ++ ofL c = ofL (a ++ b ++ c) := by
  subst hs
  rw [ofL_app, ofL_app, ofL_data, ofL_data]

set_option maxRecDepth 100000 in
set_option maxHeartbeats 3200000 in
theorem rrow_any (n : Nat) (IHP : RPrints n) (x : Ex) (ko : Option Addr) (kc m : Nat) (hm : x.kids.length = m) (sp : ByteArray) (hsp : sp = ofL (sepX x.op)) (c : Int) (hc : cloX x.op + 1 = c) (w : World) (hx : PrOk (n + 1) x) (hK : HasK w (n + 1) ko x.kids) :
    Calls Try.prog 13 #[.slice ko m kc, .string sp, .int .i64 c] w fun e w' => e = .returned (.string (ofL (rowX (prX n) x))) ∧ Below w.heap.size w w' := by
  have HK := Lib.hid hK
  have HX := Lib.hid hx
  have hl := (grt_len hx.small).1
  have HM := Lib.hid hm
  have IH := Lib.hid (fun (y : Ex) (ao : Option Addr) (ac : Nat) (W : World) (h1 : PrOk n y) (h2 : HasK W n ao y.kids) => rkid_any n IHP y ao ac (cloX x.op) W h1 h2)
  rw [hc] at IH
  obtain ⟨L, hL⟩ : ∃ L, x.kids.map (kidX (prX n) x.op) = L := ⟨_, rfl⟩
  have HL := Lib.hid hL
  have HLM := Lib.hid (show L.length = m by rw [← hL, List.length_map, hm])
  have HRES := Lib.hid (show rowX (prX n) x = Lib.join L (sepX x.op) by rw [← hL]; rfl)
  have HLEN := Lib.hid (rowX_room hx)
  have HSP := Lib.hid hsp
  have spz : sp.size ≤ 3 := by rw [hsp, ofL_size]; exact sepX_len _
  have HB0 := Lib.hid (Below.refl w.heap.size w)
  rw [hm] at hl
  clear hm hK hx hL hsp hc
  go_enter Try.func13, Try.ntmps13
  go_wp2_with fail
  go_loopw [7, 8] (fun b7 b8 wr => ∃ k : Nat, b8 = .int .i64 (k : Int) ∧ (k : Int) ≤ m ∧ b7 = .string (ofL (Lib.join (L.take k) (sepX x.op))) ∧ Hid (Below w.heap.size w wr)) (fun _ b8 _ => m - (intOf b8).toNat)
  case atStart => exact ⟨0, rfl, by omega, rfl, HB0⟩
  case round =>
    obtain ⟨k, rfl, hk2, rfl, HB⟩ := hrel
    clear HB0
    by_cases h2 : (k : Int) < m
    · obtain ⟨y, hy⟩ : ∃ y, x.kids[k]? = some y := ⟨_, List.getElem?_eq_getElem (by have := HM.out; omega)⟩
      obtain ⟨g, off, kk, kd, rfl, hg, c0, c1, c2, c3, c4, c5, c6, hr⟩ := HK.out k y hy
      have HR := Lib.hid hr
      have HPY := Lib.hid (HX.out.kid hy)
      have hLy : L[k]? = some (parX (decide (cloX y.op ≤ cloX x.op)) (prX n y)) := by rw [← HL.out, List.getElem?_map, hy]; rfl
      have HT := Lib.hid (join_take_succ L (sepX x.op) k _ hLy)
      have HZ := Lib.hid (show (Lib.join (L.take k) (sepX x.op)).length ≤ 1099511627776 ∧ (parX (decide (cloX y.op ≤ cloX x.op)) (prX n y)).length ≤ 1099511627776 from by
        have h3 := HLEN.out
        rw [HRES.out] at h3
        refine ⟨Nat.le_trans (join_take_le L (sepX x.op) k) h3, ?_⟩
        have h4 := prX_len n y HPY.out.small
        have h5 := HPY.out.room
        have h6 := parX_len (decide (cloX y.op ≤ cloX x.op)) (prX n y)
        omega)
      have e0 := keepc c0 HB.out
      have e1 := keepc c1 HB.out
      have e2 := keepc c2 HB.out
      have e3 := keepc c3 HB.out
      have e4 := keepc c4 HB.out
      have e5 := keepc c5 HB.out
      have e6 := keepc c6 HB.out
      have hgr : g < wr.heap.size := Nat.lt_of_lt_of_le hg HB.out.size
      clear c0 c1 c2 c3 c4 c5 c6 hg hr hy hLy
      have HKID := Lib.hid (IH.out y kk kd)
      generalize parX (decide (cloX y.op ≤ cloX x.op)) (prX n y) = q at *
      obtain ⟨Q, hQ⟩ : ∃ Q, ofL q = Q := ⟨_, rfl⟩
      obtain ⟨U, hU⟩ : ∃ U, ofL (Lib.join (L.take k) (sepX x.op)) = U := ⟨_, rfl⟩
      have HQ := Lib.hid hQ
      have HU := Lib.hid hU
      have qs : Q.size ≤ 1099511627776 := by rw [← hQ, ofL_size]; exact HZ.out.2
      have us : U.size ≤ 1099511627776 := by rw [← hU, ofL_size]; exact HZ.out.1
      rw [hQ] at HKID
      rw [hU]
      clear hQ hU HZ
      by_cases hz : k = 0
      · subst hz
        simp only [Nat.zero_mul, Nat.add_zero] at e0 e1 e2 e3 e4 e5 e6
        have HE := Lib.hid (show U ++ Q = ofL (Lib.join (L.take (0 + 1)) (sepX x.op)) by rw [HT.out, if_pos rfl, ← HU.out, ← HQ.out, ofL_app, ofL_data]; rfl)
        have HU0 := Lib.hid (show U = ⟨#[]⟩ by rw [← HU.out]; rfl)
        clear HU
        go_wp2_with fail
        refine (HKID.out _ HPY.out (HasK.below HB.out HR.out)).mono ?_
        rintro e w1 ⟨rfl, hb1⟩
        have HB1 := Lib.hid (keepb HB.out hb1)
        clear hb1 e0 e1 e2 e3 e4 e5 e6
        go_wp2
        go_roundw
        case rel => exact ⟨0 + 1, by go_num, by omega, by rw [HE.out], HB1⟩
        case measure => simp [intOf]; omega
      · have HE := Lib.hid (show U ++ sp ++ Q = ofL (Lib.join (L.take (k + 1)) (sepX x.op)) by rw [HT.out, if_neg hz, ← HU.out, ← HQ.out]; exact ofL_two _ _ _ HSP.out _)
        have hkp : decide (0 < k) = true := decide_eq_true (by omega)
        clear HU
        go_wp2_with fail
        refine (HKID.out _ HPY.out (HasK.below HB.out HR.out)).mono ?_
        rintro e w1 ⟨rfl, hb1⟩
        have HB1 := Lib.hid (keepb HB.out hb1)
        clear hb1 e0 e1 e2 e3 e4 e5 e6
        go_wp2
        go_roundw
        case rel => exact ⟨k + 1, by go_num, by omega, by rw [HE.out], HB1⟩
        case measure => simp [intOf]; omega
    · obtain rfl : k = m := by omega
      have HE := Lib.hid (show ofL (Lib.join (L.take k) (sepX x.op)) = ofL (rowX (prX n) x) by rw [HRES.out, List.take_of_length_le (by rw [HLM.out]; omega)])
      generalize ofL (Lib.join (L.take k) (sepX x.op)) = U at *
      go_wp2
      go_ret
      exact ⟨ret_str HE.out, HB.out⟩

set_option maxRecDepth 100000 in
set_option maxHeartbeats 3200000 in
theorem rprint_any : ∀ n, RPrints n
  | 0, x, ko, kc, w, hx, hK => by have := hx.small; cases this
  | n + 1, x, ko, kc, w, hx, hK => by
    obtain ⟨m, hm⟩ : ∃ m, x.kids.length = m := ⟨_, rfl⟩
    obtain ⟨o, ho⟩ : ∃ o, x.op = o := ⟨_, rfl⟩
    have HPX := Lib.hid (prX_case n x o ho)
    have HLR := Lib.hid (rowX_room hx)
    have HT := Lib.hid (grt_len hx.small).2
    have HTX := Lib.hid (fun W => rtext_any x.text (by have := HT.out; omega) W)
    have HCL := Lib.hid (fun W => set_fact hx.sets W 12 classS rclass_any)
    have IHK := Lib.hid (fun (sp : ByteArray) (hs : sp = ofL (sepX o)) (c : Int) (hc : cloX o + 1 = c) (W : World) (hb : Below w.heap.size w W) => rrow_any n (rprint_any n) x ko kc m hm sp (by rw [ho]; exact hs) c (by rw [ho]; exact hc) W hx (HasK.below hb hK))
    have HB0 := Lib.hid (below_box w (.cells #[.int .i64 o, .string x.text, .int .u64 x.s0, .int .u64 x.s1, .int .u64 x.s2, .int .u64 x.s3, .slice ko m kc] 27))
    have HO := Lib.hid (Own.fresh w 27 [.int .i64 o, .string x.text, .int .u64 x.s0, .int .u64 x.s1, .int .u64 x.s2, .int .u64 x.s3, .slice ko m kc])
    have HTS := Lib.hid (show (ofL x.text.data.toList) = x.text from ofL_self _)
    have ts : x.text.size ≤ 60 := HT.out
    unfold exv
    rw [hm, ho]
    generalize rowX (prX n) x = l at *
    clear hm ho hx hK
    obtain ⟨R, hR⟩ : ∃ R, ofL l = R := ⟨_, rfl⟩
    have HR := Lib.hid hR
    rw [hR] at IHK
    have rs : R.size ≤ 1099511627776 := by rw [← hR, ofL_size]; exact HLR.out
    clear hR
    by_cases h1 : o = 1
    · subst h1
      go_enter Try.func7, Try.ntmps7
      go_wp2_with fail
      refine (HTX.out _).mono ?_
      rintro e w1 ⟨rfl, hb1⟩
      have HB1 := Lib.hid (keepb HB0.out hb1)
      clear hb1
      have HE := Lib.hid (show textS x.text = ofL (prX (n + 1) x) by rw [HPX.out]; exact (ofL_self _).symm)
      generalize textS x.text = q at *
      go_wp2
      go_ret
      exact ⟨ret_str (HE.out), HB1.out⟩
    by_cases h2 : o = 2
    · subst h2
      go_enter Try.func7, Try.ntmps7
      go_wp2_with fail
      refine (HCL.out _).mono ?_
      rintro e w1 ⟨rfl, hb1⟩
      have HB1 := Lib.hid (keepb HB0.out hb1)
      clear hb1
      have HE := Lib.hid (show classS (inX x) = ofL (prX (n + 1) x) by rw [HPX.out]; exact (ofL_self _).symm)
      generalize classS (inX x) = q at *
      go_wp2
      go_ret
      exact ⟨ret_str (HE.out), HB1.out⟩
    by_cases h3 : o = 3
    · subst h3
      go_enter Try.func7, Try.ntmps7
      go_wp2
      go_ret
      exact ⟨ret_str (by rw [HPX.out]; rfl), HB0.out⟩
    by_cases h11 : o = 11
    · subst h11
      go_enter Try.func7, Try.ntmps7
      go_wp2
      go_ret
      exact ⟨ret_str (by rw [HPX.out]; exact HTS.out.symm), HB0.out⟩
    by_cases h5 : o = 5
    · subst h5
      go_enter Try.func7, Try.ntmps7
      go_wp2_with fail
      refine (IHK.out _ (by decide) _ (by decide) _ HB0.out).mono ?_
      rintro e w1 ⟨rfl, hb1⟩
      have HB1 := Lib.hid (keepb HB0.out hb1)
      clear hb1
      go_wp2
      go_ret
      exact ⟨ret_str (by rw [HPX.out]; exact HR.out.symm), HB1.out⟩
    by_cases h4 : o = 4
    · subst h4
      go_enter Try.func7, Try.ntmps7
      go_wp2_with fail
      refine (IHK.out _ (by decide) _ (by decide) _ HB0.out).mono ?_
      rintro e w1 ⟨rfl, hb1⟩
      have HB1 := Lib.hid (keepb HB0.out hb1)
      clear hb1
      go_wp2
      go_ret
      exact ⟨ret_str (by rw [HPX.out]; exact HR.out.symm), HB1.out⟩
    by_cases h9 : o = 9
    · subst h9
      go_enter Try.func7, Try.ntmps7
      go_wp2_with fail
      refine (IHK.out _ (by decide) _ (by decide) _ HB0.out).mono ?_
      rintro e w1 ⟨rfl, hb1⟩
      have HB1 := Lib.hid (keepb HB0.out hb1)
      clear hb1
      go_wp2
      go_ret
      exact ⟨ret_str (by rw [HPX.out, ← HR.out]; exact bytes_cons _ _), HB1.out⟩
    by_cases h10 : o = 10
    · subst h10
      go_enter Try.func7, Try.ntmps7
      go_wp2_with fail
      refine (IHK.out _ (by decide) _ (by decide) _ HB0.out).mono ?_
      rintro e w1 ⟨rfl, hb1⟩
      have HB1 := Lib.hid (keepb HB0.out hb1)
      clear hb1
      go_wp2
      go_ret
      exact ⟨ret_str (by rw [HPX.out, ← HR.out]; exact bytes_cons _ _), HB1.out⟩
    by_cases h13 : o = 13
    · subst h13
      go_enter Try.func7, Try.ntmps7
      go_wp2_with fail
      refine (IHK.out _ (by decide) _ (by decide) _ HB0.out).mono ?_
      rintro e w1 ⟨rfl, hb1⟩
      have HB1 := Lib.hid (keepb HB0.out hb1)
      clear hb1
      go_wp2
      go_ret
      exact ⟨ret_str (by rw [HPX.out, ← HR.out]; exact (congrArg (· ++ (⟨#[126]⟩ : ByteArray)) (bytes_cons 126 l)).trans (bytes_snoc 126 _)), HB1.out⟩
    by_cases h12 : o = 12
    · subst h12
      go_enter Try.func7, Try.ntmps7
      go_upto_region 21 with (fail)
      generalize hW : w.alloc _ = W1 at *
      obtain ⟨c0, c1, c2, c3, c4, c5, c6⟩ := HO.out.seven
      have hlt := HO.out.lt
      have d1 := cell_regrown c1
      have d0 := cell_regrown c0
      have d2 := cell_regrown c2
      have d3 := cell_regrown c3
      have d4 := cell_regrown c4
      have d5 := cell_regrown c5
      have d6 := cell_regrown c6
      have CK := Lib.hid (fun (dq : Nat) (os : Array Obj) => IHK.out ⟨#[]⟩ (by decide) 3 (by decide) (grow (redrawn W1 dq) os) (keepb HB0.out (below_regrown W1 dq os)))
      refine wp_region_quiet_below (by kernel_rfl) (by kernel_rfl) ?_
      repeat (go_big_quiet_step (first | (go_at_call 13; with_reducible exact Calls.regrown_of (CK.out _ _))))
      refine wpQuiet_nil ?_
      intro _ hw'
      obtain ⟨⟨dq, osq⟩, hw''⟩ := hw'
      subst hw''
      go_wp2
      go_ret
      exact ⟨ret_str (by rw [HPX.out, ← HR.out]; exact bytes_two _ _ _), keepb HB0.out (below_regrown _ _ _)⟩
    by_cases h6 : o = 6
    · subst h6
      go_enter Try.func7, Try.ntmps7
      go_wp2_with fail
      refine (IHK.out _ (by decide) _ (by decide) _ HB0.out).mono ?_
      rintro e w1 ⟨rfl, hb1⟩
      have HB1 := Lib.hid (keepb HB0.out hb1)
      clear hb1
      go_wp2
      go_ret
      exact ⟨ret_str (by rw [HPX.out, ← HR.out]; exact bytes_snoc _ _), HB1.out⟩
    by_cases h7 : o = 7
    · subst h7
      go_enter Try.func7, Try.ntmps7
      go_wp2_with fail
      refine (IHK.out _ (by decide) _ (by decide) _ HB0.out).mono ?_
      rintro e w1 ⟨rfl, hb1⟩
      have HB1 := Lib.hid (keepb HB0.out hb1)
      clear hb1
      go_wp2
      go_ret
      exact ⟨ret_str (by rw [HPX.out, ← HR.out]; exact bytes_snoc _ _), HB1.out⟩
    by_cases h8 : o = 8
    · subst h8
      go_enter Try.func7, Try.ntmps7
      go_wp2_with fail
      refine (IHK.out _ (by decide) _ (by decide) _ HB0.out).mono ?_
      rintro e w1 ⟨rfl, hb1⟩
      have HB1 := Lib.hid (keepb HB0.out hb1)
      clear hb1
      go_wp2
      go_ret
      exact ⟨ret_str (by rw [HPX.out, ← HR.out]; exact bytes_snoc _ _), HB1.out⟩
    have e1 : (o == 1) = false := beq_eq_false_iff_ne.2 h1
    have e2 : (o == 2) = false := beq_eq_false_iff_ne.2 h2
    have e3 : (o == 3) = false := beq_eq_false_iff_ne.2 h3
    have e11 : (o == 11) = false := beq_eq_false_iff_ne.2 h11
    have e5 : (o == 5) = false := beq_eq_false_iff_ne.2 h5
    have e4 : (o == 4) = false := beq_eq_false_iff_ne.2 h4
    have e9 : (o == 9) = false := beq_eq_false_iff_ne.2 h9
    have e10 : (o == 10) = false := beq_eq_false_iff_ne.2 h10
    have e13 : (o == 13) = false := beq_eq_false_iff_ne.2 h13
    have e12 : (o == 12) = false := beq_eq_false_iff_ne.2 h12
    have e6 : (o == 6) = false := beq_eq_false_iff_ne.2 h6
    have e7 : (o == 7) = false := beq_eq_false_iff_ne.2 h7
    have e8 : (o == 8) = false := beq_eq_false_iff_ne.2 h8
    have HE := Lib.hid (show prX (n + 1) x = [] by rw [HPX.out, if_neg h1, if_neg h2, if_neg h3, if_neg h11, if_neg h4, if_neg h5, if_neg h6, if_neg h7, if_neg h8, if_neg h9, if_neg h10, if_neg h12, if_neg h13])
    clear h1 h2 h3 h11 h5 h4 h9 h10 h13 h12 h6 h7 h8
    go_enter Try.func7, Try.ntmps7
    go_wp2
    go_ret
    exact ⟨ret_str (by rw [HE.out]; rfl), HB0.out⟩
end Go.Proofs.Ytnopnjleibbakac
