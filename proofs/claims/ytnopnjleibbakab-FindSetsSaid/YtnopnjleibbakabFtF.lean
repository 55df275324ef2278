/- What queries lead to, by definition: a step, walked. -/
import Derived.Test.YtnopnjleibbakabFtB
import Derived.Test.YtnopnjleibbakabFtE
namespace Go.Proofs.Ytnopnjleibbakab
set_option linter.unusedVariables false
open Go.RowKit Go.Sort

/-- Is j among those of L that are as it is asked, the counting begun at c. -/
def refN (f : Int → Bool) (nth : Int) : List Int → Int → Nat → Bool
  | [], _, _ => false
  | z :: L, c, j => if f z = true then (if nth ≤ 0 ∨ c + 1 = nth then (decide ((j : Int) = z) || refN f nth L (c + 1) j) else refN f nth L (c + 1) j) else refN f nth L c j
theorem inL_cons (z : Int) (L : List Int) (j : Nat) : inL (z :: L) j = (decide ((j : Int) = z) || inL L j) := by
  unfold inL
  by_cases h : (j : Int) = z <;> simp [h]
theorem ref_all {f : Int → Bool} {nth : Int} (hn : nth ≤ 0) (j : Nat) : ∀ (L : List Int) (c : Int), refN f nth L c j = (inL L j && f j)
  | [], c => by simp [refN, inL]
  | z :: L, c => by
    unfold refN
    rw [inL_cons]
    by_cases hf : f z = true
    · rw [if_pos hf, if_pos (.inl hn), ref_all hn j L]
      by_cases hz : (j : Int) = z
      · rw [hz, hf]; simp
      · simp [hz]
    · rw [if_neg hf, ref_all hn j L]
      by_cases hz : (j : Int) = z
      · rw [hz]; simp [hf]
      · simp [hz]
theorem ref_past {f : Int → Bool} {nth : Int} (hn : 0 < nth) (j : Nat) : ∀ (L : List Int) (c : Int), nth ≤ c → refN f nth L c j = false
  | [], c, _ => rfl
  | z :: L, c, h => by
    unfold refN
    rw [if_neg (show ¬ (nth ≤ 0 ∨ c + 1 = nth) by omega), ref_past hn j L (c + 1) (by omega), ref_past hn j L c h]
    simp
theorem ref_nth {f : Int → Bool} {nth : Int} (hn : 0 < nth) (j : Nat) : ∀ (L : List Int) (c : Int), c < nth → refN f nth L c j = (inL (pickN f nth L c) j && f j)
  | [], c, _ => by simp [refN, pickN, inL]
  | z :: L, c, h => by
    unfold refN pickN
    by_cases hf : f z = true
    · rw [if_pos hf, if_pos hf]
      by_cases h1 : c + 1 = nth
      · rw [if_pos (.inr h1), if_pos h1, ref_past hn j L (c + 1) (by omega), inL_cons]
        by_cases hz : (j : Int) = z
        · rw [hz, hf]; simp
        · simp [hz, inL]
      · rw [if_neg (show ¬ (nth ≤ 0 ∨ c + 1 = nth) by omega), if_neg h1, ref_nth hn j L (c + 1) (by omega)]
    · rw [if_neg hf, if_neg hf, if_neg (show ¬ c = nth by omega), ref_nth hn j L c h]
def fB (l : Nodes) (s : ByteArray) (x : Hp) (y : Int) : Bool := isB l s y.toNat x
def refP (l : Nodes) (s : ByteArray) (x : Hp) (i : Int) (j : Nat) : Bool := refN (fB l s x) x.nth (wayL l i x.ax) 0 j
theorem refP_is (l : Nodes) (s : ByteArray) (x : Hp) (i : Int) (j : Nat) : refP l s x i j = (inL (plcN l s x i) j && isB l s j x) := by
  unfold refP plcN
  by_cases h : 0 < x.nth
  · rw [if_pos h, ref_nth h j _ 0 h]; rfl
  · rw [if_neg h, ref_all (by omega) j]; rfl
def refR (l : Nodes) (s : ByteArray) (x : Hp) (L : List Int) (j : Nat) : Bool := L.any fun i => refP l s x i j
theorem refR_is (l : Nodes) (s : ByteArray) (x : Hp) (j : Nat) : ∀ L, refR l s x L j = (metF l s x L j && isB l s j x)
  | [] => by simp [refR, metF]
  | i :: L => by
    have h := refR_is l s x j L
    unfold refR metF at h ⊢
    rw [List.any_cons, List.any_cons, h, refP_is]
    cases isB l s j x <;> simp
theorem refR_drop {l : Nodes} {s : ByteArray} {x : Hp} {L : List Int} {k : Nat} {i : Int} (h : L[k]? = some i) (j : Nat) : refR l s x (L.drop k) j = (refP l s x i j || refR l s x (L.drop (k + 1)) j) := by
  have hk := (List.getElem?_eq_some_iff.1 h).1
  have e : L[k] = i := (List.getElem?_eq_some_iff.1 h).2
  rw [List.drop_eq_getElem_cons hk, e]
  unfold refR
  rw [List.any_cons]
theorem refN_drop {f : Int → Bool} {nth : Int} {L : List Int} {k : Nat} {z : Int} (h : L[k]? = some z) (c : Int) (j : Nat) : refN f nth (L.drop k) c j = if f z = true then (if nth ≤ 0 ∨ c + 1 = nth then (decide ((j : Int) = z) || refN f nth (L.drop (k + 1)) (c + 1) j) else refN f nth (L.drop (k + 1)) (c + 1) j) else refN f nth (L.drop (k + 1)) c j := by
  have hk := (List.getElem?_eq_some_iff.1 h).1
  have e : L[k] = z := (List.getElem?_eq_some_iff.1 h).2
  rw [List.drop_eq_getElem_cons hk, e]; rfl

set_option maxRecDepth 1000000 in
set_option maxHeartbeats 3200000 in
theorem rstep_any (l : Nodes) (ao : Option Addr) (cap : Nat) (s : ByteArray) (hs : (s.size : Int) ≤ 1000) (x : Hp) (hh : (x.has.size : Int) ≤ 1000000) (B : Nat) (hn : (l.n : Int) ≤ 900) (v : Value) (L : List Int) (C : Nat) (hLn : (L.length : Int) ≤ 1000)
    (w : World) (hB : B ≤ w.heap.size) (hl : Has w ao B l) (hv : IntsAt w C v L) :
    Calls Try.prog 10 #[.slice ao l.n cap, .string s, v, .agg #[.int .i64 x.ax, .int .i64 x.kd, .string x.nm, .string x.is, .string x.has, .int .i64 x.nth]] w fun e w' => ∃ v', e = .returned v' ∧ IntsAt w' w.heap.size v' (stepL l s L x) ∧ Below w.heap.size w w' := by
  have HB0 := Lib.hid ((Below.refl w.heap.size w).alloc (Nat.le_refl _) (.cells #[.int .i64 x.ax, .int .i64 x.kd, .string x.nm, .string x.is, .string x.has, .int .i64 x.nth] 33))
  have HO0 := Lib.hid (Own.fresh w 33 [.int .i64 x.ax, .int .i64 x.kd, .string x.nm, .string x.is, .string x.has, .int .i64 x.nth])
  have HRI := Lib.hid (fun (W : World) (hb : Below w.heap.size w W) => rtree_any l ao cap B (by omega) W (Nat.le_trans hB hb.size) (hl.keep hb hB))
  have HLE := Lib.hid (fun (i : Int) (W : World) (hb : Below w.heap.size w W) => leads_any l ao cap i x.ax B (by omega) W (Nat.le_trans hB hb.size) (hl.keep hb hB))
  have HPA := Lib.hid (fun (i : Nat) (hi : i < l.n) (W : World) (hb : Below w.heap.size w W) => passes_any l ao cap s hs i hi x hh B (by omega) W (Nat.le_trans hB hb.size) (hl.keep hb hB))
  have HST := Lib.hid (show stepL l s L x = if treeB l l.n = true then sel (fun j => metF l s x L j && isB l s j x) l.n else [] from rfl)
  generalize stepL l s L x = RES at *
  obtain ⟨tr, htr⟩ : ∃ t, treeB l l.n = t := ⟨_, rfl⟩
  have HTR := Lib.hid htr
  rw [htr] at HRI HST
  obtain ⟨vo, vc, rfl, hvc, hA⟩ := hv
  have HA := Lib.hid hA
  obtain ⟨m, hm2⟩ : ∃ m, L.length = m := ⟨_, rfl⟩
  have HMM := Lib.hid hm2
  rw [hm2] at hLn HA hvc ⊢
  clear hB hl hA hm2 htr
  go_enter Try.func10, Try.ntmps10
  go_upto_region 1 with fail
  generalize World.alloc w _ = w1 at *
  go_wp2_with fail
  cases tr with
  | false =>
    have HE := Lib.hid (show RES = [] by rw [HST.out, if_neg (by decide)])
    go_loopw [9, 10] (fun b9 b10 wr => b9 = .slice none 0 0 ∧ b10 = .int .i64 0 ∧ Hid (Below w.heap.size w wr)) (fun _ _ _ => 0)
    case atStart => exact ⟨rfl, rfl, HB0⟩
    case round =>
      obtain ⟨rfl, rfl, HB⟩ := hrel
      by_cases h1 : (0 : Int) < m
      · go_wp2_with fail
        refine (HRI.out _ HB.out).mono ?_
        rintro e w2 ⟨rfl, hb2⟩
        go_wp2
        go_ret
        exact ⟨_, rfl, by rw [HE.out]; exact IntsAt.nil _ _, keepb HB.out hb2⟩
      · go_wp2
        go_ret
        exact ⟨_, rfl, by rw [HE.out]; exact IntsAt.nil _ _, HB.out⟩
  | true =>
    rw [if_pos rfl] at HST
    go_loopw [9, 10] (fun b9 b10 wr => ∃ (k : Nat) (M : Nat → Bool), b10 = .int .i64 (k : Int) ∧ (k : Int) ≤ m ∧ Hid (IntsAt wr w.heap.size b9 (sel M l.n)) ∧ Hid (∀ j, j < l.n → (M j || refR l s x (L.drop k) j) = (metF l s x L j && isB l s j x)) ∧ Hid (Own wr w.heap.size 33 [.int .i64 x.ax, .int .i64 x.kd, .string x.nm, .string x.is, .string x.has, .int .i64 x.nth]) ∧ Hid (Below w.heap.size w wr)) (fun _ b10 _ => m - (intOf b10).toNat)
    case atStart => exact ⟨0, fun _ => false, rfl, by omega, Lib.hid (by rw [sel_none (fun _ _ => rfl)]; exact IntsAt.nil _ _), Lib.hid (fun j hj => by rw [Bool.false_or, List.drop_zero, refR_is]), HO0, HB0⟩
    case round =>
      obtain ⟨k, M, rfl, hk, HI, HT, HO, HB⟩ := hrel
      clear HO0 HB0
      by_cases h1 : (k : Int) < m
      · obtain ⟨b, off, rfl, hb, hbC, hcl⟩ := HA.out k (by omega)
        obtain ⟨i, hi⟩ : ∃ i, L[k]? = some i := ⟨_, List.getElem?_eq_getElem (by have := HMM.out; omega)⟩
        rw [getD_of hi] at hcl
        have HLI := Lib.hid hi
        have hcw := keepc hcl HB.out
        have hw1 : IntKind.i64.wrap ((k : Int) + 1) = (k : Int) + 1 := by rw [IntKind.wrap_i64]; omega
        clear hi hcl
        go_wp2_with fail
        refine (HRI.out _ HB.out).mono ?_
        rintro e w2 ⟨rfl, hb2⟩
        have HB2 := Lib.hid (keepb HB.out hb2)
        have HO2 := Lib.hid (HO.out.under hb2 HO.out.lt)
        have HI2 := Lib.hid (HI.out.below hb2)
        have hc2 := keepc hcw hb2
        have hbl : b < w2.heap.size := Nat.lt_of_lt_of_le hb HB2.out.size
        clear hb2 HB HO HI hcw hb
        obtain ⟨x0, x1, x2, x3, x4, x5, xg, -⟩ := HO2.out.six
        have HBd := Lib.hid (show Below w.heap.size w w2.drew from HB2.out.drew)
        have hux : ∃ z, z = u9 := ⟨_, rfl⟩
        obtain ⟨out, hout⟩ := hux
        subst hout
        go_upto_region 5 with fail
        go_cut [11] (fun c wx => Hid (IntsAt wx 0 c (wayL l i x.ax)) ∧ Hid (IntsAt wx w.heap.size out (sel M l.n)) ∧ Hid (Own wx w.heap.size 33 [.int .i64 x.ax, .int .i64 x.kd, .string x.nm, .string x.is, .string x.has, .int .i64 x.nth]) ∧ Hid (Below w.heap.size w wx))
        case first =>
          go_region_law ((go_simp; go_at_call 25; refine (HLE.out i _ HBd.out).mono ?_; rintro e w3 ⟨u, rfl, ho3, hb3⟩; have HNE := Lib.hid ho3.ints; have HBY := Lib.hid hb3; clear ho3 hb3))
          all_goals
            go_wp2
            go_meet
            exact ⟨Lib.hid (HNE.out.mono (Nat.zero_le _)), Lib.hid (IntsAt.below (w := w2.drew) HI2.out HBY.out), Lib.hid ((HO2.out.on_drew).under HBY.out HO2.out.lt), Lib.hid (keepb HBd.out HBY.out)⟩
        case rest =>
          obtain ⟨HNE, HI3, HO3, HB3⟩ := hcut
          clear HBd HO2 HB2 HI2 x0 x1 x2 x3 x4 x5 xg hc2 hbl
          have hnl := way_len l i x.ax
          have HWI := Lib.hid (fun y hy => way_in HTR.out (i := i) (ax := x.ax) (y := y) hy)
          obtain ⟨T1, hT1⟩ : ∃ T1 : Nat → Bool, (fun j => M j || refN (fB l s x) x.nth (wayL l i x.ax) 0 j) = T1 := ⟨_, rfl⟩
          have HT1 := Lib.hid (fun j => congrFun hT1 j)
          have HTN := Lib.hid (show ∀ j, j < l.n → (T1 j || refR l s x (L.drop (k + 1)) j) = (metF l s x L j && isB l s j x) from fun j hj => by
            rw [← HT.out j hj, refR_drop HLI.out, ← HT1.out j, Bool.or_assoc]; rfl)
          obtain ⟨near, hne⟩ : ∃ z, wayL l i x.ax = z := ⟨_, rfl⟩
          rw [hne] at HNE HWI HT1 hnl
          clear hT1 hne HT
          obtain ⟨eo, ec, rfl, hec, hE⟩ := HNE.out
          have HNC := Lib.hid hE
          obtain ⟨nl, hnl2⟩ : ∃ z, near.length = z := ⟨_, rfl⟩
          have HNL := Lib.hid hnl2
          rw [hnl2] at hnl hec HNC ⊢
          clear hE HNE hnl2
          go_wp2_with fail
          go_loopw [9, 12, 13] (fun b9 b12 b13 wr => ∃ (q : Nat) (c : Int) (M2 : Nat → Bool), b12 = .int .i64 c ∧ b13 = .int .i64 (q : Int) ∧ (q : Int) ≤ nl ∧ 0 ≤ c ∧ c ≤ q ∧ Hid (IntsAt wr w.heap.size b9 (sel M2 l.n)) ∧ Hid (∀ j, j < l.n → (M2 j || refN (fB l s x) x.nth (near.drop q) c j) = T1 j) ∧ Hid (Own wr w.heap.size 33 [.int .i64 x.ax, .int .i64 x.kd, .string x.nm, .string x.is, .string x.has, .int .i64 x.nth]) ∧ Hid (Below wc.heap.size wc wr)) (fun _ _ b13 _ => nl - (intOf b13).toNat)
          case atStart => exact ⟨0, 0, M, rfl, rfl, by omega, by omega, by omega, HI3, Lib.hid (fun j hj => by rw [List.drop_zero]; exact HT1.out j), HO3, Lib.hid (Below.refl _ _)⟩
          case round =>
            obtain ⟨q, c, M2, rfl, rfl, hq, hc0, hcq, HI, HT2, HO, HB⟩ := hrel
            clear HI3 HO3
            obtain ⟨out2, hout2⟩ : ∃ z, z = u9 := ⟨_, rfl⟩
            subst hout2
            have HBW := Lib.hid (keepb HB3.out HB.out)
            by_cases h2 : (q : Int) < nl
            · obtain ⟨eb, eoff, rfl, heb, -, hec2⟩ := HNC.out q (by omega)
              obtain ⟨y, hy⟩ : ∃ y, near[q]? = some y := ⟨_, List.getElem?_eq_getElem (by have := HNL.out; omega)⟩
              rw [getD_of hy] at hec2
              have hyr := HWI.out y (List.mem_of_getElem? hy)
              obtain ⟨yi, rfl⟩ : ∃ yi : Nat, y = (yi : Int) := ⟨y.toNat, by omega⟩
              have hyl : yi < l.n := by omega
              have HY := Lib.hid hy
              have e0 := keepc hec2 HB.out
              have hebw : eb < wr.heap.size := Nat.lt_of_lt_of_le heb HB.out.size
              obtain ⟨x0, x1, x2, x3, x4, x5, xg, -⟩ := HO.out.six
              have e0' := cell_regrown e0
              have x0' := cell_regrown x0
              have x1' := cell_regrown x1
              have x2' := cell_regrown x2
              have x3' := cell_regrown x3
              have x4' := cell_regrown x4
              have x5' := cell_regrown x5
              have hwq : IntKind.i64.wrap ((q : Int) + 1) = (q : Int) + 1 := by rw [IntKind.wrap_i64]; omega
              have hwc : IntKind.i64.wrap (c + 1) = c + 1 := by rw [IntKind.wrap_i64]; omega
              obtain ⟨pv, hpv⟩ : ∃ z, isB l s yi x = z := ⟨_, rfl⟩
              have HPV := Lib.hid (show fB l s x (yi : Int) = pv by unfold fB; rw [Int.toNat_natCast]; exact hpv)
              have CPS := Lib.hid (fun (dq : Nat) (os : Array Obj) => show Calls Try.prog 26 #[.slice ao l.n cap, .string s, .int .i64 (yi : Int), .agg #[.int .i64 x.ax, .int .i64 x.kd, .string x.nm, .string x.is, .string x.has, .int .i64 x.nth]] (grow (redrawn wr dq) os) fun e w' => e = .returned (.bool pv) ∧ Below (grow (redrawn wr dq) os).heap.size (grow (redrawn wr dq) os) w' from by
                have h := HPA.out yi hyl _ (keepb HBW.out (below_regrown wr dq os))
                rw [hpv] at h
                exact h)
              clear hy hec2 heb hpv hyr
              go_wp2_with fail
              refine wp_region_quiet_below (by kernel_rfl) (by kernel_rfl) ?_
              repeat (go_big_quiet_step (first
                | (go_at_call 26; with_reducible exact Calls.regrown_of (CPS.out _ _))))
              refine wpQuiet_nil ?_
              intro _ hw'
              obtain ⟨⟨dq, osq⟩, hw''⟩ := hw'
              subst hw''
              have hbr := below_regrown wr dq osq
              clear e0' x0' x1' x2' x3' x4' x5' CPS
              have HI2 := Lib.hid (HI.out.below hbr)
              have HO2 := Lib.hid (HO.out.under hbr HO.out.lt)
              have HBW2 := Lib.hid (keepb HBW.out hbr)
              have HB2 := Lib.hid (keepb HB.out hbr)
              have e1 := keepc e0 hbr
              have hebw2 := Nat.lt_of_lt_of_le hebw hbr.size
              clear e0 x0 x1 x2 x3 x4 x5 xg hbr HI HO HBW HB hebw
              generalize grow (redrawn wr dq) osq = wt at *
              obtain ⟨x0, x1, x2, x3, x4, x5, xg, -⟩ := HO2.out.six
              cases pv with
              | false =>
                have HE := Lib.hid (show ∀ j, j < l.n → (M2 j || refN (fB l s x) x.nth (near.drop (q + 1)) c j) = T1 j from fun j hj => by
                  rw [← HT2.out j hj, refN_drop HY.out, if_neg (by rw [HPV.out]; decide)])
                go_wp2
                go_roundw
                case rel => exact ⟨q + 1, c, M2, rfl, by go_num, by omega, by omega, by omega, HI2, HE, HO2, HB2⟩
                case measure => simp [intOf]; omega
              | true =>
                by_cases h3 : x.nth ≤ 0 ∨ c + 1 = x.nth
                · have HE := Lib.hid (show ∀ j, j < l.n → ((M2 j || j == yi) || refN (fB l s x) x.nth (near.drop (q + 1)) (c + 1) j) = T1 j from fun j hj => by
                    rw [← HT2.out j hj, refN_drop HY.out, if_pos HPV.out, if_pos h3, Bool.or_assoc, show (j == yi) = decide ((j : Int) = (yi : Int)) from by rw [Bool.eq_iff_iff]; simp; omega])
                  have HPT := Lib.hid (fun (W : World) (hI : IntsAt W w.heap.size out2 (sel M2 l.n)) (hW : w.heap.size ≤ W.heap.size) => rput_any M2 (fun t => M2 t || t == yi) l.n yi hyl (fun t ht => by simp [ht]) (by simp) (by omega) out2 w.heap.size W hI hW)
                  by_cases h4 : x.nth ≤ 0
                  · clear h3
                    go_wp2_with fail
                    refine (HPT.out _ HI2.out HBW2.out.size).mono ?_
                    rintro e w5 ⟨v5, rfl, hi5, hb5⟩
                    have HI5 := Lib.hid hi5
                    have HO5 := Lib.hid (HO2.out.under hb5 HO2.out.lt)
                    have HB5 := Lib.hid (keepb HB2.out hb5)
                    clear hi5 hb5
                    go_wp2
                    go_roundw
                    case rel => exact ⟨q + 1, c + 1, _, rfl, by go_num, by omega, by omega, by omega, HI5, HE, HO5, HB5⟩
                    case measure => simp [intOf]; omega
                  · have h4' : decide (x.nth ≤ 0) = false := decide_eq_false h4
                    have h5 : (c + 1 == x.nth) = true := by
                      rcases h3 with h3 | h3
                      · exact absurd h3 h4
                      · simp [h3]
                    clear h3 h4
                    go_wp2_with fail
                    refine (HPT.out _ HI2.out HBW2.out.size).mono ?_
                    rintro e w5 ⟨v5, rfl, hi5, hb5⟩
                    have HI5 := Lib.hid hi5
                    have HO5 := Lib.hid (HO2.out.under hb5 HO2.out.lt)
                    have HB5 := Lib.hid (keepb HB2.out hb5)
                    clear hi5 hb5
                    go_wp2
                    go_roundw
                    case rel => exact ⟨q + 1, c + 1, _, rfl, by go_num, by omega, by omega, by omega, HI5, HE, HO5, HB5⟩
                    case measure => simp [intOf]; omega
                · have HE := Lib.hid (show ∀ j, j < l.n → (M2 j || refN (fB l s x) x.nth (near.drop (q + 1)) (c + 1) j) = T1 j from fun j hj => by
                    rw [← HT2.out j hj, refN_drop HY.out, if_pos HPV.out, if_neg h3])
                  have h4' : decide (x.nth ≤ 0) = false := decide_eq_false (by omega)
                  have h5 : (c + 1 == x.nth) = false := beq_eq_false_iff_ne.2 (by omega)
                  clear h3
                  go_wp2
                  go_roundw
                  case rel => exact ⟨q + 1, c + 1, M2, rfl, by go_num, by omega, by omega, by omega, HI2, HE, HO2, HB2⟩
                  case measure => simp [intOf]; omega
            · have HE := Lib.hid (show ∀ j, j < l.n → (M2 j || refR l s x (L.drop (k + 1)) j) = (metF l s x L j && isB l s j x) from fun j hj => by
                have h9 := HT2.out j hj
                rw [List.drop_eq_nil_of_le (by have := HNL.out; omega)] at h9
                rw [← HTN.out j hj, ← h9]
                unfold refN
                simp)
              go_wp2
              exact ⟨⟨k + 1, M2, by go_num, by omega, HI, HE, HO, HBW⟩, by simp [intOf]; omega⟩
      · have HE := Lib.hid (show RES = sel M l.n from by
          rw [HST.out]
          refine sel_congr fun j hj => ?_
          rw [← HT.out j hj, List.drop_eq_nil_of_le (by have := HMM.out; omega)]
          simp [refR])
        go_wp2
        go_ret
        exact ⟨_, rfl, by rw [HE.out]; exact HI.out, HB.out⟩
end Go.Proofs.Ytnopnjleibbakab
