/- All paths lead where each does: the walk of the law FindSets. -/
import Derived.Test.YtnopnjleibbakabSetB
import Derived.Deep.RegionLaw
import Derived.Deep.CutBlock
namespace Go.Proofs.Ytnopnjleibbakab
set_option linter.unusedVariables false
open Go.RowKit Go.Sort

theorem free_off {k qc g off : Nat} (h : k < qc) : (if qc = k then (⟨g, off, none⟩ : Addr) else ⟨g, off + k, none⟩) = ⟨g, off + k, none⟩ := if_neg (by omega)

set_option maxRecDepth 1000000 in
set_option maxHeartbeats 4000000 in
theorem sets_walk (HAW : ∀ w, Mx w → Calls Try.prog 7 #[] w fun e w' => e = .returned (.bool true) ∧ Below w.heap.size w w') (l : Nodes) (ao : Option Addr) (cap : Nat) (s : ByteArray) (P : List (List Hp)) (qo : Option Addr) (qc : Nat)
    (hP : P.length ≤ maxLen) (hPL : ∀ p ∈ P, p.length ≤ maxLen) (hqc : P.length ≤ qc) (W : World) (hmx : Mx W) (hl : Has W ao W.heap.size l) (hq : HasQ W qo P) :
    Calls Try.prog 5 #[.slice ao l.n cap, .string s, .agg #[.slice qo P.length qc]] W fun e w' => e = .returned (.bool true) ∧ Below W.heap.size W w' := by
  have HQ := Lib.hid hq
  have HL := Lib.hid hl
  have HM := Lib.hid hmx
  have HA := Lib.hid (fun W' (hb : Below W.heap.size W W') => HAW W' (hmx.below hb))
  have HW := Lib.hid (fun W' (hb : Below W.heap.size W W') => wide_any P qo qc (by unfold maxLen at hP; omega) (fun p hp => by have := hPL p hp; unfold maxLen at this; omega) W' (hq.below hb))
  have HB0 := Lib.hid ((Below.refl W.heap.size W).alloc (Nat.le_refl _) (.cells #[.slice qo P.length qc] 25))
  have HO0 := Lib.hid (Own.fresh W 25 [.slice qo P.length qc])
  obtain ⟨m, hm⟩ : ∃ m, P.length = m := ⟨_, rfl⟩
  obtain ⟨n, hn⟩ : ∃ n, l.n = n := ⟨_, rfl⟩
  have HMM := Lib.hid hm
  have HNN := Lib.hid hn
  rw [hm] at HO0 HB0 HW hqc ⊢
  rw [hn]
  clear hq hl hmx HAW hP hPL hm hn
  go_enter Try.func5, Try.ntmps5
  go_upto_region 1 with fail
  generalize World.alloc W _ = w1 at *
  have o0 : w1.cell? ⟨W.heap.size, 0, none⟩ = some (.slice qo m qc) := HO0.out.cell 0
  have ol := HO0.out.lt
  by_cases h1 : (30 : Int) < n
  · clear o0 ol
    go_wp2_with fail
    refine (HA.out _ HB0.out).mono ?_
    rintro e w9 ⟨rfl, hb9⟩
    go_wp2
    go_ret
    exact ⟨rfl, keepb HB0.out hb9⟩
  have h1' : decide ((30 : Int) < n) = false := decide_eq_false h1
  by_cases h2 : (100 : Int) < s.size
  · clear o0 ol
    go_wp2_with fail
    refine (HA.out _ HB0.out).mono ?_
    rintro e w9 ⟨rfl, hb9⟩
    go_wp2
    go_ret
    exact ⟨rfl, keepb HB0.out hb9⟩
  have h2' : decide ((100 : Int) < s.size) = false := decide_eq_false h2
  have HRI := Lib.hid (fun (W' : World) (hb : Below W.heap.size W W') => rtree_any l ao cap W.heap.size (by have := HNN.out; omega) W' hb.size (HL.out.keep hb (Nat.le_refl _)))
  rw [HNN.out] at HRI
  go_wp2_with fail
  refine (HW.out _ HB0.out).mono ?_
  rintro e w2 ⟨rfl, hb2⟩
  have HB2 := Lib.hid (keepb HB0.out hb2)
  have HO2 := Lib.hid (HO0.out.under hb2 ol)
  clear hb2 o0 ol HB0 HO0 h1' h2'
  cases hwd : wideQ P with
  | true =>
    go_wp2_with fail
    refine (HA.out _ HB2.out).mono ?_
    rintro e w9 ⟨rfl, hb9⟩
    go_wp2
    go_ret
    exact ⟨rfl, keepb HB2.out hb9⟩
  | false =>
    have HWN := Lib.hid (wide_no hwd)
    have HWH := Lib.hid (wide_no2 hwd)
    have hm20 : m ≤ 20 := by have := HWN.out.1; have := HMM.out; omega
    clear hwd HW
    go_wp2_with fail
    refine (HRI.out _ HB2.out).mono ?_
    rintro e w3 ⟨rfl, hb3⟩
    have HB3 := Lib.hid (keepb HB2.out hb3)
    have HO3 := Lib.hid (HO2.out.under hb3 HO2.out.lt)
    clear hb3 HB2 HO2 HRI
    cases htr : treeB l n with
    | false =>
      go_wp2_with fail
      refine (HA.out _ HB3.out).mono ?_
      rintro e w9 ⟨rfl, hb9⟩
      go_wp2
      go_ret
      exact ⟨rfl, keepb HB3.out hb9⟩
    | true =>
      have HTR := Lib.hid htr
      clear htr
      have HFD := Lib.hid (fun (P' : List (List Hp)) (qo' : Option Addr) (qc' : Nat) (hP' : (P'.length : Int) ≤ 1000) (hPL' : ∀ p ∈ P', (p.length : Int) ≤ 1000) (W' : World) (hb : Below W.heap.size W W') (hq' : HasQ W' qo' P') => find_any l ao cap s (by omega) P' qo' qc' W.heap.size (by have := HNN.out; omega) hP' hPL' W' hb.size (HL.out.keep hb (Nat.le_refl _)) (HM.out.below hb) hq')
      simp only [HNN.out] at HFD
      have o0 : w3.cell? ⟨W.heap.size, 0, none⟩ = some (.slice qo m qc) := HO3.out.cell 0
      have ol := HO3.out.lt
      have HF0 := Lib.hid (HFD.out P qo qc (by have := HWN.out.1; omega) (fun p hp => by have := (HWN.out.2 p hp).1; omega))
      rw [HMM.out] at HF0
      go_wp2_with fail
      refine (HF0.out _ HB3.out (HQ.out.below HB3.out)).mono ?_
      rintro e w4 ⟨va, rfl, ho4, hb4⟩
      have HAL := Lib.hid ho4.ints
      have HB4 := Lib.hid (keepb HB3.out hb4)
      have HO4 := Lib.hid (HO3.out.under hb4 HO3.out.lt)
      have hmk : ∀ W : World, (Instr.makeSlice 52 (.int .i64 (n : Int)) (.int .i64 (n : Int))).run Try.prog W = .ok (.slice (some ⟨W.heap.size, 0, none⟩) n n) (W.alloc (.cells (Array.replicate n (Value.bool false)) 4)) := fun W => run_bools n (by omega) W
      obtain ⟨G, hG⟩ : ∃ G, w4.heap.size = G := ⟨_, rfl⟩
      have HR5 := Lib.hid (show Own (w4.alloc (.cells (Array.replicate n (Value.bool false)) 4)) G 4 (rowM (metP l s (P.take 0)) n) by
        have e : rowM (metP l s (P.take 0)) n = rowM (fun _ => false) n := rowM_congr (fun j _ => rfl)
        rw [e, rowM_zero, ← List.toArray_replicate, ← hG]; exact Own.fresh w4 4 _)
      have HK5 := Lib.hid (show Below G w4 (w4.alloc (.cells (Array.replicate n (Value.bool false)) 4)) from hG ▸ (Below.refl _ _).alloc (Nat.le_refl _) _)
      have HWG := Lib.hid (show W.heap.size < G by rw [← hG]; exact HO4.out.lt)
      clear ho4 hb4 HB3 HO3 o0 ol HF0
      go_upto_region 5 with fail
      generalize World.alloc w4 _ = w5 at *
      have HG := Lib.hid hG
      clear hmk hG
      go_wp2_with fail
      go_loopw [9, 10] (fun b9 b10 wr => ∃ k : Nat, b9 = .int .i64 ((sel (metP l s (P.take k)) n).length : Int) ∧ b10 = .int .i64 (k : Int) ∧ (k : Int) ≤ m ∧ Hid (Own wr G 4 (rowM (metP l s (P.take k)) n)) ∧ Hid (Below G w4 wr)) (fun _ b10 _ => m - (intOf b10).toNat)
      case atStart => exact ⟨0, by rw [sel_none (P := metP l s (P.take 0)) (fun _ _ => rfl)]; rfl, rfl, by omega, HR5, HK5⟩
      case round =>
        obtain ⟨k, rfl, rfl, hk, HR, HK⟩ := hrel
        clear HR5 HK5
        have HBW := Lib.hid (show Below W.heap.size W wr from HB4.out.trans (HK.out.mono (Nat.le_of_lt HWG.out)))
        have HOW := Lib.hid (show Own wr W.heap.size 25 [.slice qo m qc] from HO4.out.under HK.out HWG.out)
        have o0 : wr.cell? ⟨W.heap.size, 0, none⟩ = some (.slice qo m qc) := HOW.out.cell 0
        have ol := HOW.out.lt
        obtain ⟨cn, hcn⟩ : ∃ c, (sel (metP l s (P.take k)) n).length = c := ⟨_, rfl⟩
        have HCN := Lib.hid hcn
        have hcl : cn ≤ n := by rw [← hcn]; exact sel_len _ _
        rw [hcn]
        clear hcn
        by_cases h3 : (k : Int) < m
        · obtain ⟨p, hp⟩ : ∃ p, P[k]? = some p := ⟨_, List.getElem?_eq_getElem (by have := HMM.out; omega)⟩
          obtain ⟨g, off, po, pc, rfl, hg, hc, hh⟩ := HQ.out k p hp
          have HH := Lib.hid hh
          have HP1 := Lib.hid hp
          have HMP := Lib.hid (fun j hj => metP_one l s P k p hp HNN.out.symm j hj)
          have hpl := (HWN.out.2 p (List.mem_of_getElem? hp)).1
          have HQ1 := Lib.hid (HQ.out.one hp)
          have hkq : k < qc := by omega
          have hqk : ¬ qc = k := by omega
          have hk1q : (k : Int) + 1 ≤ qc := by omega
          have hcw := keepc hc HBW.out
          have hgw := Nat.lt_of_lt_of_le hg HBW.out.size
          have hw1 : IntKind.i64.wrap ((k : Int) + 1) = (k : Int) + 1 := by rw [IntKind.wrap_i64]; omega
          have h9 : ((k : Int) + 1).toNat = k + 1 := by omega
          have h8 : k + 1 - k = 1 := by omega
          clear hh hp hc hg
          go_wp2_with fail
          refine (HFD.out [p] (some ⟨g, off + k, none⟩) (qc - k) (by simp) (fun q hq => by rw [List.mem_singleton] at hq; rw [hq]; omega) _ HBW.out (HQ1.out.below HBW.out)).mono ?_
          rintro e w6 ⟨v1, rfl, ho6, hb6⟩
          have HB6 := Lib.hid (keepb HBW.out hb6)
          have HK6 := Lib.hid (HK.out.trans (hb6.mono (by have := HR.out.lt; omega)))
          have HR6 := Lib.hid (HR.out.under hb6 HR.out.lt)
          have HV1 := Lib.hid ho6.ints
          have HGW := Lib.hid HR.out.lt
          have HBG := Lib.hid (show G < w6.heap.size from Nat.lt_of_lt_of_le HR.out.lt hb6.size)
          clear ho6 hb6 HR HK HBW HOW o0 ol hcw hgw
          obtain ⟨L1, hL1⟩ : ∃ L, findL l s [p] = L := ⟨_, rfl⟩
          have HL1 := Lib.hid hL1
          have HRG := Lib.hid (fun y hy => find_range (l := l) (s := s) (P := [p]) (y := y) hy)
          have hll : L1.length ≤ n := by rw [← hL1]; unfold findL; have := sel_len (metP l s [p]) l.n; have := HNN.out; omega
          rw [HNN.out] at HRG
          rw [hL1] at HV1 HRG HMP
          clear hL1
          obtain ⟨vo, vc, rfl, hvc, hA1⟩ := HV1.out
          have HA1 := Lib.hid hA1
          obtain ⟨n1, hn1⟩ : ∃ z, L1.length = z := ⟨_, rfl⟩
          have HN1 := Lib.hid hn1
          rw [hn1] at hll hvc HA1 ⊢
          clear hA1 hn1
          go_wp2_with fail
          go_loopw [9, 12] (fun b9 b12 wr => ∃ (r : Nat) (M2 : Nat → Bool), b9 = .int .i64 ((sel M2 n).length : Int) ∧ b12 = .int .i64 (r : Int) ∧ (r : Int) ≤ n1 ∧ Hid (Own wr G 4 (rowM M2 n)) ∧ Hid (∀ j, j < n → M2 j = (metP l s (P.take k) j || inL (L1.take r) j)) ∧ Hid (But (fun j => j = G) w6 wr)) (fun _ b12 _ => n1 - (intOf b12).toNat)
          case atStart => exact ⟨0, _, by rw [HCN.out], rfl, by omega, HR6, Lib.hid (fun j hj => by simp [inL]), Lib.hid (But.refl _ _)⟩
          case round =>
            obtain ⟨r, M2, rfl, rfl, hr, HR, HM2, HU⟩ := hrel
            clear HR6
            obtain ⟨c2, hc2⟩ : ∃ c, (sel M2 n).length = c := ⟨_, rfl⟩
            have HC2 := Lib.hid hc2
            have hcl2 : c2 ≤ n := by rw [← hc2]; exact sel_len _ _
            rw [hc2]
            clear hc2
            by_cases h4 : (r : Int) < n1
            · obtain ⟨eb, eoff, rfl, heb, heC, hec2⟩ := HA1.out r (by omega)
              obtain ⟨y, hy⟩ : ∃ y, L1[r]? = some y := ⟨_, List.getElem?_eq_getElem (by have := HN1.out; omega)⟩
              rw [getD_of hy] at hec2
              have hyr := HRG.out y (List.mem_of_getElem? hy)
              obtain ⟨q, rfl⟩ : ∃ q : Nat, y = (q : Int) := ⟨y.toNat, by omega⟩
              have hqn : (q : Int) < n := hyr.2
              have HTK := Lib.hid (fun j => show inL (L1.take (r + 1)) j = (inL (L1.take r) j || decide (j = q)) from by
                unfold inL
                rw [List.take_add_one, hy, ← Bool.decide_or]
                apply decide_eq_decide.2
                simp only [Option.toList_some, List.mem_append, List.mem_singleton]
                constructor <;> (rintro (h | h); exact .inl h; exact .inr (by omega)))
              have hne : eb ≠ G := by have := HGW.out; omega
              have e0 := HU.out.cell (p := ⟨eb, eoff + r, none⟩) (by simpa using hne) hec2
              have hebw : eb < wr.heap.size := Nat.lt_of_lt_of_le heb HU.out.size
              have hcg : wr.cell? ⟨G, q, none⟩ = some (.bool (M2 q)) := by rw [HR.out.cell, rowM_get (by omega)]
              have hfz : wr.frozen? ⟨G, q, none⟩ = false := HR.out.thaw q
              have hgl := HR.out.lt
              have hwr : IntKind.i64.wrap ((r : Int) + 1) = (r : Int) + 1 := by rw [IntKind.wrap_i64]; omega
              have hwc : IntKind.i64.wrap ((c2 : Int) + 1) = (c2 : Int) + 1 := by rw [IntKind.wrap_i64]; omega
              have k1 : decide ((q : Int) < 0) = false := decide_eq_false (by omega)
              have k2 : decide ((n : Int) ≤ q) = false := decide_eq_false (by omega)
              have HR2 := Lib.hid (show Own (wr.setCell ⟨G, q, none⟩ (.bool true)) G 4 (rowM (fun j => M2 j || decide (j = q)) n) from by
                have h := HR.out.put q (.bool true)
                rw [rowM_set (by omega)] at h
                exact h)
              have HU2 := Lib.hid (HU.out.setCell (p := ⟨G, q, none⟩) (fun _ => rfl) (.bool true))
              have HM3 := Lib.hid (show ∀ j, j < n → (M2 j || decide (j = q)) = (metP l s (P.take k) j || inL (L1.take (r + 1)) j) from fun j hj => by
                rw [HM2.out j hj, HTK.out, Bool.or_assoc])
              have HCC := Lib.hid (sel_count1 (M := M2) (n := n) (j := q) (by omega))
              rw [HC2.out] at HCC
              clear hy hec2 heb hyr HR HU
              obtain ⟨mq, hmq⟩ : ∃ z, M2 q = z := ⟨_, rfl⟩
              rw [hmq] at hcg HCC
              clear hmq
              cases mq with
              | true =>
                have HC3 := Lib.hid (show ((sel (fun j => M2 j || decide (j = q)) n).length : Int) = c2 from by rw [HCC.out]; simp)
                go_wp2
                go_roundw
                case rel => exact ⟨r + 1, _, by rw [HC3.out], by go_num, by omega, HR2, HM3, HU2⟩
                case measure => simp [intOf]; omega
              | false =>
                have HC3 := Lib.hid (show ((sel (fun j => M2 j || decide (j = q)) n).length : Int) = (c2 : Int) + 1 from by rw [HCC.out]; simp)
                go_wp2
                go_roundw
                case rel => exact ⟨r + 1, _, by rw [HC3.out], by go_num, by omega, HR2, HM3, HU2⟩
                case measure => simp [intOf]; omega
            · have HE := Lib.hid (show ∀ j, j < n → M2 j = metP l s (P.take (k + 1)) j from fun j hj => by
                rw [HM2.out j hj, HMP.out j (by have := HNN.out; omega), show L1.take r = L1 from List.take_of_length_le (by have := HN1.out; omega)])
              have HR7 := Lib.hid (show Own wr G 4 (rowM (metP l s (P.take (k + 1))) n) from by rw [← rowM_congr HE.out]; exact HR.out)
              have HC7 := Lib.hid (show ((sel (metP l s (P.take (k + 1))) n).length : Int) = c2 from by rw [← sel_congr HE.out, HC2.out])
              have HK7 := Lib.hid (show Below G w4 wr from HK6.out.trans (HU.out.below (by have := HBG.out; omega) (fun g hg => by omega)))
              have HV7 := Lib.hid (HV1.out.but HU.out (fun g hg => by have := HGW.out; omega))
              clear HR HC2 HM2 HE
              have HBW := Lib.hid (show Below W.heap.size W wr from HB4.out.trans (HK7.out.mono (Nat.le_of_lt HWG.out)))
              have HOW := Lib.hid (show Own wr W.heap.size 25 [.slice (some ⟨g, off, none⟩) m qc] from HO4.out.under HK7.out HWG.out)
              have o0 : wr.cell? ⟨W.heap.size, 0, none⟩ = some (.slice (some ⟨g, off, none⟩) m qc) := HOW.out.cell 0
              have ol := HOW.out.lt
              obtain ⟨g', off', po', pc', e', hg, hc, hh⟩ := HQ.out k p HP1.out
              simp only [Option.some.injEq, Addr.mk.injEq, and_true] at e'
              obtain ⟨rfl, rfl⟩ := e'
              have HH := Lib.hid hh
              have hcw := keepc hc HBW.out
              have hgw := Nat.lt_of_lt_of_le hg HBW.out.size
              obtain ⟨pl, hpl2⟩ : ∃ z, p.length = z := ⟨_, rfl⟩
              have HPLN := Lib.hid hpl2
              rw [hpl2] at hcw hpl
              clear hh hc hg hpl2
              by_cases h5 : (pl : Int) = 0
              · have e5 : ((pl : Int) == 0) = true := by simp [h5]
                clear h5
                go_wp2
                exact ⟨⟨k + 1, by rw [HC7.out], by go_num, by omega, HR7, HK7⟩, by simp [intOf]; omega⟩
              · have e5 : ((pl : Int) == 0) = false := beq_eq_false_iff_ne.2 h5
                have hpl0 : 0 < pl := by omega
                clear h5
                have HPX := Lib.hid (List.getElem?_eq_getElem (l := p) (i := p.length - 1) (by have := HPLN.out; omega))
                obtain ⟨x, hx⟩ : ∃ x, p[p.length - 1]? = some x := ⟨_, HPX.out⟩
                have HX := Lib.hid hx
                clear hx HPX
                have HE0 := Lib.hid (show (wr.alloc (.cells #[] 33)).heap[wr.heap.size]? = some (.cells #[] 33 (0, 0)) from heap_alloc_new wr _)
                have HSR := Lib.hid (show Src Try.prog 6 28 (.slice po' pl pc') pl (p.flatMap hprow) (wr.alloc (.cells #[] 33)) from by
                  have h := Src.ofHops (pc := pc') ((HH.out.below HBW.out).below ((Below.refl _ _).alloc (Nat.le_refl _) (.cells #[] 33)))
                  rw [HPLN.out] at h
                  exact h)
                obtain ⟨i0, hi0, hz0, hz1, hz2⟩ := info_parts9 info_hop
                have IP := Lib.hid (And.intro hi0 (And.intro hz0 (And.intro hz1 hz2)))
                clear hi0 hz0 hz1 hz2
                have hb1 : pl ≤ maxLen := by unfold maxLen; omega
                have hb2 : pl * 72 ≤ 140737488355328 := Nat.le_trans (Nat.mul_le_mul_right 72 hpl) (by decide)
                obtain ⟨q, hq⟩ : ∃ q, pl = q + 1 := ⟨pl - 1, by omega⟩
                have HQP := Lib.hid hq
                have hwp : IntKind.i64.wrap ((pl : Int) - 1) = (q : Int) := by rw [IntKind.wrap_i64]; omega
                have hqp : (q : Int) < pl := by omega
                clear hq
                go_upto_region 20 with fail
                go_wp2_with (first
                  | (at_builtin; refine wpList_append_none _ rfl _ _ 28 28 rfl wr.heap.size (by simp) 33 i0 _ 6 72 Try.underlying28 IP.out.1 IP.out.2.1 IP.out.2.2.1 IP.out.2.2.2 rfl (by decide) wr.heap.size (Nat.le_refl _) HE0.out rfl _ pl _ rfl HSR.out hb1 hb2 ?_))
                intro v7 w7 hw7 hb7
                obtain ⟨gf, of, cf, rfl, hgf, hcf, hgl⟩ := hw7.has hpl0
                have HB7 := Lib.hid (show Below wr.heap.size wr w7 from ((Below.refl _ _).alloc (Nat.le_refl _) _).trans (hb7.mono (by simp)))
                have HW7 := Lib.hid hw7
                have HFZ := Lib.hid (fun j => hw7.thawAt hpl0 j)
                have hh7 : HasH w7 (some ⟨gf, of, none⟩) p := hasH_of (pc := cf) (by rw [HPLN.out]; exact hw7)
                obtain ⟨g9, of9, e9, -, a0, a1, a2, a3, a4, a5⟩ := hh7 (p.length - 1) x HX.out
                simp only [Option.some.injEq, Addr.mk.injEq, and_true] at e9
                obtain ⟨rfl, rfl⟩ := e9
                have eq9 : p.length - 1 = q := by have := HPLN.out; have := HQP.out; omega
                rw [eq9] at a0 a1 a2 a3 a4 a5
                have f0 : w7.frozen? ⟨gf, of + q * 6, none⟩ = false := HFZ.out _
                have f1 : w7.frozen? ⟨gf, of + q * 6 + 1, none⟩ = false := HFZ.out _
                have f2 : w7.frozen? ⟨gf, of + q * 6 + 2, none⟩ = false := HFZ.out _
                have f3 : w7.frozen? ⟨gf, of + q * 6 + 3, none⟩ = false := HFZ.out _
                have f4 : w7.frozen? ⟨gf, of + q * 6 + 4, none⟩ = false := HFZ.out _
                have f5 : w7.frozen? ⟨gf, of + q * 6 + 5, none⟩ = false := HFZ.out _
                have HFR := Lib.hid (Win.free (S := fun g => wr.heap.size ≤ g) (pc := cf) (by rw [HPLN.out]; exact hw7) (by have := HPLN.out; omega) HX.out)
                rw [eq9] at HFR
                clear hw7 hb7 hh7 eq9
                go_upto_region 22 with fail
                change Code.wp _ _ _ _ (World.setCells w7 gf (of + q * 6) (hprow (bareX x)))
                clear a0 a1 a2 a3 a4 a5 f0 f1 f2 f3 f4 f5
                generalize World.setCells w7 gf (of + q * 6) (hprow (bareX x)) = w8 at *
                have HB8 := Lib.hid (show Below wr.heap.size wr w8 from HB7.out.trans (HFR.out.2.below HB7.out.size (fun g hg => by omega)))
                have HH8 := Lib.hid HFR.out.1
                clear HFR HB7 HW7 HFZ HSR HE0
                have HB9 := Lib.hid (HB8.out.alloc HB8.out.size (.cells #[.slice (some ⟨gf, of, none⟩) pl cf] 28))
                have HQ9 := Lib.hid (show HasQ (w8.alloc (.cells #[.slice (some ⟨gf, of, none⟩) pl cf] 28)) (some ⟨w8.heap.size, 0, none⟩) [freeP p] from fun i z hz => by
                  cases i with
                  | zero =>
                    simp only [List.getElem?_cons_zero, Option.some.injEq] at hz
                    subst hz
                    have F := Own.fresh w8 28 [.slice (some ⟨gf, of, none⟩) pl cf]
                    exact ⟨_, 0, some ⟨gf, of, none⟩, cf, rfl, F.lt, by rw [freeP_len, HPLN.out]; exact F.cell 0, HH8.out.below ((Below.refl _ _).alloc (Nat.le_refl _) _)⟩
                  | succ i => simp at hz)
                have HF9 := Lib.hid (HFD.out [freeP p] (some ⟨w8.heap.size, 0, none⟩) 1 (by simp) (fun z hz => by rw [List.mem_singleton] at hz; rw [hz, freeP_len]; have := HPLN.out; omega) (w8.alloc (.cells #[.slice (some ⟨gf, of, none⟩) pl cf] 28)) (keepb HBW.out HB9.out) HQ9.out)
                go_wp2_with fail
                refine HF9.out.mono ?_
                rintro e w10 ⟨v2, rfl, ho10, hb10⟩
                have HB10 := Lib.hid (keepb HB9.out hb10)
                have HV2 := Lib.hid ho10.ints
                have HV3 := Lib.hid (HV7.out.below HB10.out)
                clear ho10 hb10 HF9 HQ9 HB9 HH8 HB8 o0 ol hcw hgw
                have HSUB := Lib.hid (fun y hy => free_find (l := l) (s := s) (p := p) (y := y) hy)
                rw [HL1.out] at HSUB
                obtain ⟨L2, hL2⟩ : ∃ L, findL l s [freeP p] = L := ⟨_, rfl⟩
                rw [hL2] at HV2 HSUB
                have hll2 : L2.length ≤ n := by rw [← hL2]; unfold findL; have := sel_len (metP l s [freeP p]) l.n; have := HNN.out; omega
                clear hL2
                obtain ⟨xo, xc, rfl, hxc, hA2⟩ := HV2.out
                have HA2 := Lib.hid hA2
                obtain ⟨n2, hn2⟩ : ∃ z, L2.length = z := ⟨_, rfl⟩
                have HN2 := Lib.hid hn2
                rw [hn2] at hll2 hxc HA2 ⊢
                obtain ⟨vo3, vc3, ev3, -, hA3⟩ := HV3.out
                rw [HN1.out] at ev3 hA3
                simp only [Value.slice.injEq] at ev3
                obtain ⟨rfl, -, rfl⟩ := ev3
                have HA3 := Lib.hid hA3
                clear hA2 hn2 hA3 HV2 HV3
                go_wp2_with fail
                go_loopw [16] (fun b16 ws => ∃ r3 : Nat, b16 = .int .i64 (r3 : Int) ∧ (r3 : Int) ≤ n1 ∧ Hid (Below w10.heap.size w10 ws)) (fun b16 _ => n1 - (intOf b16).toNat)
                case atStart => exact ⟨0, rfl, by omega, Lib.hid (Below.refl _ _)⟩
                case round =>
                  obtain ⟨r3, rfl, hr3, HS3⟩ := hrel
                  have hw3' : IntKind.i64.wrap ((r3 : Int) + 1) = (r3 : Int) + 1 := by rw [IntKind.wrap_i64]; omega
                  by_cases h6 : (r3 : Int) < n1
                  · obtain ⟨ea, eaf, rfl, hea, -, hec⟩ := HA3.out r3 (by omega)
                    obtain ⟨y, hy⟩ : ∃ y, L1[r3]? = some y := ⟨_, List.getElem?_eq_getElem (by have := HN1.out; omega)⟩
                    rw [getD_of hy] at hec
                    have HYM := Lib.hid (HSUB.out y (List.mem_of_getElem? hy))
                    clear hy
                    go_wp2_with fail
                    go_loopw [17, 18] (fun b17 b18 ws => ∃ r4 : Nat, b17 = .bool (decide (y ∈ L2.take r4)) ∧ b18 = .int .i64 (r4 : Int) ∧ (r4 : Int) ≤ n2 ∧ Hid (Below w10.heap.size w10 ws)) (fun _ b18 _ => n2 - (intOf b18).toNat)
                    case atStart => exact ⟨0, by simp, rfl, by omega, HS3⟩
                    case round =>
                      obtain ⟨r4, rfl, rfl, hr4, HS4⟩ := hrel
                      obtain ⟨zi, hzi⟩ : ∃ z, decide (y ∈ L2.take r4) = z := ⟨_, rfl⟩
                      have HZI := Lib.hid hzi
                      rw [hzi]
                      clear hzi
                      have hw4' : IntKind.i64.wrap ((r4 : Int) + 1) = (r4 : Int) + 1 := by rw [IntKind.wrap_i64]; omega
                      by_cases h7 : (r4 : Int) < n2
                      · obtain ⟨eb2, ebf, rfl, heb2, -, hed⟩ := HA2.out r4 (by omega)
                        obtain ⟨y2, hy2⟩ : ∃ y, L2[r4]? = some y := ⟨_, List.getElem?_eq_getElem (by have := HN2.out; omega)⟩
                        rw [getD_of hy2] at hed
                        have c1 := keepc hec HS4.out
                        have c2' := keepc hed HS4.out
                        have d1 := Nat.lt_of_lt_of_le hea HS4.out.size
                        have d2 := Nat.lt_of_lt_of_le heb2 HS4.out.size
                        obtain ⟨ze, hze⟩ : ∃ z, (y2 == y) = z := ⟨_, rfl⟩
                        have HNX := Lib.hid (show decide (y ∈ L2.take (r4 + 1)) = (zi || ze) from by
                          rw [← HZI.out, ← hze, List.take_add_one, hy2, Bool.eq_iff_iff]
                          simp only [Option.toList_some, List.mem_append, List.mem_singleton, decide_eq_true_eq, Bool.or_eq_true, beq_iff_eq]
                          constructor
                          · rintro (h | h)
                            · exact .inl h
                            · exact .inr h.symm
                          · rintro (h | h)
                            · exact .inl h
                            · exact .inr h.symm)
                        clear hy2 hed
                        cases zi with
                        | true =>
                          go_wp2_with fail
                          go_quiet (fail)
                          go_wp2
                          go_roundw
                          case rel => exact ⟨r4 + 1, by rw [HNX.out]; rfl, by go_num, by omega, Lib.hid (below_drewN HS4.out nq)⟩
                          case measure => simp [intOf]; omega
                        | false =>
                          go_wp2_with fail
                          go_quiet (fail)
                          go_wp2
                          go_roundw
                          case rel => exact ⟨r4 + 1, by rw [HNX.out]; rfl, by go_num, by omega, Lib.hid (below_drewN HS4.out nq)⟩
                          case measure => simp [intOf]; omega
                      · obtain rfl : zi = true := by
                          rw [← HZI.out, List.take_of_length_le (by have := HN2.out; omega)]
                          exact decide_eq_true HYM.out
                        go_wp2
                        exact ⟨⟨r3 + 1, by go_num, by omega, HS4⟩, by simp [intOf]; omega⟩
                  · have HB11 := Lib.hid (keepb HB10.out HS3.out)
                    have HR9 := Lib.hid (HR7.out.under HB11.out HR7.out.lt)
                    have HK9 := Lib.hid (HK7.out.trans (HB11.out.mono (by have := HR7.out.lt; omega)))
                    go_wp2
                    exact ⟨⟨k + 1, by rw [HC7.out], by go_num, by omega, HR9, HK9⟩, by simp [intOf]; omega⟩
        · have HT0 := Lib.hid (show P.take k = P from List.take_of_length_le (by have := HMM.out; omega))
          rw [HT0.out] at HR HCN
          have HK2 := Lib.hid (show Below w4.heap.size w4 wr from by rw [HG.out]; exact HK.out)
          obtain ⟨A, hA⟩ : ∃ A, findL l s P = A := ⟨_, rfl⟩
          have HAS := Lib.hid (show A = sel (metP l s P) n from by rw [← hA, ← HNN.out]; rfl)
          rw [hA] at HAL
          clear hA
          obtain ⟨ao2, ac2, rfl, -, hAA⟩ := HAL.out.below HK2.out
          have HAA := Lib.hid hAA
          have hAn : A.length = cn := by rw [HAS.out]; exact HCN.out
          have HAN := Lib.hid hAn
          rw [hAn] at HAA ⊢
          clear hAA hAn HAL HK2
          go_wp2_with fail
          go_loopw [19] (fun b19 ws => ∃ r d : Nat, b19 = .int .i64 (r : Int) ∧ (r : Int) ≤ cn ∧ ws = wr.drewN d) (fun b19 _ => cn - (intOf b19).toNat)
          case atStart => exact ⟨0, 0, rfl, by omega, rfl⟩
          case round =>
            obtain ⟨r, d, rfl, hr, rfl⟩ := hrel
            have hwr : IntKind.i64.wrap ((r : Int) + 1) = (r : Int) + 1 := by rw [IntKind.wrap_i64]; omega
            by_cases h4 : (r : Int) < cn
            · obtain ⟨eb, eoff, rfl, heb, -, hec⟩ := HAA.out r (by omega)
              obtain ⟨y, hy⟩ : ∃ y, A[r]? = some y := ⟨_, List.getElem?_eq_getElem (by have := HAN.out; omega)⟩
              have HY := Lib.hid (getD_of hy)
              rw [getD_of hy] at hec
              obtain ⟨q, hq1, hq2, rfl⟩ : ∃ q : Nat, q < n ∧ metP l s P q = true ∧ y = (q : Int) := by
                have h := List.mem_of_getElem? hy
                rw [HAS.out] at h
                obtain ⟨q, a, b, c⟩ := mem_sel.1 h
                exact ⟨q, a, b, c⟩
              have hcg : wr.cell? ⟨G, q, none⟩ = some (.bool true) := by rw [HR.out.cell, rowM_get (by omega), hq2]
              have hgl := HR.out.lt
              have hqn : (q : Int) < n := by omega
              have k1 : decide ((q : Int) < 0) = false := decide_eq_false (by omega)
              have k2 : decide ((n : Int) ≤ q) = false := decide_eq_false (by omega)
              have k2n : decide (n ≤ q) = false := decide_eq_false (by omega)
              clear hy hq2 hq1
              rcases Nat.eq_zero_or_pos r with hr0 | hr0
              · subst hr0
                simp only [Nat.add_zero] at hec
                go_wp2_with fail
                go_quiet (fail)
                go_wp2
                go_roundw
                case rel => exact ⟨1, d + nq, by go_num, by omega, rfl⟩
                case measure => simp [intOf]; omega
              · obtain ⟨r', rfl⟩ : ∃ r', r = r' + 1 := ⟨r - 1, by omega⟩
                obtain ⟨eb', eoff', e', heb', -, hec'⟩ := HAA.out r' (by omega)
                simp only [Option.some.injEq, Addr.mk.injEq, and_true] at e'
                obtain ⟨rfl, rfl⟩ := e'
                have hlt := sel_rise (M := metP l s P) (n := n) (k := r') (by rw [← HAS.out]; have := HAN.out; omega)
                rw [← HAS.out, HY.out] at hlt
                obtain ⟨y0, hy0⟩ : ∃ z, A.getD r' 0 = z := ⟨_, rfl⟩
                rw [hy0] at hec' hlt
                have k3 : decide ((q : Int) ≤ y0) = false := decide_eq_false (by omega)
                have hws : IntKind.i64.wrap ((((r' + 1 : Nat) : Int)) - 1) = (r' : Int) := by rw [IntKind.wrap_i64]; omega
                have hrc : (r' : Int) < cn := by omega
                have hrb : (r' : Int) + 1 < cn := by omega
                have hr9 : ((r' : Int) + 1).toNat = r' + 1 := by omega
                have hws2 : IntKind.i64.wrap (r' : Int) = (r' : Int) := by rw [IntKind.wrap_i64]; omega
                have hr1 : (0 : Int) < ((r' + 1 : Nat) : Int) := by omega
                clear hy0 hlt hr0
                go_wp2_with fail
                go_quiet (fail)
                go_wp2
                go_roundw
                case rel => exact ⟨r' + 1 + 1, d + nq, by go_num, by omega, rfl⟩
                case measure => simp [intOf]; omega
            · have HBd := Lib.hid (show Below W.heap.size W (wr.drewN d) from below_drewN HBW.out d)
              generalize wr.drewN d = wt at *
              go_wp2_with fail
              refine (HA.out _ HBd.out).mono ?_
              rintro e wz ⟨rfl, hbr⟩
              go_wp2
              go_ret
              exact ⟨rfl, keepb HBd.out hbr⟩
    end Go.Proofs.Ytnopnjleibbakab
