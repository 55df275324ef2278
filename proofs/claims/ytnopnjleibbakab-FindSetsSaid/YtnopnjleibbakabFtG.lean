/- What queries lead to, by definition: all paths, walked. -/
import Derived.Test.YtnopnjleibbakabFtF
import Derived.Test.YtnopnjleibbakabFndE
namespace Go.Proofs.Ytnopnjleibbakab
set_option linter.unusedVariables false
open Go.RowKit Go.Sort

theorem inL_drop {L : List Int} {k : Nat} {z : Int} (h : L[k]? = some z) (j : Nat) : inL (L.drop k) j = (decide ((j : Int) = z) || inL (L.drop (k + 1)) j) := by
  have hk := (List.getElem?_eq_some_iff.1 h).1
  have e : L[k] = z := (List.getElem?_eq_some_iff.1 h).2
  rw [List.drop_eq_getElem_cons hk, e, inL_cons]
theorem metP_path {l : Nodes} {s : ByteArray} {P : List (List Hp)} {k : Nat} {p : List Hp} (h : P[k]? = some p) (j : Nat) : metP l s (P.take (k + 1)) j = (metP l s (P.take k) j || inL (pathL l s p) j) := by
  rw [metP_snoc h]
  cases p with
  | nil => simp [pathL, inL]
  | cons x p => simp
theorem path_nat {l : Nodes} {s : ByteArray} {p : List Hp} {y : Int} (h : y ∈ pathL l s p) (hy : 0 ≤ y) : y < l.n := by
  cases p with
  | nil =>
    have : y = -1 := by simpa [pathL] using h
    omega
  | cons x p => exact (path_in (by simp) h).2

set_option maxRecDepth 1000000 in
set_option maxHeartbeats 3200000 in
theorem rfind_any (l : Nodes) (ao : Option Addr) (cap : Nat) (s : ByteArray) (hs : (s.size : Int) ≤ 1000) (P : List (List Hp)) (qo : Option Addr) (qc : Nat) (B : Nat) (hn : (l.n : Int) ≤ 900) (hP : (P.length : Int) ≤ 1000) (hPL : ∀ p ∈ P, (p.length : Int) ≤ 1000 ∧ ∀ x ∈ p, (x.has.size : Int) ≤ 1000000)
    (w : World) (hB : B ≤ w.heap.size) (hl : Has w ao B l) (hq : HasQ w qo P) :
    Calls Try.prog 12 #[.slice ao l.n cap, .string s, .agg #[.slice qo P.length qc]] w fun e w' => ∃ v', e = .returned v' ∧ IntsAt w' w.heap.size v' (findL l s P) ∧ Below w.heap.size w w' := by
  have HF := Lib.hid (show findL l s P = sel (metP l s P) l.n from rfl)
  generalize findL l s P = RES at *
  have HST := Lib.hid (fun (x : Hp) (hx : (x.has.size : Int) ≤ 1000000) (v : Value) (L : List Int) (hL : (L.length : Int) ≤ 1000) (D : Nat) (W : World) (hb : Below w.heap.size w W) (hv : IntsAt W D v L) => rstep_any l ao cap s hs x hx B hn v L D hL W (Nat.le_trans hB hb.size) (hl.keep hb hB) hv)
  have HQ := Lib.hid hq
  have HPL := Lib.hid hPL
  obtain ⟨N, hN⟩ : ∃ N, l.n = N := ⟨_, rfl⟩
  have HN := Lib.hid hN
  simp only [hN] at HST
  obtain ⟨m, hm2⟩ : ∃ m, P.length = m := ⟨_, rfl⟩
  have HMM := Lib.hid hm2
  rw [hN] at hn HF ⊢
  rw [hm2] at hP ⊢
  have HB0 := Lib.hid ((Below.refl w.heap.size w).alloc (Nat.le_refl _) (.cells #[.slice qo m qc] 25))
  have HO0 := Lib.hid (Own.fresh w 25 [.slice qo m qc])
  clear hB hl hq hPL hN hm2
  go_enter Try.func12, Try.ntmps12
  go_upto_region 1 with fail
  generalize World.alloc w _ = w1 at *
  go_wp2_with fail
  go_loopw [7, 8] (fun b7 b8 wr => ∃ k : Nat, b8 = .int .i64 (k : Int) ∧ (k : Int) ≤ m ∧ Hid (IntsAt wr w.heap.size b7 (sel (metP l s (P.take k)) N)) ∧ Hid (Own wr w.heap.size 25 [.slice qo m qc]) ∧ Hid (Below w.heap.size w wr)) (fun _ b8 _ => m - (intOf b8).toNat)
  case atStart => exact ⟨0, rfl, by omega, Lib.hid (by rw [sel_none (P := metP l s (P.take 0)) (fun _ _ => rfl)]; exact IntsAt.nil _ _), HO0, HB0⟩
  case round =>
    obtain ⟨k, rfl, hk, HI, HO, HB⟩ := hrel
    clear HO0 HB0
    have b0 : wr.cell? ⟨w.heap.size, 0, none⟩ = some (.slice qo m qc) := HO.out.cell 0
    have bl := HO.out.lt
    by_cases h1 : (k : Int) < m
    · obtain ⟨p, hp⟩ : ∃ p, P[k]? = some p := ⟨_, List.getElem?_eq_getElem (by have := HMM.out; omega)⟩
      obtain ⟨g, off, po, pc, rfl, hg, hc, hh⟩ := HQ.out k p hp
      have HH := Lib.hid hh
      have hpl := (HPL.out p (List.mem_of_getElem? hp)).1
      have HXH := Lib.hid (HPL.out p (List.mem_of_getElem? hp)).2
      have HSN := Lib.hid (fun j => metP_path (l := l) (s := s) hp j)
      have hcw := keepc hc HB.out
      have hgw := Nat.lt_of_lt_of_le hg HB.out.size
      have hw1 : IntKind.i64.wrap ((k : Int) + 1) = (k : Int) + 1 := by rw [IntKind.wrap_i64]; omega
      obtain ⟨n2, hn2⟩ : ∃ n, p.length = n := ⟨_, rfl⟩
      have HN2 := Lib.hid hn2
      rw [hn2] at hcw hpl
      clear hh hp hc hg hn2
      obtain ⟨out, hout⟩ : ∃ z, z = u7 := ⟨_, rfl⟩
      subst hout
      have HA2 := Lib.hid ((Owns.one wr 0 (-1) (Nat.zero_le _)).ints)
      have HI2 := Lib.hid (HI.out.below ((Below.refl _ _).alloc (Nat.le_refl _) (.cells #[.int .i64 (-1)] 3)))
      have HB2 := Lib.hid (HB.out.alloc HB.out.size (.cells #[.int .i64 (-1)] 3))
      have HO2 := Lib.hid (HO.out.on_alloc (.cells #[.int .i64 (-1)] 3))
      have c2 := keepc hcw ((Below.refl _ _).alloc (Nat.le_refl _) (.cells #[.int .i64 (-1)] 3))
      go_upto_region 6 with fail
      generalize World.alloc wr _ = w2 at *
      have hgw2 := Nat.lt_of_lt_of_le hgw (Nat.le_refl _)
      have hg2 : g < w2.heap.size := World.block_lt_of_cell? _ _ c2
      clear HI HO HB b0 bl hcw hgw hgw2
      generalize wr.heap.size = G1 at *
      go_wp2_with fail
      go_loopw [9, 10] (fun b9 b10 wr => ∃ q : Nat, b10 = .int .i64 (q : Int) ∧ (q : Int) ≤ n2 ∧ Hid (IntsAt wr 0 b9 ((p.take q).foldl (fun L x => stepL l s L x) [-1])) ∧ Hid (IntsAt wr w.heap.size out (sel (metP l s (P.take k)) N)) ∧ Hid (Own wr w.heap.size 25 [.slice (some ⟨g, off, none⟩) m qc]) ∧ Hid (Below w.heap.size w wr) ∧ wr.cell? ⟨g, off + k, none⟩ = some (.slice po n2 pc)) (fun _ b10 _ => n2 - (intOf b10).toNat)
      case atStart => exact ⟨0, rfl, by omega, HA2, HI2, HO2, HB2, c2⟩
      case round =>
        obtain ⟨q, rfl, hq, HA, HI, HO, HB, c2⟩ := hrel
        clear HA2 HI2 HO2 HB2
        have b0 : wr.cell? ⟨w.heap.size, 0, none⟩ = some (.slice (some ⟨g, off, none⟩) m qc) := HO.out.cell 0
        have bl := HO.out.lt
        have hgw : g < wr.heap.size := World.block_lt_of_cell? _ _ c2
        have hw2 : IntKind.i64.wrap ((q : Int) + 1) = (q : Int) + 1 := by rw [IntKind.wrap_i64]; omega
        have hfl := fold_len l s p q
        obtain ⟨av, hav⟩ : ∃ z, z = u9 := ⟨_, rfl⟩
        subst hav
        rw [HN.out] at hfl
        by_cases h2 : (q : Int) < n2
        · obtain ⟨x, hx⟩ : ∃ x, p[q]? = some x := ⟨_, List.getElem?_eq_getElem (by have := HN2.out; omega)⟩
          obtain ⟨g2, of2, rfl, hg2, a0, a1, a2, a3, a4, a5⟩ := HH.out q x hx
          have a0 := keepc a0 HB.out
          have a1 := keepc a1 HB.out
          have a2 := keepc a2 HB.out
          have a3 := keepc a3 HB.out
          have a4 := keepc a4 HB.out
          have a5 := keepc a5 HB.out
          have hg2w := Nat.lt_of_lt_of_le hg2 HB.out.size
          have hxh := HXH.out x (List.mem_of_getElem? hx)
          have HFA := Lib.hid (fold_at (l := l) (s := s) hx)
          clear hx hg2
          go_wp2_with fail
          refine (HST.out x hxh av _ (by omega) 0 _ HB.out HA.out).mono ?_
          rintro e w5 ⟨v5, rfl, hi5, hb5⟩
          have HI5 := Lib.hid (show IntsAt w5 0 v5 ((p.take (q + 1)).foldl (fun L x => stepL l s L x) [-1]) from by rw [HFA.out]; exact hi5.mono (Nat.zero_le _))
          have HJ5 := Lib.hid (HI.out.below hb5)
          have HO5 := Lib.hid (HO.out.under hb5 HO.out.lt)
          have HB5 := Lib.hid (keepb HB.out hb5)
          have c5 := keepc c2 hb5
          clear hi5 hb5
          go_wp2
          go_roundw
          case rel => exact ⟨q + 1, by go_num, by omega, HI5, HJ5, HO5, HB5, c5⟩
          case measure => simp [intOf]; omega
        · have HA3 := Lib.hid (show IntsAt wr 0 av (pathL l s p) from by
            have h := HA.out
            rw [List.take_of_length_le (by have := HN2.out; omega)] at h
            exact h)
          have hpl2 : (pathL l s p).length ≤ N + 1 := by
            have h := fold_len l s p p.length
            rw [List.take_length, HN.out] at h
            exact h
          obtain ⟨T, hT⟩ : ∃ T : Nat → Bool, (fun j => metP l s (P.take k) j || inL (pathL l s p) j) = T := ⟨_, rfl⟩
          have HT := Lib.hid (fun j => congrFun hT j)
          have HPN := Lib.hid (fun y hy h0 => path_nat (l := l) (s := s) (p := p) (y := y) hy h0)
          have HSN2 := Lib.hid (fun j => (HSN.out j).trans (HT.out j))
          obtain ⟨A, hA⟩ : ∃ A, pathL l s p = A := ⟨_, rfl⟩
          rw [hA] at HA3 hpl2 HT HPN
          rw [HN.out] at HPN
          clear hT hA HA HSN
          obtain ⟨eo, ec, rfl, hec, hE⟩ := HA3.out
          have HEC := Lib.hid hE
          obtain ⟨nl, hnl2⟩ : ∃ z, A.length = z := ⟨_, rfl⟩
          have HNL := Lib.hid hnl2
          rw [hnl2] at hpl2 hec HEC ⊢
          clear hE hnl2 HA3
          obtain ⟨w3, hw3⟩ : ∃ z, z = wr := ⟨_, rfl⟩
          subst hw3
          go_wp2_with fail
          go_loopw [7, 11] (fun b7 b11 wr => ∃ (r : Nat) (M2 : Nat → Bool), b11 = .int .i64 (r : Int) ∧ (r : Int) ≤ nl ∧ Hid (IntsAt wr w.heap.size b7 (sel M2 N)) ∧ Hid (∀ j, j < N → (M2 j || inL (A.drop r) j) = T j) ∧ Hid (Own wr w.heap.size 25 [.slice (some ⟨g, off, none⟩) m qc]) ∧ Hid (Below w3.heap.size w3 wr)) (fun _ b11 _ => nl - (intOf b11).toNat)
          case atStart => exact ⟨0, _, rfl, by omega, HI, Lib.hid (fun j hj => by rw [List.drop_zero]; exact HT.out j), HO, Lib.hid (Below.refl _ _)⟩
          case round =>
            obtain ⟨r, M2, rfl, hr, HI, HT2, HO, HBr⟩ := hrel
            have HBW := Lib.hid (keepb HB.out HBr.out)
            obtain ⟨out2, hout2⟩ : ∃ z, z = u7 := ⟨_, rfl⟩
            subst hout2
            by_cases h3 : (r : Int) < nl
            · obtain ⟨eb, eoff, rfl, heb, -, hec2⟩ := HEC.out r (by omega)
              obtain ⟨y, hy⟩ : ∃ y, A[r]? = some y := ⟨_, List.getElem?_eq_getElem (by have := HNL.out; omega)⟩
              rw [getD_of hy] at hec2
              have hyr := HPN.out y (List.mem_of_getElem? hy)
              have e0 := keepc hec2 HBr.out
              have hebw : eb < wr.heap.size := Nat.lt_of_lt_of_le heb HBr.out.size
              have hwr : IntKind.i64.wrap ((r : Int) + 1) = (r : Int) + 1 := by rw [IntKind.wrap_i64]; omega
              have HID := Lib.hid (fun j => inL_drop hy j)
              clear hy hec2 heb
              by_cases h4 : 0 ≤ y
              · obtain ⟨yi, rfl⟩ : ∃ yi : Nat, y = (yi : Int) := ⟨y.toNat, by omega⟩
                have hyl : yi < N := by have := hyr h4; omega
                have HE := Lib.hid (show ∀ j, j < N → ((M2 j || j == yi) || inL (A.drop (r + 1)) j) = T j from fun j hj => by
                  rw [← HT2.out j hj, HID.out, Bool.or_assoc, show (j == yi) = decide ((j : Int) = (yi : Int)) from by rw [Bool.eq_iff_iff]; simp; omega])
                clear hyr h4
                go_wp2_with fail
                refine (rput_any M2 (fun t => M2 t || t == yi) N yi hyl (fun t ht => by simp [ht]) (by simp) (by omega) out2 w.heap.size wr HI.out HBW.out.size).mono ?_
                rintro e w5 ⟨v5, rfl, hi5, hb5⟩
                have HI5 := Lib.hid hi5
                have HO5 := Lib.hid (HO.out.under hb5 HO.out.lt)
                have HB5 := Lib.hid (keepb HBr.out hb5)
                clear hi5 hb5
                go_wp2
                go_roundw
                case rel => exact ⟨r + 1, _, by go_num, by omega, HI5, HE, HO5, HB5⟩
                case measure => simp [intOf]; omega
              · have h4' : decide (0 ≤ y) = false := decide_eq_false h4
                have HE := Lib.hid (show ∀ j, j < N → (M2 j || inL (A.drop (r + 1)) j) = T j from fun j hj => by
                  rw [← HT2.out j hj, HID.out, decide_eq_false (show ¬ (j : Int) = y by omega), Bool.false_or])
                clear hyr h4
                go_wp2
                go_roundw
                case rel => exact ⟨r + 1, M2, by go_num, by omega, HI, HE, HO, HBr⟩
                case measure => simp [intOf]; omega
            · have HE := Lib.hid (show IntsAt wr w.heap.size out2 (sel (metP l s (P.take (k + 1))) N) from by
                have h := HI.out
                rw [sel_congr (Q := metP l s (P.take (k + 1))) (fun j hj => by
                  have h9 := HT2.out j hj
                  rw [List.drop_eq_nil_of_le (by have := HNL.out; omega)] at h9
                  rw [HSN2.out j, ← h9]
                  simp [inL])] at h
                exact h)
              go_wp2
              exact ⟨⟨k + 1, by go_num, by omega, HE, HO, HBW⟩, by simp [intOf]; omega⟩
    · have HE := Lib.hid (show RES = sel (metP l s (P.take k)) N from by
        rw [HF.out, List.take_of_length_le (by have := HMM.out; omega)])
      go_wp2
      go_ret
      exact ⟨_, rfl, by rw [HE.out]; exact HI.out, HB.out⟩
end Go.Proofs.Ytnopnjleibbakab
