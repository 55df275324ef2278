/- The reference's Print. -/
import Derived.Test.YtialpofiagiclaaDoorQpK
namespace Go.Proofs.YtialpofiagiclaaDoor
set_option linter.unusedVariables false
set_option maxRecDepth 1000000
open Go.RowKit Go.Sort

theorem join_snoc (xs : List (List UInt8)) (y : List UInt8) : Lib.join (xs ++ [y]) [124] = (if xs.length = 0 then [] else Lib.join xs [124] ++ [124]) ++ y := by
  cases xs with
  | nil => simp [Lib.join_one]
  | cons x r =>
    rw [if_neg (by simp), List.cons_append, Lib.join_cons, Lib.join_cons]
    simp [Lib.joinTail]
/-- What is written of the first k paths; with the bar behind it. -/
def jnK (P : List (List Hp)) (k : Nat) : List UInt8 := Lib.join ((P.take k).map pthL) [124]
def jnB (P : List (List Hp)) (k : Nat) : List UInt8 := if k = 0 then [] else jnK P k ++ [124]
theorem jnK_succ {P : List (List Hp)} {k : Nat} {p : List Hp} (h : P[k]? = some p) : jnK P (k + 1) = jnB P k ++ pthL p := by
  have hk : k < P.length := (List.getElem?_eq_some_iff.1 h).1
  have e : (P.take (k + 1)).map pthL = (P.take k).map pthL ++ [pthL p] := by rw [List.take_add_one, h, List.map_append]; rfl
  unfold jnK jnB
  rw [e, join_snoc]
  have hl : ((P.take k).map pthL).length = k := by rw [List.length_map, List.length_take]; omega
  rw [hl]
  rfl
theorem jnK_len {P : List (List Hp)} (h : SmlQ P) (k : Nat) : (jnK P k).length ≤ 300000 := by
  have h1 := join_le (k := 11420) (xs := (P.take k).map pthL) fun y hy => by
    obtain ⟨p, hp, rfl⟩ := List.mem_map.1 hy
    have hp := List.mem_of_mem_take hp
    have h2 := pthL_len (h.x p hp)
    have h3 := h.p p hp
    omega
  have h2 := h.n
  rw [List.length_map, List.length_take] at h1
  show (Lib.join ((P.take k).map pthL) [124]).length ≤ _
  omega
theorem jnB_len {P : List (List Hp)} (h : SmlQ P) (k : Nat) : (jnB P k).length ≤ 300001 := by
  unfold jnB
  split
  · exact Nat.zero_le _
  · rw [List.length_append]; have := jnK_len h k; simp; omega

set_option maxRecDepth 1000000 in
set_option maxHeartbeats 6400000 in
theorem rprint_any (P : List (List Hp)) (qo : Option Addr) (qc : Nat) (hP : SmlQ P) (w : World) (hq : HasQ w qo P) :
    Calls Tryd.prog 12 #[.agg #[.slice qo P.length qc]] w fun e w' => e = .returned (.string (qpS P)) ∧ Below w.heap.size w w' := by
  have HQ := Lib.hid hq
  have HPS := Lib.hid hP
  obtain ⟨m, hm⟩ : ∃ m, P.length = m := ⟨_, rfl⟩
  have HM := Lib.hid hm
  have hm20 : m ≤ 20 := by rw [← hm]; exact hP.n
  obtain ⟨A, hA⟩ : ∃ A, w.heap.size = A := ⟨_, rfl⟩
  have HAW := Lib.hid hA
  rw [hm]
  have HB1 := Lib.hid (show Below A w (w.alloc (.cells #[.slice qo m qc] 24)) from (Below.refl A w).alloc (by omega) _)
  have HO1 := Lib.hid (show Own (w.alloc (.cells #[.slice qo m qc] 24)) A 24 [.slice qo m qc] from Own.fresh' hA.symm _ _)
  clear hq hP hm
  go_enter Tryd.func12, Tryd.ntmps12
  go_upto_region 1 with fail
  try rw [hA]
  generalize World.alloc w _ = w1 at *
  clear hA
  go_wp2_with fail
  go_loopw [3, 4] (fun b3 b4 wr => ∃ k : Nat, b4 = .int .i64 (k : Int) ∧ b3 = .string (ofL (jnK P k)) ∧ (k : Int) ≤ m ∧ Hid (Own wr A 24 [.slice qo m qc]) ∧ Hid (Below A w wr)) (fun _ b4 _ => m - (intOf b4).toNat)
  case atStart => exact ⟨0, rfl, rfl, by omega, HO1, HB1⟩
  case round =>
    obtain ⟨k, rfl, rfl, hk, HO, HB⟩ := hrel
    obtain ⟨wo, rfl⟩ : ∃ z, z = wr := ⟨_, rfl⟩
    clear HO1 HB1
    have q0 : wo.cell? ⟨A, 0, none⟩ = some (.slice qo m qc) := HO.out.cell 0
    have ql := HO.out.lt
    by_cases h1 : (k : Int) < m
    · obtain ⟨p, hp⟩ : ∃ p, P[k]? = some p := ⟨_, List.getElem?_eq_getElem (by have := HM.out; omega)⟩
      obtain ⟨g, off, po, pc, rfl, hg, hc, hh⟩ := HQ.out k p hp
      have HH := Lib.hid hh
      have hpm := List.mem_of_getElem? hp
      have HXX := Lib.hid (HPS.out.x p hpm)
      have hpl := HPS.out.p p hpm
      have HPK := Lib.hid hp
      have HSC := Lib.hid (jnK_succ hp)
      have hAw := HAW.out
      have HCW := Lib.hid hc
      have HGW := Lib.hid hg
      have hw1 : IntKind.i64.wrap ((k : Int) + 1) = (k : Int) + 1 := by rw [IntKind.wrap_i64]; omega
      have hk0 : 0 ≤ (k : Int) := by omega
      obtain ⟨n2, hn2⟩ : ∃ n, p.length = n := ⟨_, rfl⟩
      have HN2 := Lib.hid hn2
      rw [hn2] at hpl HCW
      clear hh hp hc hg hn2 hAw hpm
      go_upto_if 14 with fail
      clear q0 ql
      go_cut [3] (fun v3 wx => v3 = .string (ofL (jnB P k)) ∧ wo = wx)
      case first =>
        by_cases h0 : k = 0
        · subst h0
          have HE := Lib.hid (show ofL (jnK P 0) = ofL (jnB P 0) from rfl)
          go_wp2_with fail
          go_meet
          exact ⟨by rw [HE.out], rfl⟩
        · have HE := Lib.hid (show ofL (jnK P k) ++ ⟨#[124]⟩ = ofL (jnB P k) from by rw [ofL_app]; unfold jnB; rw [if_neg h0])
          have hz : (ofL (jnK P k)).size ≤ 300000 := by rw [ofL_size]; exact jnK_len HPS.out k
          have hkp : decide (0 < (k : Int)) = true := decide_eq_true (by omega)
          have hkp2 : decide (0 < k) = true := decide_eq_true (by omega)
          have hkp3 : 0 < (k : Int) := by omega
          have hkp4 : 0 < k := by omega
          generalize ofL (jnK P k) = u at *
          go_wp2_with fail
          go_meet
          exact ⟨by rw [HE.out], rfl⟩
      case rest =>
        obtain ⟨rfl, rfl⟩ := hcut
        have H0 := Lib.hid (show ofL (jnB P k) = ofL (jnB P k ++ pthL (p.take 0)) from by simp [pthL])
        rw [H0.out]
        clear H0
        go_wp2_with fail
        go_loopw [3, 5] (fun b3 b5 wr => ∃ q : Nat, b5 = .int .i64 (q : Int) ∧ b3 = .string (ofL (jnB P k ++ pthL (p.take q))) ∧ (q : Int) ≤ n2 ∧ Hid (Own wr A 24 [.slice (some ⟨g, off, none⟩) m qc]) ∧ Hid (Below A w wr)) (fun _ b5 _ => n2 - (intOf b5).toNat)
        case atStart => exact ⟨0, rfl, rfl, by omega, HO, HB⟩
        case round =>
          obtain ⟨q, rfl, rfl, hq, HO2, HB2⟩ := hrel
          clear HO HB
          have q0 : wr.cell? ⟨A, 0, none⟩ = some (.slice (some ⟨g, off, none⟩) m qc) := HO2.out.cell 0
          have ql := HO2.out.lt
          have HBS := Lib.hid (show Below w.heap.size w wr from by rw [HAW.out]; exact HB2.out)
          have hcw := keepc HCW.out HBS.out
          have hgw := Nat.lt_of_lt_of_le HGW.out HBS.out.size
          by_cases h2 : (q : Int) < n2
          · obtain ⟨x, hx⟩ : ∃ x, p[q]? = some x := ⟨_, List.getElem?_eq_getElem (by have := HN2.out; omega)⟩
            obtain ⟨g2, of2, rfl, hg2, c0, c1, c2, c3, c4, c5⟩ := HH.out q x hx
            have HSX := Lib.hid (HXX.out x (List.mem_of_getElem? hx))
            have HSN := Lib.hid (show ofL (jnB P k ++ pthL (p.take q)) ++ hpS x = ofL (jnB P k ++ pthL (p.take (q + 1))) from by rw [pthL_snoc hx, ofL_app, List.append_assoc])
            have d0 := keepc c0 HBS.out
            have d1 := keepc c1 HBS.out
            have d2 := keepc c2 HBS.out
            have d3 := keepc c3 HBS.out
            have d4 := keepc c4 HBS.out
            have d5 := keepc c5 HBS.out
            have hg2w := Nat.lt_of_lt_of_le hg2 HBS.out.size
            have hw2 : IntKind.i64.wrap ((q : Int) + 1) = (q : Int) + 1 := by rw [IntKind.wrap_i64]; omega
            have hz : (ofL (jnB P k ++ pthL (p.take q))).size ≤ 400000 := by
              rw [ofL_size, List.length_append]
              have a1 := jnB_len HPS.out k
              have a2 := pthL_len (p := p.take q) fun y hy => HXX.out y (List.mem_of_mem_take hy)
              have h3 := HN2.out
              rw [List.length_take] at a2
              omega
            have HRX := Lib.hid (fun W => rhop_any x HSX.out W)
            have hz2 := hpS_size HSX.out
            clear hx c0 c1 c2 c3 c4 c5 hg2
            go_wp2_with fail
            refine (HRX.out _).mono ?_
            rintro e w5 ⟨rfl, hb5⟩
            have HB5 := Lib.hid (HB2.out.trans (hb5.mono (by rw [← HAW.out]; exact HBS.out.size)))
            have HO5 := Lib.hid (HO2.out.under hb5 HO2.out.lt)
            clear hb5 d0 d1 d2 d3 d4 d5 hg2w HRX q0 ql hcw hgw
            generalize hpS x = hx at *
            generalize ofL (jnB P k ++ pthL (p.take q)) = u at *
            go_wp2
            go_roundw
            case rel => exact ⟨q + 1, by go_num, by rw [HSN.out], by omega, HO5, HB5⟩
            case measure => simp [intOf]; omega
          · obtain rfl : q = n2 := by omega
            have HE := Lib.hid (show ofL (jnB P k ++ pthL (p.take q)) = ofL (jnK P (k + 1)) from by rw [HSC.out, List.take_of_length_le (by rw [HN2.out]; omega)])
            go_wp2
            go_roundw
            case rel => exact ⟨k + 1, by go_num, by rw [HE.out], by omega, HO2, HB2⟩
            case measure => simp [intOf]; omega
    · obtain rfl : k = m := by omega
      have HE := Lib.hid (show ofL (jnK P k) = qpS P from by unfold jnK; rw [List.take_of_length_le (by rw [HM.out]; omega)]; rfl)
      go_wp2
      go_ret
      exact ⟨ret_str HE.out, by rw [HAW.out]; exact HB.out⟩
end Go.Proofs.YtialpofiagiclaaDoor
