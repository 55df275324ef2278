/- What queries lead to: all paths: the walk of Find. -/
import Derived.Test.YtnopnjleibbakabFndD
namespace Go.Proofs.Ytnopnjleibbakab
set_option linter.unusedVariables false
open Go.RowKit Go.Sort

def pathL (l : Nodes) (s : ByteArray) (p : List Hp) : List Int := p.foldl (fun L x => stepL l s L x) [-1]
def metP (l : Nodes) (s : ByteArray) (P : List (List Hp)) (j : Nat) : Bool := P.any fun p => !p.isEmpty && inL (pathL l s p) j
def findL (l : Nodes) (s : ByteArray) (P : List (List Hp)) : List Int := sel (metP l s P) l.n
theorem metP_snoc {l : Nodes} {s : ByteArray} {P : List (List Hp)} {k : Nat} {p : List Hp} (h : P[k]? = some p) (j : Nat) : metP l s (P.take (k + 1)) j = (metP l s (P.take k) j || (!p.isEmpty && inL (pathL l s p) j)) := by
  unfold metP
  rw [List.take_add_one, h, List.any_append]
  simp
theorem step_in {l : Nodes} {s : ByteArray} {L : List Int} {x : Hp} {y : Int} (h : y ∈ stepL l s L x) : 0 ≤ y ∧ y < l.n := by
  unfold stepL at h
  split at h
  · obtain ⟨k, h1, _, h3⟩ := mem_sel.1 h; omega
  · cases h
theorem step_len (l : Nodes) (s : ByteArray) (L : List Int) (x : Hp) : (stepL l s L x).length ≤ l.n := by
  unfold stepL; split
  · exact sel_len _ _
  · simp
theorem fold_at {l : Nodes} {s : ByteArray} {p : List Hp} {k : Nat} {x : Hp} (h : p[k]? = some x) : (p.take (k + 1)).foldl (fun L x => stepL l s L x) [-1] = stepL l s ((p.take k).foldl (fun L x => stepL l s L x) [-1]) x := by
  rw [List.take_add_one, h, List.foldl_append]; rfl
theorem fold_len (l : Nodes) (s : ByteArray) (p : List Hp) (k : Nat) : ((p.take k).foldl (fun L x => stepL l s L x) [-1]).length ≤ l.n + 1 := by
  cases k with
  | zero => simp
  | succ k =>
    by_cases h : k < p.length
    · rw [fold_at (List.getElem?_eq_getElem h)]
      have := step_len l s ((p.take k).foldl (fun L x => stepL l s L x) [-1]) p[k]; omega
    · rw [List.take_of_length_le (by omega)]
      cases hp : p.reverse with
      | nil => simp at hp; subst hp; simp
      | cons y r =>
        have e : p = r.reverse ++ [y] := by have := congrArg List.reverse hp; simpa using this
        rw [e, List.foldl_append]
        have := step_len l s (r.reverse.foldl (fun L x => stepL l s L x) [-1]) y
        show (stepL l s _ y).length ≤ _; omega
theorem path_in {l : Nodes} {s : ByteArray} {p : List Hp} (hp : p ≠ []) {y : Int} (h : y ∈ pathL l s p) : 0 ≤ y ∧ y < l.n := by
  unfold pathL at h
  cases hr : p.reverse with
  | nil => simp at hr; exact absurd hr hp
  | cons z r =>
    have e : p = r.reverse ++ [z] := by have := congrArg List.reverse hr; simpa using this
    rw [e, List.foldl_append] at h
    exact step_in h

set_option maxRecDepth 1000000 in
set_option maxHeartbeats 3200000 in
theorem find_any (l : Nodes) (ao : Option Addr) (cap : Nat) (s : ByteArray) (hs : (s.size : Int) ≤ 1000) (P : List (List Hp)) (qo : Option Addr) (qc : Nat) (B : Nat) (hn : (l.n : Int) ≤ 900) (hP : (P.length : Int) ≤ 1000) (hPL : ∀ p ∈ P, (p.length : Int) ≤ 1000)
    (w : World) (hB : B ≤ w.heap.size) (hl : Has w ao B l) (hm : Mx w) (hq : HasQ w qo P) :
    Calls Try.prog 11 #[.slice ao l.n cap, .string s, .agg #[.slice qo P.length qc]] w fun e w' => ∃ v', e = .returned v' ∧ Owns w' w.heap.size v' (findL l s P) ∧ Below w.heap.size w w' := by
  have HF := Lib.hid (show findL l s P = sel (metP l s P) l.n from rfl)
  generalize findL l s P = RES at *
  have HST := Lib.hid (fun (x : Hp) (v : Value) (L : List Int) (hL : (L.length : Int) ≤ 1000) (D : Nat) (W : World) (hb : Below w.heap.size w W) (hv : IntsAt W D v L) => step_any l ao cap s hs x B hn v L D hL W (Nat.le_trans hB hb.size) (hl.keep hb hB) (hm.below hb) hv)
  have HQ := Lib.hid hq
  have HPL := Lib.hid hPL
  obtain ⟨N, hN⟩ : ∃ N, l.n = N := ⟨_, rfl⟩
  have HN := Lib.hid hN
  simp only [hN] at HST
  obtain ⟨m, hm2⟩ : ∃ m, P.length = m := ⟨_, rfl⟩
  have HMM := Lib.hid hm2
  rw [hN] at hn HF ⊢
  rw [hm2] at hP ⊢
  have HB0 := Lib.hid ((Below.refl w.heap.size w).alloc (Nat.le_refl _) (.cells #[.slice qo m qc] 25))
  have HO0 := Lib.hid (Own.fresh w 25 [.slice qo m qc])
  have hmk : ∀ W : World, (Instr.makeSlice 52 (.int .i64 (N : Int)) (.int .i64 (N : Int))).run Try.prog W = .ok (.slice (some ⟨W.heap.size, 0, none⟩) N N) (W.alloc (.cells (Array.replicate N (Value.bool false)) 4)) := fun W => run_bools N (by omega) W
  clear hB hl hm hq hPL hN hm2
  go_enter Try.func11, Try.ntmps11
  go_wp2_with fail
  have HR1 := Lib.hid (show Own ((w.alloc (.cells #[.slice qo m qc] 25)).alloc (.cells (Array.replicate N (Value.bool false)) 4)) (w.heap.size + 1) 4 (rowM (metP l s (P.take 0)) N) by
    have e : rowM (metP l s (P.take 0)) N = rowM (fun _ => false) N := rowM_congr (fun j _ => rfl)
    rw [e, rowM_zero, ← List.toArray_replicate]; exact Own.fresh' (by simp) 4 _)
  have HB1 := Lib.hid (HB0.out.alloc HB0.out.size (.cells (Array.replicate N (Value.bool false)) 4))
  generalize World.alloc (w.alloc _) _ = w1 at *
  clear HB0 HO0 hmk
  go_loopw [19] (fun b19 wr => ∃ k : Nat, b19 = .int .i64 (k : Int) ∧ (k : Int) ≤ m ∧ Hid (Own wr (w.heap.size + 1) 4 (rowM (metP l s (P.take k)) N)) ∧ Hid (Below w.heap.size w wr)) (fun b19 _ => m - (intOf b19).toNat)
  case atStart => exact ⟨0, rfl, by omega, HR1, HB1⟩
  case round =>
    obtain ⟨k, rfl, hk, HR, HB⟩ := hrel
    clear HR1 HB1
    by_cases h1 : (k : Int) < m
    · obtain ⟨p, hp⟩ : ∃ p, P[k]? = some p := ⟨_, List.getElem?_eq_getElem (by have := HMM.out; omega)⟩
      obtain ⟨g, off, po, pc, rfl, hg, hc, hh⟩ := HQ.out k p hp
      have HH := Lib.hid hh
      have hpl := HPL.out p (List.mem_of_getElem? hp)
      have HSN := Lib.hid (fun j => metP_snoc (l := l) (s := s) hp j)
      have hcw := keepc hc HB.out
      have hgw := Nat.lt_of_lt_of_le hg HB.out.size
      have hw1 : IntKind.i64.wrap ((k : Int) + 1) = (k : Int) + 1 := by rw [IntKind.wrap_i64]; omega
      obtain ⟨n2, hn2⟩ : ∃ n, p.length = n := ⟨_, rfl⟩
      have HN2 := Lib.hid hn2
      rw [hn2] at hcw hpl
      clear hh hp hc hg hn2
      by_cases hz : n2 = 0
      · subst hz
        have HR3 := Lib.hid (show Own wr (w.heap.size + 1) 4 (rowM (metP l s (P.take (k + 1))) N) by
          rw [rowM_congr (fun j _ => HSN.out j)]
          rw [rowM_congr (N := metP l s (P.take k)) (fun j _ => by rw [List.length_eq_zero_iff.1 HN2.out]; simp)]
          exact HR.out)
        go_wp2
        go_roundw
        case rel => exact ⟨k + 1, by go_num, by omega, HR3, HB⟩
        case measure => simp [intOf]; omega
      · have ez : ((n2 : Int) == 0) = false := beq_eq_false_iff_ne.2 (by omega)
        have HPE := Lib.hid (show p ≠ [] from fun e => hz (by rw [← HN2.out, e]; rfl))
        have HGW := Lib.hid (show w.heap.size + 1 < wr.heap.size from HR.out.lt)
        have HO2 := Lib.hid (Owns.one wr (w.heap.size + 2) (-1) (by have := HGW.out; omega))
        have HB2 := Lib.hid (HB.out.alloc HB.out.size (.cells #[.int .i64 (-1)] 3))
        have HR2 := Lib.hid (HR.out.on_alloc (.cells #[.int .i64 (-1)] 3))
        go_upto_region 7 with fail
        generalize World.alloc wr _ = w2 at *
        clear HR HB hcw
        go_wp2_with fail
        go_loopw [10, 29] (fun v10 b29 wx => ∃ q : Nat, b29 = .int .i64 (q : Int) ∧ (q : Int) ≤ n2 ∧ Hid (Owns wx (w.heap.size + 2) v10 ((p.take q).foldl (fun L x => stepL l s L x) [-1])) ∧ Hid (Own wx (w.heap.size + 1) 4 (rowM (metP l s (P.take k)) N)) ∧ Hid (Below w.heap.size w wx)) (fun _ b29 _ => n2 - (intOf b29).toNat)
        case atStart => exact ⟨0, rfl, by omega, HO2, HR2, HB2⟩
        case round =>
          obtain ⟨q, rfl, hq, HO3, HR3, HB3⟩ := hrel
          clear HO2 HR2 HB2
          by_cases h3 : (q : Int) < n2
          · obtain ⟨x, hx⟩ : ∃ x, p[q]? = some x := ⟨_, List.getElem?_eq_getElem (by have := HN2.out; omega)⟩
            obtain ⟨g2, of2, rfl, hg2, c0, c1, c2, c3, c4, c5⟩ := HH.out q x hx
            have hfa := fold_at (l := l) (s := s) hx
            have HFA := Lib.hid hfa
            have HFL := Lib.hid (fold_len l s p q)
            have d0 := keepc c0 HB3.out
            have d1 := keepc c1 HB3.out
            have d2 := keepc c2 HB3.out
            have d3 := keepc c3 HB3.out
            have d4 := keepc c4 HB3.out
            have d5 := keepc c5 HB3.out
            have hg2w := Nat.lt_of_lt_of_le hg2 HB3.out.size
            have hw2 : IntKind.i64.wrap ((q : Int) + 1) = (q : Int) + 1 := by rw [IntKind.wrap_i64]; omega
            clear hfa hx c0 c1 c2 c3 c4 c5 hg2
            generalize (p.take q).foldl (fun L x => stepL l s L x) [-1] = LQ at *
            have HX4 := Lib.hid (Own.fresh wr 33 [.int .i64 x.ax, .int .i64 x.kd, .string x.nm, .string x.is, .string x.has, .int .i64 x.nth])
            have HO4 := Lib.hid (HO3.out.keep ((Below.refl _ _).alloc (Nat.le_refl _) (.cells #[.int .i64 x.ax, .int .i64 x.kd, .string x.nm, .string x.is, .string x.has, .int .i64 x.nth] 33)))
            have HR4 := Lib.hid (HR3.out.on_alloc (.cells #[.int .i64 x.ax, .int .i64 x.kd, .string x.nm, .string x.is, .string x.has, .int .i64 x.nth] 33))
            have HB4 := Lib.hid (HB3.out.alloc HB3.out.size (.cells #[.int .i64 x.ax, .int .i64 x.kd, .string x.nm, .string x.is, .string x.has, .int .i64 x.nth] 33))
            go_upto_region 10 with fail
            generalize World.alloc wr _ = w4 at *
            obtain ⟨y0, y1, y2, y3, y4, y5, yg, -⟩ := HX4.out.six
            clear HO3 HR3 HB3 d0 d1 d2 d3 d4 d5 hg2w
            go_wp2_with fail
            refine (HST.out x _ LQ (by have := HFL.out; rw [HN.out] at this; omega) _ _ HB4.out HO4.out.ints).mono ?_
            rintro e w5 ⟨u, rfl, hu, hb5⟩
            have HO5 := Lib.hid (show Owns w5 (w.heap.size + 2) u ((p.take (q + 1)).foldl (fun L x => stepL l s L x) [-1]) by rw [HFA.out]; exact Owns.low hu (by have := HR4.out.lt; omega))
            have HR5 := Lib.hid (HR4.out.under hb5 HR4.out.lt)
            have HB5 := Lib.hid (keepb HB4.out hb5)
            clear hu hb5 HO4 HR4 HB4 HX4 y0 y1 y2 y3 y4 y5 yg
            go_wp2
            go_roundw
            case rel => exact ⟨q + 1, by go_num, by omega, HO5, HR5, HB5⟩
            case measure => simp [intOf]; omega
          · obtain rfl : q = n2 := by omega
            have hPQ : p.take q = p := List.take_of_length_le (by rw [HN2.out]; omega)
            rw [hPQ] at HO3
            have HPI := Lib.hid (show ∀ y ∈ pathL l s p, 0 ≤ y ∧ y < N from fun y hy => by have := path_in HPE.out hy; rw [HN.out] at this; exact this)
            have HPN := Lib.hid (show (pathL l s p).length ≤ N + 1 by have := fold_len l s p q; rw [hPQ, HN.out] at this; exact this)
            clear hPQ
            have HOP := Lib.hid (show IntsAt wr (w.heap.size + 2) _ (pathL l s p) from HO3.out.ints)
            go_wp2_with fail
            refine (mark_any (w.heap.size + 1) N (metP l s (P.take k)) _ (pathL l s p) (w.heap.size + 2) (by omega) HPI.out (by have := HPN.out; omega) N (Nat.le_refl _) _ HR3.out HOP.out).mono ?_
            rintro e w6 ⟨rfl, hrm, hbm⟩
            have HR6 := Lib.hid (show Own w6 (w.heap.size + 1) 4 (rowM (metP l s (P.take (k + 1))) N) by
              rw [rowM_congr (fun j _ => HSN.out j)]
              rw [rowM_congr (N := fun j => metP l s (P.take k) j || inL (pathL l s p) j) (fun j _ => by
                cases hpp : p with
                | nil => exact absurd hpp HPE.out
                | cons z r => simp)]
              exact hrm)
            have HB6 := Lib.hid (HB3.out.trans (hbm.below (B := w.heap.size) HB3.out.size (fun g hg => by omega)))
            clear hrm hbm HO3 HR3 HB3 HOP
            go_wp2
            go_roundw
            case rel => exact ⟨k + 1, by go_num, by omega, HR6, HB6⟩
            case measure => simp [intOf]; omega
    · obtain rfl : k = m := by omega
      have hPT : P.take k = P := List.take_of_length_le (by rw [HMM.out]; omega)
      rw [hPT] at HR
      have HMK := Lib.hid (fun W h => marked_any (w.heap.size + 1) N (metP l s P) N (by omega) W h)
      rw [← HF.out] at HMK
      clear hPT
      go_wp2_with fail
      refine (HMK.out _ HR.out).mono ?_
      rintro e wy ⟨u, rfl, hu, hbw⟩
      have HU := Lib.hid (Owns.low hu HB.out.size)
      have HBY := Lib.hid (keepb HB.out hbw)
      clear hu hbw
      go_wp2
      go_ret
      exact ⟨_, rfl, HU.out, HBY.out⟩
end Go.Proofs.Ytnopnjleibbakab
