/- The program's reader: a reference. The program's reader: what stands in parentheses; one. -/
import Derived.Test.YtonknapfndaalaaKra
namespace Go.Proofs.Ytonknapfndaalaa
set_option linter.unusedVariables false
set_option maxRecDepth 1000000
open Go.RowKit Go.Sort
theorem ex0_agg7 : exv ex0 none 0 = .agg #[.int .i64 0, .string ⟨#[]⟩, .int .u64 0, .int .u64 0, .int .u64 0, .int .u64 0, .slice none 0 0] := rfl
/-- What a reading ends in: the expression, and whether it is one. -/
def OutR (D : Nat) (g : Nat) (lo : Option Addr) (lc : Nat) (L : List Tok) (op : Int) (r : Rs) (X : Ex) (ko : Option Addr) (b : Bool) (w' : World) : Prop := match r with
 | .ok (x, m) => b = true ∧ Rq w' g lo lc L m op none ∧ x = X ∧ ∃ n, HasE w' D n ko X.kids
 | .error f => b = false ∧ f.1 ≠ 0 ∧ ∃ k q, Rq w' g lo lc L k q (some f)
def OutP (w : World) (g : Nat) (lo : Option Addr) (lc : Nat) (L : List Tok) (op : Int) (r : Rs) (e : Ending) (w' : World) : Prop :=
 But (fun j => j = g) w w' ∧ ∃ X ko kc b, e = .returned (.tuple #[exv X ko kc, .bool b]) ∧ OutR w.heap.size g lo lc L op r X ko b w'
def refP (L : List Tok) (k : Nat) : Rs := if (tkA L k).kd = 1 then refO L k else badF L 2 k
theorem refP_no {L : List Tok} {k : Nat} (h : nmeP L k = none) : refP L k = badF L 2 k := by
 unfold nmeP at h
 unfold refP refO
 split at h
 ·
  cases h
 ·
  rename_i g
  by_cases h1 : (tkA L k).kd = 1
  ·
   rw [if_pos h1]
   rw [if_neg (fun q => g (by rw [h1, q]; rfl))]
  ·
   rw [if_neg h1]
theorem nmeP_some {L : List Tok} {k : Nat} {v : ByteArray} (h : nmeP L k = some v) : (tkA L k).kd = 1 ∧ (tkA L k).tx = v ∧ wordB v = true := by
 unfold nmeP at h
 split at h
 ·
  rename_i g
  rw [Bool.and_eq_true, beq_iff_eq] at g
  injection h with h
  exact ⟨g.1, h, by rw [← h]; exact g.2⟩
 ·
  cases h
theorem refP_yes {L : List Tok} {k : Nat} {v : ByteArray} (h : nmeP L k = some v) : refP L k = if isS L (k + 1) (⟨#[58, 58]⟩ : ByteArray).data.toList = true then (match nmeP L (k + 2) with | some u => .ok (leafX 11 (v ++ (⟨#[58, 58]⟩ ++ u)), k + 3) | none => badF L 2 (k + 2)) else .ok (leafX 11 v, k + 1) := by
 obtain ⟨h1, h2, h3⟩ := nmeP_some h
 unfold refP refO
 rw [if_pos h1, h2, if_pos h3]
 show (if isS L (k + 1) [58, 58] = true then _ else _) = (if isS L (k + 1) [58, 58] = true then _ else _)
 split
 ·
  unfold nmeP
  split
  ·
   rw [ByteArray.append_assoc]
  ·
   rfl
 ·
  rfl
set_option maxRecDepth 1000000 in
set_option maxHeartbeats 1600000 in
theorem rq_ref (HW : WordOk) (g : Nat) (lo : Option Addr) (lc : Nat) (L : List Tok) (k : Nat) (op : Int) (hn : (L.length : Int) ≤ 90000) (hNB : ∀ j, (tkA L j).kd ≠ 0 → j + 1 < L.length) (hk : k < L.length) (htx : ∀ t ∈ L, t.tx.size ≤ 1000000) (w : World) (h : Rq w g lo lc L k op none) :
  Calls Try.prog 113 #[.pointer (some ⟨g, 0, none⟩)] w fun e w' => OutP w g lo lc L op (refP L k) e w' := by
 have HNM := Lib.hid (fun j (hj : j < L.length) W (hW : Rq W g lo lc L j op none) => rq_name HW g lo lc L j op none (by omega) hj htx W hW)
 have HST := Lib.hid (fun j (hj : j < L.length) W (hW : Rq W g lo lc L j op none) => rq_stop 2 g lo lc L j op none (by omega) hj W hW)
 have HTK := Lib.hid (fun j (hj : j < L.length) W (hW : Rq W g lo lc L j op none) => rq_take ⟨#[58, 58]⟩ g lo lc L j op none (by omega) hj W hW)
 have HNO := Lib.hid (fun (h : nmeP L k = none) => refP_no h)
 have HYE := Lib.hid (fun v (h : nmeP L k = some v) => refP_yes h)
 have HBN := Lib.hid hNB
 have HKK := Lib.hid hk
 clear hNB htx hk hn HW
 have HH := Lib.hid h
 have hbl : Below w.heap.size w (w.alloc (.cells #[.int .i64 0, .string ⟨#[]⟩, .int .u64 0, .int .u64 0, .int .u64 0, .int .u64 0, .slice none 0 0] 28)) := (Below.refl _ _).alloc (Nat.le_refl _) _
 have HQ := Lib.hid (h.below hbl)
 have HA := Lib.hid (Own.fresh w 28 [.int .i64 0, .string ⟨#[]⟩, .int .u64 0, .int .u64 0, .int .u64 0, .int .u64 0, .slice none 0 0])
 have HU := Lib.hid (But.of_below (S := fun j => j = g) hbl)
 have hlt := h.1.lt
 obtain ⟨N, hN⟩ : ∃ N, w.heap.size = N := ⟨_, rfl⟩
 have HNN := Lib.hid hN
 have HG := Lib.hid (show g < N by omega)
 rw [hN] at HA
 clear h hbl hlt
 go_enter Try.func113, Try.ntmps113
 go_upto_region 1 with fail
 generalize World.alloc w _ = w1 at *
 try rw [hN]
 clear hN
 go_wp2_with fail
 refine (HNM.out k HKK.out _ HQ.out).mono ?_
 rintro e w2 ⟨hb, he⟩
 have HA2 := Lib.hid (HA.out.but hb (by have := HG.out; omega))
 have HU2 := Lib.hid (HU.out.trans hb (fun _ _ h => h))
 clear hb HA HU HQ
 obtain ⟨r1, hr1⟩ : ∃ r, nmeP L k = r := ⟨_, rfl⟩
 rw [hr1] at he
 cases r1 with
 | none =>
  obtain ⟨rfl, hq⟩ := he
  have HQ2 := Lib.hid hq
  have HE := Lib.hid (HNO.out hr1)
  clear hq hr1
  go_wp2_with fail
  refine (HST.out k HKK.out _ HQ2.out).mono ?_
  rintro e w3 ⟨rfl, hb, hq⟩
  have HA3 := Lib.hid (HA2.out.but hb (by have := HG.out; omega))
  have HU3 := Lib.hid (HU2.out.trans hb (fun _ _ h => h))
  have HQ3 := Lib.hid hq
  clear hb hq HA2 HU2 HQ2
  rw [ex0_agg7]
  obtain ⟨z0, z1, z2, z3, z4, z5, z6, y0, y1, y2, y3, y4, y5, y6⟩ := HA3.out.seven2
  have zl := HA3.out.lt
  go_wp2
  clear z0 z1 z2 z3 z4 z5 z6 y0 y1 y2 y3 y4 y5 y6 zl
  rw [set7t_fold]
  have hf := fun k q F (hR : Rq w3 g lo lc L k q F) => Rq.fin (N := N) HH.out (Nat.le_of_eq HNN.out) HU3.out hR (.int .i64 0) (.string ⟨#[]⟩) (.int .u64 0) (.int .u64 0) (.int .u64 0) (.int .u64 0) (.slice none 0 0)
  have HF := HA3.out.put7 (u0 := .int .i64 0) (u1 := .string ⟨#[]⟩) (u2 := .int .u64 0) (u3 := .int .u64 0) (u4 := .int .u64 0) (u5 := .int .u64 0) (u6 := .slice none 0 0)
  skip
  obtain ⟨hU, hR⟩ := hf _ _ _ HQ3.out
  clear hf
  generalize set7t w3 N _ _ _ _ _ _ _ = w9 at *
  obtain ⟨z0, z1, z2, z3, z4, z5, z6⟩ := HF.seven
  refine bodyPost_ret (by simp [results, Try.results113, go_sem, z0, z1, z2, z3, z4, z5, z6]; rfl) rfl ?_
  rw [HE.out]
  exact ⟨hU, ex0, none, 0, false, rfl, rfl, (by show (2 : Int) ≠ 0; decide), _, _, hR⟩
 | some v =>
  obtain ⟨rfl, hq⟩ := he
  have HQ2 := Lib.hid hq
  have HE := Lib.hid (HYE.out v hr1)
  have hv := nmeP_some hr1
  have HK1 := Lib.hid (HBN.out k (by rw [hv.1]; decide))
  have HV := Lib.hid (wordB_size hv.2.2)
  have hv0 : (v.size : Int) ≤ 12 := by have := HV.out; omega
  clear hq hr1 hv
  go_wp2_with fail
  refine (HTK.out (k + 1) HK1.out _ HQ2.out).mono ?_
  rintro e w3 ⟨rfl, hb, hq⟩
  have HA3 := Lib.hid (HA2.out.but hb (by have := HG.out; omega))
  have HU3 := Lib.hid (HU2.out.trans hb (fun _ _ h => h))
  clear hb HA2 HU2 HQ2
  obtain ⟨z, hz⟩ : ∃ z, isS L (k + 1) (⟨#[58, 58]⟩ : ByteArray).data.toList = z := ⟨_, rfl⟩
  rw [hz] at hq HE ⊢
  have HQ3 := Lib.hid hq
  clear hq
  cases z with
  | false =>
   clear hz
   obtain ⟨z0, z1, z2, z3, z4, z5, z6, y0, y1, y2, y3, y4, y5, y6⟩ := HA3.out.seven2
   have zl := HA3.out.lt
   go_wp2
   clear z0 z1 z2 z3 z4 z5 z6 y0 y1 y2 y3 y4 y5 y6 zl
   rw [set7t_fold]
   have hf := fun k q F (hR : Rq w3 g lo lc L k q F) => Rq.fin (N := N) HH.out (Nat.le_of_eq HNN.out) HU3.out hR (.int .i64 11) (.string v) (.int .u64 0) (.int .u64 0) (.int .u64 0) (.int .u64 0) (.slice none 0 0)
   have HF := HA3.out.put7 (u0 := .int .i64 11) (u1 := .string v) (u2 := .int .u64 0) (u3 := .int .u64 0) (u4 := .int .u64 0) (u5 := .int .u64 0) (u6 := .slice none 0 0)
   skip
   obtain ⟨hU, hR⟩ := hf _ _ _ HQ3.out
   clear hf
   generalize set7t w3 N _ _ _ _ _ _ _ = w9 at *
   obtain ⟨z0, z1, z2, z3, z4, z5, z6⟩ := HF.seven
   refine bodyPost_ret (by simp [results, Try.results113, go_sem, z0, z1, z2, z3, z4, z5, z6]; rfl) rfl ?_
   rw [HE.out]
   exact ⟨hU, leafX 11 v, none, 0, true, rfl, rfl, hR, rfl, 0, HasE.nil _ _ _⟩
  | true =>
   have HK2 := Lib.hid (HBN.out (k + 1) (by unfold isS at hz; rw [Bool.and_eq_true, beq_iff_eq] at hz; rw [hz.1]; decide))
   clear hz
   go_wp2_with fail
   refine (HNM.out (k + 2) HK2.out _ HQ3.out).mono ?_
   rintro e w4 ⟨hb, he⟩
   have HA4 := Lib.hid (HA3.out.but hb (by have := HG.out; omega))
   have HU4 := Lib.hid (HU3.out.trans hb (fun _ _ h => h))
   clear hb HA3 HU3 HQ3
   obtain ⟨r2, hr2⟩ : ∃ r, nmeP L (k + 2) = r := ⟨_, rfl⟩
   rw [hr2] at he HE
   cases r2 with
   | none =>
    obtain ⟨rfl, hq⟩ := he
    have HQ4 := Lib.hid hq
    clear hq hr2
    go_wp2_with fail
    refine (HST.out (k + 2) HK2.out _ HQ4.out).mono ?_
    rintro e w5 ⟨rfl, hb, hq⟩
    have HA5 := Lib.hid (HA4.out.but hb (by have := HG.out; omega))
    have HU5 := Lib.hid (HU4.out.trans hb (fun _ _ h => h))
    have HQ5 := Lib.hid hq
    clear hb hq HA4 HU4 HQ4
    rw [ex0_agg7]
    obtain ⟨z0, z1, z2, z3, z4, z5, z6, y0, y1, y2, y3, y4, y5, y6⟩ := HA5.out.seven2
    have zl := HA5.out.lt
    go_wp2
    clear z0 z1 z2 z3 z4 z5 z6 y0 y1 y2 y3 y4 y5 y6 zl
    rw [set7t_fold]
    have hf := fun k q F (hR : Rq w5 g lo lc L k q F) => Rq.fin (N := N) HH.out (Nat.le_of_eq HNN.out) HU5.out hR (.int .i64 0) (.string ⟨#[]⟩) (.int .u64 0) (.int .u64 0) (.int .u64 0) (.int .u64 0) (.slice none 0 0)
    have HF := HA5.out.put7 (u0 := .int .i64 0) (u1 := .string ⟨#[]⟩) (u2 := .int .u64 0) (u3 := .int .u64 0) (u4 := .int .u64 0) (u5 := .int .u64 0) (u6 := .slice none 0 0)
    skip
    obtain ⟨hU, hR⟩ := hf _ _ _ HQ5.out
    clear hf
    generalize set7t w5 N _ _ _ _ _ _ _ = w9 at *
    obtain ⟨z0, z1, z2, z3, z4, z5, z6⟩ := HF.seven
    refine bodyPost_ret (by simp [results, Try.results113, go_sem, z0, z1, z2, z3, z4, z5, z6]; rfl) rfl ?_
    rw [HE.out]
    exact ⟨hU, ex0, none, 0, false, rfl, rfl, (by show (2 : Int) ≠ 0; decide), _, _, hR⟩
   | some u =>
    obtain ⟨rfl, hq⟩ := he
    have HQ4 := Lib.hid hq
    have hu0 : (u.size : Int) ≤ 12 := by have := wordB_size (nmeP_some hr2).2.2; omega
    clear hq hr2
    have hu1 : ((⟨#[58, 58]⟩ ++ u : ByteArray).size : Int) ≤ 14 := by rw [ByteArray.size_append]; have e : (⟨#[58, 58]⟩ : ByteArray).size = 2 := rfl; omega
    obtain ⟨z0, z1, z2, z3, z4, z5, z6, y0, y1, y2, y3, y4, y5, y6⟩ := HA4.out.seven2
    have zl := HA4.out.lt
    go_wp2
    clear z0 z1 z2 z3 z4 z5 z6 y0 y1 y2 y3 y4 y5 y6 zl
    rw [set7t_fold]
    have hf := fun k q F (hR : Rq w4 g lo lc L k q F) => Rq.fin (N := N) HH.out (Nat.le_of_eq HNN.out) HU4.out hR (.int .i64 11) (.string (v ++ (⟨#[58, 58]⟩ ++ u))) (.int .u64 0) (.int .u64 0) (.int .u64 0) (.int .u64 0) (.slice none 0 0)
    have HF := HA4.out.put7 (u0 := .int .i64 11) (u1 := .string (v ++ (⟨#[58, 58]⟩ ++ u))) (u2 := .int .u64 0) (u3 := .int .u64 0) (u4 := .int .u64 0) (u5 := .int .u64 0) (u6 := .slice none 0 0)
    skip
    obtain ⟨hU, hR⟩ := hf _ _ _ HQ4.out
    clear hf
    generalize set7t w4 N _ _ _ _ _ _ _ = w9 at *
    obtain ⟨z0, z1, z2, z3, z4, z5, z6⟩ := HF.seven
    refine bodyPost_ret (by simp [results, Try.results113, go_sem, z0, z1, z2, z3, z4, z5, z6]; rfl) rfl ?_
    rw [HE.out]
    exact ⟨hU, leafX 11 (v ++ (⟨#[58, 58]⟩ ++ u)), none, 0, true, rfl, rfl, hR, rfl, 0, HasE.nil _ _ _⟩
end Go.Proofs.Ytonknapfndaalaa

namespace Go.Proofs.Ytonknapfndaalaa
set_option linter.unusedVariables false
set_option maxRecDepth 1000000
open Go.RowKit Go.Sort
theorem OutR.fin {w w3 : World} {g N k0 : Nat} {lo : Option Addr} {lc : Nat} {L : List Tok} {p op : Int} {F0 : Option (Int × Int)} {r : Rs} {X : Ex} {ko : Option Addr} {b : Bool} (H0 : Rq w g lo lc L k0 p F0) (hN : w.heap.size ≤ N) (HU : But (fun j => j = g) w w3)
  (h : OutR (N + 1) g lo lc L op r X ko b w3) (u0 u1 u2 u3 u4 u5 u6 : Value) : But (fun j => j = g) w (set7t w3 N u0 u1 u2 u3 u4 u5 u6) ∧ OutR w.heap.size g lo lc L op r X ko b (set7t w3 N u0 u1 u2 u3 u4 u5 u6) := by
 cases r with
 | ok q =>
  obtain ⟨x, m⟩ := q
  obtain ⟨h0, h1, rfl, n, h2⟩ := h
  obtain ⟨a, b⟩ := Rq.fin (N := N) H0 hN HU h1 u0 u1 u2 u3 u4 u5 u6
  exact ⟨a, h0, b, rfl, n, HasE.low (by omega) (HasE.but (But.set7 w3 N u0 u1 u2 u3 u4 u5 u6) (fun j hj => by omega) h2)⟩
 | error f =>
  obtain ⟨h0, h1, k, q, h2⟩ := h
  obtain ⟨a, b⟩ := Rq.fin (N := N) H0 hN HU h2 u0 u1 u2 u3 u4 u5 u6
  exact ⟨a, h0, h1, k, q, b⟩
theorem OutR.below {w w' : World} {D g : Nat} {lo : Option Addr} {lc : Nat} {L : List Tok} {op : Int} {r : Rs} {X : Ex} {ko : Option Addr} {b : Bool} (h : OutR D g lo lc L op r X ko b w) (hb : Below w.heap.size w w') : OutR D g lo lc L op r X ko b w' := by
 cases r with
 | ok q =>
  obtain ⟨x, m⟩ := q
  obtain ⟨h0, h1, h2, n, h3⟩ := h
  exact ⟨h0, h1.below hb, h2, n, HasE.but (But.of_below (S := fun _ => False) hb) (fun _ h => h.elim) h3⟩
 | error f =>
  obtain ⟨h0, h1, k, q, h2⟩ := h
  exact ⟨h0, h1, k, q, h2.below hb⟩
def parQ (L : List Tok) : Rs → Rs
 | .ok (e, m) => if isS L m (⟨#[41]⟩ : ByteArray).data.toList = true then .ok (e, m + 1) else badF L 2 m
 | .error e => .error e
def parP (L : List Tok) (X : Nat → Rs) (op : Int) (k : Nat) : Rs := if op = 12 then badF L 3 k else parQ L (X (k + 1))
theorem parP_op {L : List Tok} {X : Nat → Rs} {op : Int} {k : Nat} (h : ¬ op = 12) : parP L X op k = parQ L (X (k + 1)) := if_neg h
set_option maxRecDepth 1000000 in
set_option maxHeartbeats 3200000 in
theorem rq_par (g : Nat) (lo : Option Addr) (lc : Nat) (L : List Tok) (k : Nat) (op : Int) (hop : 0 ≤ op ∧ op ≤ 12) (hn : (L.length : Int) ≤ 90000) (hNB : ∀ j, (tkA L j).kd ≠ 0 → j + 1 < L.length) (hk : k < L.length) (hk1 : k + 1 < L.length) (htx : ∀ t ∈ L, t.tx.size ≤ 1000000) (X : Nat → Rs) (HXB : ∀ j x m, X j = .ok (x, m) → m < L.length) (HX : op ≠ 12 → ∀ m, m < L.length → ∀ W, Rq W g lo lc L m (op + 1) none → Calls Try.prog 26 #[.pointer (some ⟨g, 0, none⟩)] W fun e w' => OutP W g lo lc L (op + 1) (X m) e w') (w : World) (h : Rq w g lo lc L k op none) :
  Calls Try.prog 112 #[.pointer (some ⟨g, 0, none⟩)] w fun e w' => OutP w g lo lc L op (parP L X op k) e w' := by
 obtain ⟨RES, hRES⟩ : ∃ r, parP L X op k = r := ⟨_, rfl⟩
 have HP := Lib.hid (fun (h : ¬ op = 12) => (show RES = parQ L (X (k + 1)) from hRES.symm.trans (parP_op h)))
 have HP12 := Lib.hid (fun (h : op = 12) => show RES = badF L 3 k from hRES.symm.trans (if_pos h))
 rw [hRES]
 clear hRES
 have HXX := Lib.hid HX
 have HXC := Lib.hid HXB
 have HK1 := Lib.hid hk1
 have HTT := Lib.hid htx
 have HH := Lib.hid h
 have hbl : Below w.heap.size w (w.alloc (.cells #[.int .i64 0, .string ⟨#[]⟩, .int .u64 0, .int .u64 0, .int .u64 0, .int .u64 0, .slice none 0 0] 28)) := (Below.refl _ _).alloc (Nat.le_refl _) _
 have HQ1 := Lib.hid (h.below hbl)
 have HA1 := Lib.hid (Own.fresh w 28 [.int .i64 0, .string ⟨#[]⟩, .int .u64 0, .int .u64 0, .int .u64 0, .int .u64 0, .slice none 0 0])
 have HU1 := Lib.hid (But.of_below (S := fun j => j = g) hbl)
 have hlt := h.1.lt
 obtain ⟨N, hN⟩ : ∃ N, w.heap.size = N := ⟨_, rfl⟩
 have HNN := Lib.hid hN
 have HG := Lib.hid (show g < N by omega)
 have HS1 := Lib.hid (show N + 1 ≤ (w.alloc (.cells #[.int .i64 0, .string ⟨#[]⟩, .int .u64 0, .int .u64 0, .int .u64 0, .int .u64 0, .slice none 0 0] 28)).heap.size by simp; omega)
 rw [hN] at HA1
 clear h hbl hlt HX HXB hk1 htx hNB
 go_enter Try.func112, Try.ntmps112
 go_upto_region 1 with fail
 generalize World.alloc w _ = w1 at *
 try rw [hN]
 clear hN
 obtain ⟨c0, c1, c2, c3, c4, c5, c6⟩ := HQ1.out.1.seven
 have cg := HQ1.out.1.lt
 by_cases h12 : op = 12
 ·
  have HE := Lib.hid (HP12.out h12)
  subst h12
  go_wp2_with fail
  refine (rq_stop 3 g lo lc L k 12 none (by omega) hk _ HQ1.out).mono ?_
  rintro e w2 ⟨rfl, hb, hq⟩
  have HA2 := Lib.hid (HA1.out.but hb (by have := HG.out; omega))
  have HU2 := Lib.hid (HU1.out.trans hb (fun _ _ h => h))
  have HS2 := Lib.hid (Nat.le_trans HS1.out hb.size)
  clear HA1 HU1 HS1
  have HQ2 := Lib.hid hq
  clear hb hq HQ1
  rw [ex0_agg7]
  obtain ⟨z0, z1, z2, z3, z4, z5, z6, y0, y1, y2, y3, y4, y5, y6⟩ := HA2.out.seven2
  have zl := HA2.out.lt
  have HRR := Lib.hid (show OutR (N + 1) g lo lc L 12 RES ex0 none false w2 from by rw [HE.out]; exact ⟨rfl, (by show (3 : Int) ≠ 0; decide), _, _, HQ2.out⟩)
  go_wp2
  clear z0 z1 z2 z3 z4 z5 z6 y0 y1 y2 y3 y4 y5 y6 zl
  rw [set7t_fold]
  obtain ⟨hU, hR⟩ := OutR.fin (N := N) HH.out (Nat.le_of_eq HNN.out) HU2.out HRR.out (.int .i64 0) (.string ⟨#[]⟩) (.int .u64 0) (.int .u64 0) (.int .u64 0) (.int .u64 0) (.slice none 0 0)
  have HF := HA2.out.put7 (u0 := .int .i64 0) (u1 := .string ⟨#[]⟩) (u2 := .int .u64 0) (u3 := .int .u64 0) (u4 := .int .u64 0) (u5 := .int .u64 0) (u6 := .slice none 0 0)
  generalize set7t w2 N _ _ _ _ _ _ _ = w99 at *
  obtain ⟨z0, z1, z2, z3, z4, z5, z6⟩ := HF.seven
  refine bodyPost_ret (by simp [results, Try.results112, go_sem, z0, z1, z2, z3, z4, z5, z6]; rfl) rfl ?_
  exact ⟨hU, ex0, none, 0, false, rfl, hR⟩
 ·
  have h12b : (op == 12) = false := beq_eq_false_iff_ne.2 h12
  have f1 : w1.frozen? ⟨g, 1, none⟩ = false := HQ1.out.1.thaw 1
  have f2 : w1.frozen? ⟨g, 2, none⟩ = false := HQ1.out.1.thaw 2
  have hw1 : IntKind.i64.wrap ((k : Int) + 1) = (k : Int) + 1 := by rw [IntKind.wrap_i64]; omega
  have hw2 : IntKind.i64.wrap (op + 1) = op + 1 := by rw [IntKind.wrap_i64]; omega
  have hw3 : IntKind.i64.wrap (op + 1 - 1) = op := by rw [IntKind.wrap_i64]; omega
  have hw4 : IntKind.i64.wrap op = op := by rw [IntKind.wrap_i64]; omega
  have HQ2 := Lib.hid ((HQ1.out.at (k + 1) (.int .i64 ((k : Int) + 1)) rfl).open (op + 1))
  have hb : But (fun j => j = g) w1 ((w1.setCell ⟨g, 1, none⟩ (.int .i64 ((k : Int) + 1))).setCell ⟨g, 2, none⟩ (.int .i64 (op + 1))) := (But.put _ _ _ _).setCell (p := ⟨g, 2, none⟩) (fun _ => rfl) _
  have HA2 := Lib.hid (HA1.out.but hb (by have := HG.out; omega))
  have HU2 := Lib.hid (HU1.out.trans hb (fun _ _ h => h))
  have HS2 := Lib.hid (Nat.le_trans HS1.out hb.size)
  clear hb HA1 HU1 HS1 HQ1 HP12
  go_wp2_with fail
  clear c0 c1 c2 c3 c4 c5 c6 cg f1 f2
  generalize (w1.setCell ⟨g, 1, none⟩ (.int .i64 ((k : Int) + 1))).setCell ⟨g, 2, none⟩ (.int .i64 (op + 1)) = w2 at *
  refine (HXX.out h12 (k + 1) HK1.out _ HQ2.out).mono ?_
  rintro e w3 ⟨hb, X2, ko, kc, b, rfl, hr⟩
  have HSD := HS2
  unfold exv
  have HA3 := Lib.hid (HA2.out.but hb (by have := HG.out; omega))
  have HU3 := Lib.hid (HU2.out.trans hb (fun _ _ h => h))
  have HS3 := Lib.hid (Nat.le_trans HS2.out hb.size)
  clear HA2 HU2 HS2
  obtain ⟨r, hrr⟩ : ∃ r, X (k + 1) = r := ⟨_, rfl⟩
  have HE := Lib.hid (HP.out h12)
  have HXm := Lib.hid (HXC.out (k + 1))
  rw [hrr] at hr HXm HE
  clear hb HQ2 hrr HXX HXC HP
  have hbl : Below w3.heap.size w3 (w3.alloc (.cells #[.int .i64 X2.op, .string X2.text, .int .u64 X2.s0, .int .u64 X2.s1, .int .u64 X2.s2, .int .u64 X2.s3, .slice ko X2.kids.length kc] 28)) := (Below.refl _ _).alloc (Nat.le_refl _) _
  have HM4 := Lib.hid (Own.fresh w3 28 [.int .i64 X2.op, .string X2.text, .int .u64 X2.s0, .int .u64 X2.s1, .int .u64 X2.s2, .int .u64 X2.s3, .slice ko X2.kids.length kc])
  have HA4 := Lib.hid (HA3.out.under hbl HA3.out.lt)
  have HU4 := Lib.hid (HU3.out.then_below hbl)
  have HS4 := Lib.hid (Nat.le_trans HS3.out hbl.size)
  have hr4 := OutR.below hr hbl
  obtain ⟨M, hM⟩ : ∃ q, w3.heap.size = q := ⟨_, rfl⟩
  have HGM := Lib.hid (show g < M ∧ N < M from ⟨by have := HS3.out; have := HG.out; omega, by have := HS3.out; omega⟩)
  rw [hM] at HM4
  clear hbl HA3 HU3 HS3 hr
  go_upto_region 6 with fail
  generalize w3.alloc _ = w4 at *
  try rw [hM]
  clear hM
  cases r with
  | error f =>
   obtain ⟨rfl, hf, k', q, hq⟩ := hr4
   have HQ4 := Lib.hid hq
   have HF0 := Lib.hid hf
   clear hq hf
   obtain ⟨d0, d1, d2, d3, d4, d5, d6⟩ := HQ4.out.1.seven
   have dg := HQ4.out.1.lt
   have df : w4.frozen? ⟨g, 2, none⟩ = false := HQ4.out.1.thaw 2
   have HQ5 := Lib.hid (HQ4.out.open (wrap64 (q - 1)))
   have hb : But (fun j => j = g) w4 (w4.setCell ⟨g, 2, none⟩ (.int .i64 (wrap64 (q - 1)))) := But.put _ _ _ _
   have HA5 := Lib.hid (HA4.out.but hb (by have := HG.out; omega))
   have HU5 := Lib.hid (HU4.out.trans hb (fun _ _ h => h))
   have HS5 := Lib.hid (Nat.le_trans HS4.out hb.size)
   have HM5 := Lib.hid (HM4.out.but hb (by have := HGM.out; omega))
   clear HA4 HU4 HS4 HM4
   clear HQ4
   go_upto_region 7 with fail
   clear d0 d1 d2 d3 d4 d5 d6 dg df hb
   generalize w4.setCell ⟨g, 2, none⟩ _ = w5 at *
   obtain ⟨m0, m1, m2, m3, m4, m5, m6⟩ := HM5.out.seven
   have ml := HM5.out.lt
   obtain ⟨z0, z1, z2, z3, z4, z5, z6, y0, y1, y2, y3, y4, y5, y6⟩ := HA5.out.seven2
   have zl := HA5.out.lt
   have HRR := Lib.hid (show OutR (N + 1) g lo lc L op RES X2 ko false w5 from by rw [HE.out]; exact ⟨rfl, HF0.out, _, _, HQ5.out⟩)
   go_wp2
   clear z0 z1 z2 z3 z4 z5 z6 y0 y1 y2 y3 y4 y5 y6 zl
   rw [set7t_fold]
   obtain ⟨hU, hR⟩ := OutR.fin (N := N) HH.out (Nat.le_of_eq HNN.out) HU5.out HRR.out (.int .i64 X2.op) (.string X2.text) (.int .u64 X2.s0) (.int .u64 X2.s1) (.int .u64 X2.s2) (.int .u64 X2.s3) (.slice ko X2.kids.length kc)
   have HF := HA5.out.put7 (u0 := .int .i64 X2.op) (u1 := .string X2.text) (u2 := .int .u64 X2.s0) (u3 := .int .u64 X2.s1) (u4 := .int .u64 X2.s2) (u5 := .int .u64 X2.s3) (u6 := .slice ko X2.kids.length kc)
   generalize set7t w5 N _ _ _ _ _ _ _ = w99 at *
   obtain ⟨z0, z1, z2, z3, z4, z5, z6⟩ := HF.seven
   refine bodyPost_ret (by simp [results, Try.results112, go_sem, z0, z1, z2, z3, z4, z5, z6]; rfl) rfl ?_
   exact ⟨hU, X2, ko, kc, false, rfl, hR⟩
  | ok p =>
   obtain ⟨x, m⟩ := p
   obtain ⟨rfl, hq, rfl, n2, hE⟩ := hr4
   have HQ4 := Lib.hid hq
   have HT4 := Lib.hid (HasE.low (D' := N + 1) HSD.out hE)
   have HMn := Lib.hid (HXm.out x m rfl)
   clear hq hE HXm
   obtain ⟨d0, d1, d2, d3, d4, d5, d6⟩ := HQ4.out.1.seven
   have dg := HQ4.out.1.lt
   have df : w4.frozen? ⟨g, 2, none⟩ = false := HQ4.out.1.thaw 2
   have HQ5 := Lib.hid (HQ4.out.open (op))
   have hb : But (fun j => j = g) w4 (w4.setCell ⟨g, 2, none⟩ (.int .i64 (op))) := But.put _ _ _ _
   have HA5 := Lib.hid (HA4.out.but hb (by have := HG.out; omega))
   have HU5 := Lib.hid (HU4.out.trans hb (fun _ _ h => h))
   have HS5 := Lib.hid (Nat.le_trans HS4.out hb.size)
   have HM5 := Lib.hid (HM4.out.but hb (by have := HGM.out; omega))
   clear HA4 HU4 HS4 HM4
   clear HQ4
   have HT5 := Lib.hid (HasE.but hb (fun j hj => by have := HG.out; omega) HT4.out)
   clear HT4
   go_upto_region 7 with fail
   clear d0 d1 d2 d3 d4 d5 d6 dg df hb
   generalize w4.setCell ⟨g, 2, none⟩ _ = w5 at *
   obtain ⟨z, hz⟩ : ∃ z, isS L m (⟨#[41]⟩ : ByteArray).data.toList = z := ⟨_, rfl⟩
   have HE2 := Lib.hid (show RES = if z = true then .ok (x, m + 1) else badF L 2 m from by rw [HE.out]; unfold parQ; simp only; rw [hz])
   go_wp2_with fail
   refine (rq_take ⟨#[41]⟩ g lo lc L m op none (by omega) HMn.out _ HQ5.out).mono ?_
   rintro e w6 ⟨rfl, hb, hq⟩
   rw [hz] at hq ⊢
   have HA6 := Lib.hid (HA5.out.but hb (by have := HG.out; omega))
   have HU6 := Lib.hid (HU5.out.trans hb (fun _ _ h => h))
   have HS6 := Lib.hid (Nat.le_trans HS5.out hb.size)
   have HM6 := Lib.hid (HM5.out.but hb (by have := HGM.out; omega))
   clear HA5 HU5 HS5 HM5
   have HT6 := Lib.hid (HasE.but hb (fun j hj => by have := HG.out; omega) HT5.out)
   have HQ6 := Lib.hid hq
   clear hb hq HQ5 HT5 hz
   cases z with
   | true =>
    obtain ⟨m0, m1, m2, m3, m4, m5, m6⟩ := HM6.out.seven
    have ml := HM6.out.lt
    obtain ⟨z0, z1, z2, z3, z4, z5, z6, y0, y1, y2, y3, y4, y5, y6⟩ := HA6.out.seven2
    have zl := HA6.out.lt
    have HRR := Lib.hid (show OutR (N + 1) g lo lc L op RES x ko true w6 from by rw [HE2.out]; exact ⟨rfl, HQ6.out, rfl, n2, HT6.out⟩)
    go_wp2
    clear z0 z1 z2 z3 z4 z5 z6 y0 y1 y2 y3 y4 y5 y6 zl
    rw [set7t_fold]
    obtain ⟨hU, hR⟩ := OutR.fin (N := N) HH.out (Nat.le_of_eq HNN.out) HU6.out HRR.out (.int .i64 x.op) (.string x.text) (.int .u64 x.s0) (.int .u64 x.s1) (.int .u64 x.s2) (.int .u64 x.s3) (.slice ko x.kids.length kc)
    have HF := HA6.out.put7 (u0 := .int .i64 x.op) (u1 := .string x.text) (u2 := .int .u64 x.s0) (u3 := .int .u64 x.s1) (u4 := .int .u64 x.s2) (u5 := .int .u64 x.s3) (u6 := .slice ko x.kids.length kc)
    generalize set7t w6 N _ _ _ _ _ _ _ = w99 at *
    obtain ⟨z0, z1, z2, z3, z4, z5, z6⟩ := HF.seven
    refine bodyPost_ret (by simp [results, Try.results112, go_sem, z0, z1, z2, z3, z4, z5, z6]; rfl) rfl ?_
    exact ⟨hU, x, ko, kc, true, rfl, hR⟩
   | false =>
    go_wp2_with fail
    refine (rq_stop 2 g lo lc L m op none (by omega) HMn.out _ HQ6.out).mono ?_
    rintro e w7 ⟨rfl, hb, hq⟩
    have HA7 := Lib.hid (HA6.out.but hb (by have := HG.out; omega))
    have HU7 := Lib.hid (HU6.out.trans hb (fun _ _ h => h))
    have HS7 := Lib.hid (Nat.le_trans HS6.out hb.size)
    have HM7 := Lib.hid (HM6.out.but hb (by have := HGM.out; omega))
    clear HA6 HU6 HS6 HM6
    have HQ7 := Lib.hid hq
    clear hb hq HQ6
    rw [ex0_agg7]
    obtain ⟨z0, z1, z2, z3, z4, z5, z6, y0, y1, y2, y3, y4, y5, y6⟩ := HA7.out.seven2
    have zl := HA7.out.lt
    have HRR := Lib.hid (show OutR (N + 1) g lo lc L op RES ex0 none false w7 from by rw [HE2.out]; exact ⟨rfl, (by show (2 : Int) ≠ 0; decide), _, _, HQ7.out⟩)
    go_wp2
    clear z0 z1 z2 z3 z4 z5 z6 y0 y1 y2 y3 y4 y5 y6 zl
    rw [set7t_fold]
    obtain ⟨hU, hR⟩ := OutR.fin (N := N) HH.out (Nat.le_of_eq HNN.out) HU7.out HRR.out (.int .i64 0) (.string ⟨#[]⟩) (.int .u64 0) (.int .u64 0) (.int .u64 0) (.int .u64 0) (.slice none 0 0)
    have HF := HA7.out.put7 (u0 := .int .i64 0) (u1 := .string ⟨#[]⟩) (u2 := .int .u64 0) (u3 := .int .u64 0) (u4 := .int .u64 0) (u5 := .int .u64 0) (u6 := .slice none 0 0)
    generalize set7t w7 N _ _ _ _ _ _ _ = w99 at *
    obtain ⟨z0, z1, z2, z3, z4, z5, z6⟩ := HF.seven
    refine bodyPost_ret (by simp [results, Try.results112, go_sem, z0, z1, z2, z3, z4, z5, z6]; rfl) rfl ?_
    exact ⟨hU, ex0, none, 0, false, rfl, hR⟩
end Go.Proofs.Ytonknapfndaalaa
