/- What is no wider and no deeper than so; how deep an expression is, walked over it. An expression among tokens, walked, whatever stands in it; how wide and how deep it is. Blocks made one behind the other. No program in sight. What the reference reads among tokens, walked. How long the texts of an expression are that stands among tokens. -/
import Derived.Test.YtonknapfndaalaaChecked
import Derived.Test.YtonknapfndaalaaGl
import Derived.Test.YtonknapfndaalaaGa
import Derived.Handy
import Derived.KernelRfl
import Derived.WalkLawsBesides
import Derived.BigQuiet
import Derived.Test.YtonknapfndaalaaGm
import Derived.Test.YtonknapfndaalaaRdH
import Derived.Test.YtonknapfndaalaaGe
namespace Go.Proofs.Ytonknapfndaalaa
set_option linter.unusedVariables false
set_option maxRecDepth 1000000
open Go.RowKit Go.Sort
/-- M kids at most at each place, n levels at most. -/
def fit (M : Nat) : Nat → Ex → Bool
 | 0, _ => false
 | n + 1, x => decide (x.kids.length ≤ M) && x.kids.all (fit M n)
theorem fit_kid {M n : Nat} {x y : Ex} (h : fit M (n + 1) x = true) {k : Nat} (hy : x.kids[k]? = some y) : fit M n y = true := by
 unfold fit at h
 rw [Bool.and_eq_true] at h
 exact List.all_eq_true.1 h.2 y (List.mem_of_getElem? hy)
theorem fit_len {M n : Nat} {x : Ex} (h : fit M n x = true) : x.kids.length ≤ M := by
 cases n with
 | zero => cases h
 | succ n =>
  unfold fit at h
  rw [Bool.and_eq_true, decide_eq_true_eq] at h
  exact h.1
theorem fit_more {M : Nat} : ∀ {n m : Nat} {x : Ex}, fit M n x = true → n ≤ m → fit M m x = true
 | 0, m, x, h, _ => by cases h
 | n + 1, 0, x, h, hm => by omega
 | n + 1, m + 1, x, h, hm => by
  unfold fit at h ⊢
  rw [Bool.and_eq_true] at h ⊢
  exact ⟨h.1, List.all_eq_true.2 fun y hy => fit_more (List.all_eq_true.1 h.2 y hy) (by omega)⟩
theorem HasK.fit {M : Nat} {w : World} : ∀ {n m : Nat} {x : Ex} {ao : Option Addr}, fit M n x = true → HasK w m ao x.kids → HasK w n ao x.kids
 | 0, m, x, ao, h, _ => by cases h
 | n + 1, 0, x, ao, h, hk => by
  have h0 : x.kids = [] := hk
  rw [h0]; exact HasK.nil _ _ _
 | n + 1, m + 1, x, ao, h, hk => fun k y hy => by
  obtain ⟨g, off, ko, kc, e, hg, c0, c1, c2, c3, c4, c5, c6, hr⟩ := hk k y hy
  exact ⟨g, off, ko, kc, e, hg, c0, c1, c2, c3, c4, c5, c6, HasK.fit (fit_kid h hy) hr⟩
set_option maxHeartbeats 1600000 in
theorem rdeepf_any (M : Nat) (hM : M ≤ 90001) : ∀ (n : Nat) (hn : n ≤ 60) (x : Ex) (ko : Option Addr) (kc : Nat) (w : World), fit M n x = true → HasK w n ko x.kids →
  Calls Try.prog 12 #[exv x ko kc] w fun e w' => e = .returned (.int .i64 (deepX n x)) ∧ Below w.heap.size w w'
 | 0, _, x, _, _, _, h, _ => by cases h
 | n + 1, hn, x, ko, kc, w, hf, hK => by
  have IH := Lib.hid (fun (y : Ex) (ao : Option Addr) (c : Nat) (W : World) => rdeepf_any M hM n (by omega) y ao c W)
  have HK := Lib.hid hK
  have HF := Lib.hid hf
  have hl := fit_len hf
  obtain ⟨m, hm⟩ : ∃ m, x.kids.length = m := ⟨_, rfl⟩
  have HM := Lib.hid hm
  have HB0 := Lib.hid (show Below w.heap.size w (w.alloc (.cells #[.int .i64 x.op, .string x.text, .int .u64 x.s0, .int .u64 x.s1, .int .u64 x.s2, .int .u64 x.s3, .slice ko m kc] 28)) from (Below.refl _ _).alloc (Nat.le_refl _) _)
  have HO := Lib.hid (Own.fresh w 28 [.int .i64 x.op, .string x.text, .int .u64 x.s0, .int .u64 x.s1, .int .u64 x.s2, .int .u64 x.s3, .slice ko m kc])
  unfold exv
  rw [hm] at hl ⊢
  clear hm hK hf
  go_enter Try.func12, Try.ntmps12
  go_wp2_with fail
  go_loopw [3, 4] (fun b3 b9 wr => ∃ k : Nat, b9 = .int .i64 (k : Int) ∧ (k : Int) ≤ m ∧ b3 = .int .i64 ((x.kids.take k).foldl (fun m y => max m (deepX n y)) 0) ∧ Hid (Below w.heap.size w wr) ∧ Hid (Own wr w.heap.size 28 [.int .i64 x.op, .string x.text, .int .u64 x.s0, .int .u64 x.s1, .int .u64 x.s2, .int .u64 x.s3, .slice ko m kc]))
   (fun _ b9 _ => m - (intOf b9).toNat)
  case atStart => exact ⟨0, rfl, by omega, rfl, HB0, HO⟩
  case round =>
   obtain ⟨k, rfl, hk2, rfl, HB, HO1⟩ := hrel
   clear HB0 HO
   have o6 := HO1.out.cell 6
   simp only [List.getElem?_cons_succ, List.getElem?_cons_zero] at o6
   by_cases h2 : (k : Int) < m
   ·
    obtain ⟨y, hy⟩ : ∃ y, x.kids[k]? = some y := ⟨_, List.getElem?_eq_getElem (by have := HM.out; omega)⟩
    obtain ⟨g, off, kk, kd, rfl, hg, c0, c1, c2, c3, c4, c5, c6, hr⟩ := HK.out k y hy
    have HR := Lib.hid hr
    have HFY := Lib.hid (fit_kid HF.out hy)
    have HT := Lib.hid (show (x.kids.take (k + 1)).foldl (fun m y => max m (deepX n y)) 0 = max ((x.kids.take k).foldl (fun m y => max m (deepX n y)) 0) (deepX n y) from fold_snoc (fun m y => max m (deepX n y)) 0 x.kids hy)
    have hb := Lib.hid (deepX_take n x k)
    have hs := hb.out
    have hs3 := deepX_bd n y
    have HB9 := Lib.hid (And.intro hs hs3)
    clear hr hy hs hs3 hb 
    generalize hq : ((x.kids.take k).foldl (fun m y => max m (deepX n y)) 0) = q at *
    have HQ := Lib.hid hq
    clear hq
    have e0 := keepc c0 HB.out
    have e1 := keepc c1 HB.out
    have e2 := keepc c2 HB.out
    have e3 := keepc c3 HB.out
    have e4 := keepc c4 HB.out
    have e5 := keepc c5 HB.out
    have e6 := keepc c6 HB.out
    have hgr : g < wr.heap.size := Nat.lt_of_lt_of_le hg HB.out.size
    clear c0 c1 c2 c3 c4 c5 c6 hg
    obtain ⟨z, hz⟩ : ∃ z, deepX n y = z := ⟨_, rfl⟩
    have HZ := Lib.hid hz
    have hbnd := HB9.out
    rw [hz] at hbnd
    rw [hz] at HT
    clear hz HB9
    go_wp2_with fail
    refine (IH.out y kk kd _ HFY.out (HasK.below (HB.out) HR.out)).mono ?_
    rintro e w1 ⟨rfl, hb1⟩
    rw [HZ.out]
    have HB1 := Lib.hid (keepb (HB.out) hb1)
    have HO2 := Lib.hid (HO1.out.under hb1 HO1.out.lt)
    clear o6
    clear hb1 e0 e1 e2 e3 e4 e5 e6
    obtain ⟨hq0, hq1, hz0, hz1⟩ : 0 ≤ q ∧ q ≤ 1000 ∧ 0 ≤ z ∧ z ≤ 1000 := by omega
    clear hbnd
    have HT2 := Lib.hid (HT.out)
    clear HT
    go_wp2
    all_goals go_roundw
    all_goals first
     | (case rel => exact ⟨k + 1, by go_num, by omega, by rw [HT2.out] <;> (first | rfl | (congr 1; omega)), HB1, HO2⟩)
     | skip
    all_goals (simp [intOf]; omega)
   ·
    obtain rfl : k = m := by omega
    have HE := Lib.hid (show deepX (n + 1) x = (x.kids.take k).foldl (fun m y => max m (deepX n y)) 0 + 1 from by rw [← HM.out, fold_all]; rfl)
    have hb := deepX_take n x k
    generalize hq : ((x.kids.take k).foldl (fun m y => max m (deepX n y)) 0) = q at *
    clear hq
    have hqb : 0 ≤ q ∧ q ≤ 1000 := by omega
    clear hb
    go_wp2
    go_ret
    exact ⟨ret_int HE.out.symm, HB.out⟩
end Go.Proofs.Ytonknapfndaalaa

namespace Go.Proofs.Ytonknapfndaalaa
set_option linter.unusedVariables false
set_option maxRecDepth 1000000
open Go.RowKit Go.Sort
/-- What is answered is no wider than M, and n levels deep at most. -/
def Ft (M n : Nat) (r : Rs) : Prop := ∀ x m, r = .ok (x, m) → fit M n x = true
theorem Ft.err {M n : Nat} (e : Int × Int) : Ft M n (.error e) := fun x m h => by cases h
theorem Ft.ok {M n k : Nat} {x : Ex} (h : fit M n x = true) : Ft M n (.ok (x, k)) := fun y m e => by
 obtain ⟨rfl, rfl⟩ : x = y ∧ k = m := by simpa using e
 exact h
theorem Ft.more {M n m : Nat} {r : Rs} (h : Ft M n r) (hm : n ≤ m) : Ft M m r := fun x k e => fit_more (h x k e) hm
theorem fit_leaf {M n : Nat} {op : Int} {t : ByteArray} {a b c d : Int} : fit M (n + 1) (.mk op t a b c d []) = true := by
 unfold fit
 simp [Ex.kids]
theorem fit_one {M n : Nat} {op : Int} {t : ByteArray} {a b c d : Int} {x : Ex} (hM : 1 ≤ M) (h : fit M n x = true) : fit M (n + 1) (.mk op t a b c d [x]) = true := by
 unfold fit
 simp [Ex.kids, h, hM]
theorem fit_list {M n : Nat} {op : Int} {t : ByteArray} {a b c d : Int} {K : List Ex} (hM : K.length ≤ M) (h : ∀ x ∈ K, fit M n x = true) : fit M (n + 1) (.mk op t a b c d K) = true := by
 unfold fit
 rw [Bool.and_eq_true, decide_eq_true_eq]
 exact ⟨hM, List.all_eq_true.2 h⟩
theorem refO_ft {M n : Nat} (L : List Tok) (k : Nat) : Ft M (n + 1) (refO L k) := by
 unfold refO
 split
 ·
  split
  ·
   split
   ·
    exact Ft.ok fit_leaf
   ·
    exact Ft.err _
  ·
   exact Ft.ok fit_leaf
 ·
  exact Ft.err _
theorem primO_ft {M n : Nat} {L : List Tok} {X : Nat → Rs} {big : Bool} (hX : ∀ j, Ft M (n + 1) (X j)) (k : Nat) : Ft M (n + 1) (primO L X big k) := by
 unfold primO
 split
 ·
  exact Ft.ok fit_leaf
 split
 ·
  exact Ft.ok fit_leaf
 split
 ·
  exact refO_ft L k
 split
 ·
  exact Ft.ok fit_leaf
 split
 ·
  split
  ·
   exact Ft.err _
  ·
   cases hx : X (k + 1) with
   | error e => exact Ft.err e
   | ok p =>
    obtain ⟨x, m⟩ := p
    show Ft M (n + 1) (if isS L m [41] = true then _ else _)
    split
    ·
     exact Ft.ok (hX _ _ _ hx)
    ·
     exact Ft.err _
 ·
  exact Ft.err _
theorem Ft.kid {M n : Nat} {op : Int} {t : ByteArray} (hM : 1 ≤ M) {r : Rs} (h : Ft M n r) : Ft M (n + 1) (mapX (fun e => .mk op t 0 0 0 0 [e]) r) := by
 cases r with
 | error e => exact Ft.err e
 | ok p =>
  obtain ⟨x, m⟩ := p
  exact Ft.ok (fit_one hM (h x m rfl))
theorem sufO_ft {M n : Nat} (hM : 1 ≤ M) {L : List Tok} {X : Nat → Rs} {big : Bool} (hX : ∀ j, Ft M (n + 1) (X j)) (k : Nat) : Ft M (n + 2) (sufO L X big k) := by
 unfold sufO
 cases hp : primO L X big k with
 | error e => exact Ft.err e
 | ok p =>
  obtain ⟨x, m⟩ := p
  have h1 := primO_ft hX k x m hp
  show Ft M (n + 2) (if isS L m [42] = true then _ else if isS L m [43] = true then _ else if isS L m [63] = true then _ else _)
  split
  ·
   exact Ft.ok (fit_one hM h1)
  split
  ·
   exact Ft.ok (fit_one hM h1)
  split
  ·
   exact Ft.ok (fit_one hM h1)
  ·
   exact Ft.ok (fit_more h1 (by omega))
theorem preO_ft {M n : Nat} (hM : 1 ≤ M) {L : List Tok} {X : Nat → Rs} {big : Bool} (hX : ∀ j, Ft M (n + 1) (X j)) (k : Nat) : Ft M (n + 3) (preO L X big k) := by
 have hS := sufO_ft (big := big) (L := L) hM hX
 unfold preO
 split
 ·
  exact (hS (k + 1)).kid hM
 split
 ·
  exact (hS (k + 1)).kid hM
 split
 ·
  cases hp : sufO L X big (k + 1) with
  | error e => exact Ft.err e
  | ok p =>
   obtain ⟨x, m⟩ := p
   have h1 := hS (k + 1) x m hp
   show Ft M (n + 3) (if isS L m [126] = true then _ else _)
   split
   ·
    exact Ft.ok (fit_one hM h1)
   ·
    exact Ft.err _
 split
 ·
  split
  ·
   exact (hS (k + 2)).kid hM
  ·
   exact Ft.err _
 ·
  exact (hS k).more (by omega)
theorem lsL_ft {M n : Nat} {L : List Tok} {c : Nat → Bool} {nx : Nat → Rs} (hc : ∀ j, c j = true → j < L.length) (hb : ∀ j, Bd L j (nx j)) (hf : ∀ j, Ft M n (nx j)) : ∀ (f : Nat) (A K : List Ex) (k m : Nat), A.length ≤ k → k ≤ L.length → (∀ x ∈ A, fit M n x = true) → lsL c nx f A k = .ok (K, m) → K.length ≤ L.length ∧ ∀ x ∈ K, fit M n x = true
 | 0, A, K, k, m, hA, hk, hx, h => by
  simp [lsL] at h
  obtain ⟨rfl, rfl⟩ := h
  exact ⟨by omega, hx⟩
 | f + 1, A, K, k, m, hA, hk, hx, h => by
  unfold lsL at h
  split at h
  ·
   cases hq : nx k with
   | error e => simp [hq] at h
   | ok p =>
    obtain ⟨x, n1⟩ := p
    have h1 := hb k x n1 hq
    simp only [hq] at h
    refine lsL_ft hc hb hf f _ K n1 m (by rw [List.length_append]; simp; omega) h1.2 (fun y hy => ?_) h
    rw [List.mem_append, List.mem_singleton] at hy
    rcases hy with hy | rfl
    ·
     exact hx y hy
    ·
     exact hf k y n1 hq
  ·
   simp at h
   obtain ⟨rfl, rfl⟩ := h
   exact ⟨by omega, hx⟩
theorem lsO_ft {M n : Nat} {L : List Tok} {c : Nat → Bool} {nx : Nat → Rs} {k : Nat} {r : Rs} {op : Int} (hM : L.length ≤ M) (hc : ∀ j, c j = true → j < L.length) (hb : ∀ j, Bd L j (nx j)) (hf : ∀ j, Ft M n (nx j)) (hr : Bd L k r) (hr2 : Ft M n r) : Ft M (n + 1) (endX op (lsO c (L.length + 1) nx r)) := by
 cases r with
 | error e => exact Ft.err e
 | ok p =>
  obtain ⟨x, m⟩ := p
  show Ft M (n + 1) (endX op (lsL c nx (L.length + 1) [x] m))
  cases hl : lsL c nx (L.length + 1) [x] m with
  | error e => exact Ft.err e
  | ok p =>
   obtain ⟨K, m2⟩ := p
   have h1 := hr x m rfl
   have h2 := lsL_ft hc hb hf _ _ K m m2 (by show 1 ≤ m; omega) h1.2 (fun y hy => by rw [List.mem_singleton] at hy; subst hy; exact hr2 y m rfl) hl
   refine Ft.ok ?_
   by_cases e : K.length = 1
   ·
    obtain ⟨y, rfl⟩ := List.length_eq_one_iff.1 e
    exact fit_more (h2.2 y (List.mem_singleton.2 rfl)) (by omega)
   ·
    rw [oneX_many e]
    exact fit_list (by omega) h2.2
theorem exO_ft {M : Nat} {L : List Tok} (hM : 1 ≤ M) (hL : L.length ≤ M) : ∀ d k, Ft M (5 + 4 * d) (exO L d k)
 | 0, k => by
  show Ft M 5 (chO L (seqO L (preO L (fun _ => .error (0, 0)) true)) k)
  have hp : ∀ j, Ft M 3 (preO L (fun _ => .error (0, 0)) true j) := preO_ft (n := 0) hM fun j => Ft.err _
  have bp : ∀ j, Bd L j (preO L (fun _ => .error (0, 0)) true j) := preO_bd fun j => Bd.err _
  have hs : ∀ j, Ft M 4 (seqO L (preO L (fun _ => .error (0, 0)) true) j) := fun j => by
   rw [seqO_ls]; exact lsO_ft (n := 3) hL (fun j h => startsO_lt h) bp hp (bp j) (hp j)
  have bs : ∀ j, Bd L j (seqO L (preO L (fun _ => .error (0, 0)) true) j) := seqO_bd bp
  rw [chO_ls]
  exact lsO_ft (n := 4) hL (fun j h => isS_lt h) (fun j => (bs (j + 1)).low (by omega)) (fun j => hs (j + 1)) (bs k) (hs k)
 | d + 1, k => by
  show Ft M (5 + 4 * (d + 1)) (chO L (seqO L (preO L (exO L d) false)) k)
  have hp : ∀ j, Ft M (4 + 4 * d + 3) (preO L (exO L d) false j) := preO_ft (n := 4 + 4 * d) hM fun j => (exO_ft hM hL d j).more (by omega)
  have bp : ∀ j, Bd L j (preO L (exO L d) false j) := preO_bd (exO_bd d)
  have hs : ∀ j, Ft M (4 + 4 * d + 4) (seqO L (preO L (exO L d) false) j) := fun j => by
   rw [seqO_ls]; exact lsO_ft (n := 4 + 4 * d + 3) hL (fun j h => startsO_lt h) bp hp (bp j) (hp j)
  have bs : ∀ j, Bd L j (seqO L (preO L (exO L d) false) j) := seqO_bd bp
  rw [chO_ls]
  exact (lsO_ft (n := 4 + 4 * d + 4) hL (fun j h => isS_lt h) (fun j => (bs (j + 1)).low (by omega)) (fun j => hs (j + 1)) (bs k) (hs k)).more (by omega)
end Go.Proofs.Ytonknapfndaalaa

namespace Go.Proofs.Ytonknapfndaalaa
set_option linter.unusedVariables false
set_option maxRecDepth 1000000
open Go.RowKit
def made (w : World) (os : List Obj) : World := os.foldl World.alloc w
theorem made_own : ∀ (os : List Obj) (w : World) (i : Nat) (t : TypeId) (cs : List Value), os[i]? = some (.cells cs.toArray t) → Own (made w os) (w.heap.size + i) t cs
 | [], w, i, t, cs, h => by simp at h
 | o :: os, w, 0, t, cs, h => by
  simp at h; subst h
  have key : ∀ (os : List Obj) (W : World), Own W w.heap.size t cs → Own (made W os) w.heap.size t cs := by
   intro os
   induction os with
   | nil => intro W h; exact h
   | cons o os ih => intro W h; exact ih _ (h.on_alloc o)
  exact key os _ (Own.fresh w t cs)
 | o :: os, w, i + 1, t, cs, h => by
  have g := made_own os (w.alloc o) i t cs (by simpa using h)
  rw [show (w.alloc o).heap.size + i = w.heap.size + (i + 1) by simp; omega] at g
  exact g
theorem made_below (w : World) : ∀ (os : List Obj) (W : World), Below w.heap.size w W → Below w.heap.size w (made W os)
 | [], W, h => h
 | o :: os, W, h => made_below w os _ (h.alloc h.size o)
theorem But.set4 (w : World) (g : Nat) (u0 u1 u2 u3 : Value) : But (fun j => j = g) w (set4 w g u0 u1 u2 u3) :=
 ((((But.refl (fun j => j = g) w).setCell (p := ⟨g, 0, none⟩) (fun _ => rfl) u0).setCell (p := ⟨g, 1, none⟩) (fun _ => rfl) u1).setCell (p := ⟨g, 2, none⟩) (fun _ => rfl) u2).setCell (p := ⟨g, 3, none⟩) (fun _ => rfl) u3
end Go.Proofs.Ytonknapfndaalaa

namespace Go.Proofs.Ytonknapfndaalaa
set_option linter.unusedVariables false
set_option maxRecDepth 1000000
open Go.RowKit Go.Sort
/-- The expression from a token's place on, and the place behind it; or the fault. -/
def rdO (L : List Tok) (k : Nat) : Rs := match exO L 12 k with
 | .error e => .error e
 | .ok (x, m) => if 12 < deepX 60 x then badF L 3 k else .ok (x, m)
def RdE (D : Nat) (r : Rs) (e : Ending) (w' : World) : Prop := match r with
 | .ok (x, m) => ∃ ko kc n, e = .returned (.tuple #[exv x ko kc, .int .i64 (m : Int), .agg #[.int .i64 0, .int .i64 0, .int .i64 0, .int .i64 0]]) ∧ HasE w' D n ko x.kids
 | .error f => e = .returned (.tuple #[exv ex0 none 0, .int .i64 0, .agg #[.int .i64 f.1, .int .i64 f.2, .int .i64 0, .int .i64 0]]) ∧ f.1 ≠ 0
def rdQ (L : List Tok) (k : Nat) : Rs → Rs
 | .error e => .error e
 | .ok (x, m) => if 12 < deepX 60 x then badF L 3 k else .ok (x, m)
end Go.Proofs.Ytonknapfndaalaa

namespace Go.Proofs.Ytonknapfndaalaa
set_option linter.unusedVariables false
set_option maxRecDepth 1000000
open Go.RowKit Go.Sort
/-- Four words of a set. -/
def fitI (a b c d : Int) : Bool := decide (0 ≤ a ∧ a < 18446744073709551616) && decide (0 ≤ b ∧ b < 18446744073709551616) && decide (0 ≤ c ∧ c < 18446744073709551616) && decide (0 ≤ d ∧ d < 18446744073709551616)
theorem fitI_set {x : Set4} (h : fits x) : fitI (x.1 : Int) (x.2.1 : Int) (x.2.2.1 : Int) (x.2.2.2 : Int) = true := by
 obtain ⟨h1, h2, h3, h4⟩ := h
 unfold P64 at h1 h2 h3 h4
 unfold fitI
 rw [decide_eq_true (by omega), decide_eq_true (by omega), decide_eq_true (by omega), decide_eq_true (by omega)]
 rfl
/-- Texts of T bytes at most, and sets that are sets, n levels on. -/
def txs (T : Nat) : Nat → Ex → Bool
 | 0, _ => true
 | n + 1, x => (decide (x.text.size ≤ T) && fitI x.s0 x.s1 x.s2 x.s3) && x.kids.all (txs T n)
def TxA (T : Nat) (x : Ex) : Prop := ∀ n, txs T n x = true
theorem TxA.text {T : Nat} {x : Ex} (h : TxA T x) : x.text.size ≤ T := by
 have := h 1
 unfold txs at this
 rw [Bool.and_eq_true, Bool.and_eq_true, decide_eq_true_eq] at this
 exact this.1.1
theorem TxA.sets {T : Nat} {x : Ex} (h : TxA T x) : fitI x.s0 x.s1 x.s2 x.s3 = true := by
 have := h 1
 unfold txs at this
 rw [Bool.and_eq_true, Bool.and_eq_true] at this
 exact this.1.2
theorem TxA.kid {T : Nat} {x y : Ex} (h : TxA T x) (hy : y ∈ x.kids) : TxA T y := fun n => by
 have := h (n + 1)
 unfold txs at this
 rw [Bool.and_eq_true] at this
 exact List.all_eq_true.1 this.2 y hy
theorem TxA.list {T : Nat} {op : Int} {t : ByteArray} {a b c d : Int} {K : List Ex} (ht : t.size ≤ T) (h : ∀ x ∈ K, TxA T x) (hf : fitI a b c d = true := by rfl) : TxA T (.mk op t a b c d K) := fun n => by
 cases n with
 | zero => rfl
 | succ n =>
  unfold txs
  rw [Bool.and_eq_true, Bool.and_eq_true, decide_eq_true_eq]
  exact ⟨⟨ht, hf⟩, List.all_eq_true.2 fun x hx => h x hx n⟩
theorem TxA.leaf {T : Nat} {op : Int} {t : ByteArray} {a b c d : Int} (ht : t.size ≤ T) (hf : fitI a b c d = true := by rfl) : TxA T (.mk op t a b c d []) := TxA.list ht (fun x hx => absurd hx List.not_mem_nil) hf
theorem TxA.one {T : Nat} {op : Int} {t : ByteArray} {a b c d : Int} {x : Ex} (ht : t.size ≤ T) (h : TxA T x) (hf : fitI a b c d = true := by rfl) : TxA T (.mk op t a b c d [x]) := TxA.list ht (fun y hy => by
 rw [List.mem_singleton] at hy
 subst hy
 exact h) hf
def Tr (T : Nat) (r : Rs) : Prop := ∀ x m, r = .ok (x, m) → TxA T x
theorem Tr.err {T : Nat} (e : Int × Int) : Tr T (.error e) := fun x m h => by cases h
theorem Tr.ok {T k : Nat} {x : Ex} (h : TxA T x) : Tr T (.ok (x, k)) := fun y m e => by
 obtain ⟨rfl, rfl⟩ : x = y ∧ k = m := by simpa using e
 exact h
theorem word_sz {x : ByteArray} (h : wordB x = true) : x.size ≤ 12 := by
 unfold wordB at h
 rw [Bool.and_eq_true] at h
 have := of_decide_eq_true h.2
 omega
/-- A token with no more than T bytes, its set a set. -/
def Tk (T : Nat) (t : Tok) : Prop := t.tx.size ≤ T ∧ fits t.st
theorem tkA_ok {T : Nat} {L : List Tok} (hL : ∀ t ∈ L, Tk T t) (k : Nat) : Tk T (tkA L k) := by
 unfold tkA
 rw [List.getD_eq_getElem?_getD]
 cases h : L[k]? with
 | none => exact ⟨Nat.zero_le _, fits0⟩
 | some t => exact hL t (List.mem_of_getElem? h)
theorem tkA_sz {T : Nat} {L : List Tok} (hL : ∀ t ∈ L, Tk T t) (k : Nat) : (tkA L k).tx.size ≤ T := (tkA_ok hL k).1
theorem refO_tx {T : Nat} (hT : 26 ≤ T) (L : List Tok) (k : Nat) : Tr T (refO L k) := by
 unfold refO
 split
 ·
  rename_i h1
  have w1 := word_sz h1
  split
  ·
   split
   ·
    rename_i h2
    rw [Bool.and_eq_true] at h2
    have w2 := word_sz h2.2
    refine Tr.ok (TxA.leaf ?_)
    have h58 : (⟨#[58, 58]⟩ : ByteArray).size = 2 := rfl
    simp only [ByteArray.size_append, h58]
    omega
   ·
    exact Tr.err _
  ·
   exact Tr.ok (TxA.leaf (by omega))
 ·
  exact Tr.err _
theorem primO_tx {T : Nat} (hT : 26 ≤ T) {L : List Tok} (hL : ∀ t ∈ L, Tk T t) {X : Nat → Rs} {big : Bool} (hX : ∀ j, Tr T (X j)) (k : Nat) : Tr T (primO L X big k) := by
 unfold primO
 split
 ·
  exact Tr.ok (TxA.leaf (tkA_sz hL k))
 split
 ·
  exact Tr.ok (TxA.leaf (Nat.zero_le _) (fitI_set (tkA_ok hL k).2))
 split
 ·
  exact refO_tx hT L k
 split
 ·
  exact Tr.ok (TxA.leaf (Nat.zero_le _))
 split
 ·
  split
  ·
   exact Tr.err _
  ·
   cases hx : X (k + 1) with
   | error e => exact Tr.err e
   | ok p =>
    obtain ⟨x, m⟩ := p
    show Tr T (if isS L m [41] = true then _ else _)
    split
    ·
     exact Tr.ok (hX _ _ _ hx)
    ·
     exact Tr.err _
 ·
  exact Tr.err _
theorem Tr.kid {T : Nat} {op : Int} {t : ByteArray} (ht : t.size ≤ T) {r : Rs} (h : Tr T r) : Tr T (mapX (fun e => .mk op t 0 0 0 0 [e]) r) := by
 cases r with
 | error e => exact Tr.err e
 | ok p =>
  obtain ⟨x, m⟩ := p
  exact Tr.ok (TxA.one ht (h x m rfl))
theorem sufO_tx {T : Nat} (hT : 26 ≤ T) {L : List Tok} (hL : ∀ t ∈ L, Tk T t) {X : Nat → Rs} {big : Bool} (hX : ∀ j, Tr T (X j)) (k : Nat) : Tr T (sufO L X big k) := by
 unfold sufO
 cases hp : primO L X big k with
 | error e => exact Tr.err e
 | ok p =>
  obtain ⟨x, m⟩ := p
  have h1 := primO_tx hT hL hX k x m hp
  show Tr T (if isS L m [42] = true then _ else if isS L m [43] = true then _ else if isS L m [63] = true then _ else _)
  split
  ·
   exact Tr.ok (TxA.one (Nat.zero_le _) h1)
  split
  ·
   exact Tr.ok (TxA.one (Nat.zero_le _) h1)
  split
  ·
   exact Tr.ok (TxA.one (Nat.zero_le _) h1)
  ·
   exact Tr.ok h1
theorem preO_tx {T : Nat} (hT : 26 ≤ T) {L : List Tok} (hL : ∀ t ∈ L, Tk T t) {X : Nat → Rs} {big : Bool} (hX : ∀ j, Tr T (X j)) (k : Nat) : Tr T (preO L X big k) := by
 have hS := sufO_tx (big := big) hT hL hX
 unfold preO
 split
 ·
  exact (hS (k + 1)).kid (Nat.zero_le _)
 split
 ·
  exact (hS (k + 1)).kid (Nat.zero_le _)
 split
 ·
  cases hp : sufO L X big (k + 1) with
  | error e => exact Tr.err e
  | ok p =>
   obtain ⟨x, m⟩ := p
   have h1 := hS (k + 1) x m hp
   show Tr T (if isS L m [126] = true then _ else _)
   split
   ·
    exact Tr.ok (TxA.one (Nat.zero_le _) h1)
   ·
    exact Tr.err _
 split
 ·
  split
  ·
   exact (hS (k + 2)).kid (tkA_sz hL k)
  ·
   exact Tr.err _
 ·
  exact hS k
theorem lsL_tx {T : Nat} {c : Nat → Bool} {nx : Nat → Rs} (hf : ∀ j, Tr T (nx j)) : ∀ (f : Nat) (A K : List Ex) (k m : Nat), (∀ x ∈ A, TxA T x) → lsL c nx f A k = .ok (K, m) → ∀ x ∈ K, TxA T x
 | 0, A, K, k, m, hx, h => by
  simp [lsL] at h
  obtain ⟨rfl, rfl⟩ := h
  exact hx
 | f + 1, A, K, k, m, hx, h => by
  unfold lsL at h
  split at h
  ·
   cases hq : nx k with
   | error e => simp [hq] at h
   | ok p =>
    obtain ⟨x, n1⟩ := p
    simp only [hq] at h
    refine lsL_tx hf f _ K n1 m (fun y hy => ?_) h
    rw [List.mem_append, List.mem_singleton] at hy
    rcases hy with hy | rfl
    ·
     exact hx y hy
    ·
     exact hf k y n1 hq
  ·
   simp at h
   obtain ⟨rfl, rfl⟩ := h
   exact hx
theorem lsO_tx {T : Nat} {n : Nat} {c : Nat → Bool} {nx : Nat → Rs} {r : Rs} {op : Int} (hf : ∀ j, Tr T (nx j)) (hr : Tr T r) : Tr T (endX op (lsO c n nx r)) := by
 cases r with
 | error e => exact Tr.err e
 | ok p =>
  obtain ⟨x, m⟩ := p
  show Tr T (endX op (lsL c nx n [x] m))
  cases hl : lsL c nx n [x] m with
  | error e => exact Tr.err e
  | ok p =>
   obtain ⟨K, m2⟩ := p
   have h2 := lsL_tx hf _ _ K m m2 (fun y hy => by rw [List.mem_singleton] at hy; subst hy; exact hr y m rfl) hl
   refine Tr.ok ?_
   by_cases e : K.length = 1
   ·
    obtain ⟨y, rfl⟩ := List.length_eq_one_iff.1 e
    exact h2 y (List.mem_singleton.2 rfl)
   ·
    rw [oneX_many e]
    exact TxA.list (Nat.zero_le _) h2
theorem exO_tx {T : Nat} (hT : 26 ≤ T) {L : List Tok} (hL : ∀ t ∈ L, Tk T t) : ∀ d k, Tr T (exO L d k)
 | 0, k => by
  show Tr T (chO L (seqO L (preO L (fun _ => .error (0, 0)) true)) k)
  have hp : ∀ j, Tr T (preO L (fun _ => .error (0, 0)) true j) := preO_tx hT hL fun j => Tr.err _
  have hs : ∀ j, Tr T (seqO L (preO L (fun _ => .error (0, 0)) true) j) := fun j => by
   rw [seqO_ls]; exact lsO_tx hp (hp j)
  rw [chO_ls]
  exact lsO_tx (fun j => hs (j + 1)) (hs k)
 | d + 1, k => by
  show Tr T (chO L (seqO L (preO L (exO L d) false)) k)
  have hp : ∀ j, Tr T (preO L (exO L d) false j) := preO_tx hT hL fun j => exO_tx hT hL d j
  have hs : ∀ j, Tr T (seqO L (preO L (exO L d) false) j) := fun j => by
   rw [seqO_ls]; exact lsO_tx hp (hp j)
  rw [chO_ls]
  exact lsO_tx (fun j => hs (j + 1)) (hs k)
end Go.Proofs.Ytonknapfndaalaa
