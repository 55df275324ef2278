/- The law's own word awake of layer 8. -/
import Derived.Test.YtonknapfndaalaaGh
namespace Go.Proofs.Ytonknapfndaalaa
set_option linter.unusedVariables false
set_option maxRecDepth 1000000
open Go.RowKit Go.Sort
def awA : Ex := .mk 11 ⟨#[109, 58, 58, 97]⟩ 0 0 0 0 []
def awS : Ex := .mk 13 ⟨#[]⟩ 0 0 0 0 [awA]
def awL : Ex := .mk 1 ⟨#[120]⟩ 0 0 0 0 []
def awQ : Ex := .mk 4 ⟨#[]⟩ 0 0 0 0 [awS, awL]
def awY : Ex := .mk 3 ⟨#[]⟩ 0 0 0 0 []
def awC : Ex := .mk 5 ⟨#[]⟩ 0 0 0 0 [awQ, awY]
def awT : Ex := .mk 6 ⟨#[]⟩ 0 0 0 0 [awS]
def awB : Ex := .mk 12 ⟨#[108]⟩ 0 0 0 0 [awC]
def awP : Ex := .mk 7 ⟨#[]⟩ 0 0 0 0 [awA]
def awZ : Ex := .mk 13 ⟨#[]⟩ 0 0 0 0 [awP]
def aw0 : Ex := .mk 0 ⟨#[]⟩ 0 0 0 0 []
def allocs9 (w : World) (os : List Obj) : World := os.foldl World.alloc w
theorem allocs_own9 : ∀ (os : List Obj) (w : World) (i : Nat) (t : TypeId) (cs : List Value), os[i]? = some (.cells cs.toArray t) → Own (allocs9 w os) (w.heap.size + i) t cs
 | [], w, i, t, cs, h => by simp at h
 | o :: os, w, 0, t, cs, h => by
  simp at h; subst h
  have key : ∀ (os : List Obj) (W : World), Own W w.heap.size t cs → Own (allocs9 W os) w.heap.size t cs := by
   intro os
   induction os with
   | nil => intro W h; exact h
   | cons o os ih => intro W h; exact ih _ (h.on_alloc o)
  exact key os _ (Own.fresh w t cs)
 | o :: os, w, i + 1, t, cs, h => by
  have g := allocs_own9 os (w.alloc o) i t cs (by simpa using h)
  rw [show (w.alloc o).heap.size + i = w.heap.size + (i + 1) by simp; omega] at g
  exact g
theorem allocs_below9 (w : World) : ∀ (os : List Obj) (W : World), Below w.heap.size w W → Below w.heap.size w (allocs9 W os)
 | [], W, h => h
 | o :: os, W, h => allocs_below9 w os _ (h.alloc h.size o)
theorem own_move {w w' : World} {g : Nat} {t : TypeId} {cs : List Value} (h : Own w g t cs) (hb : Below w.heap.size w w') : Own w' g t cs := h.under hb h.lt
theorem zlt : (0 : Int) < (P64 : Int) := by decide
theorem setsOk_zero {n : Nat} {o : Int} {t : ByteArray} {K : List Ex} (h : ∀ (k : Nat) (y : Ex), K[k]? = some y → SetsOk n y) : SetsOk (n + 1) (.mk o t 0 0 0 0 K) :=
 ⟨⟨⟨Int.le_refl 0, zlt⟩, ⟨Int.le_refl 0, zlt⟩, ⟨Int.le_refl 0, zlt⟩, ⟨Int.le_refl 0, zlt⟩⟩, h⟩
theorem kids_nil9 {n : Nat} : ∀ (k : Nat) (y : Ex), ([] : List Ex)[k]? = some y → SetsOk n y := fun k y h => by simp at h
theorem kids_one9 {n : Nat} {x : Ex} (hx : SetsOk n x) : ∀ (k : Nat) (y : Ex), [x][k]? = some y → SetsOk n y
 | 0, y, h => by simp at h; subst h; exact hx
 | k + 1, y, h => by simp at h
theorem kids_two9 {n : Nat} {x z : Ex} (hx : SetsOk n x) (hz : SetsOk n z) : ∀ (k : Nat) (y : Ex), [x, z][k]? = some y → SetsOk n y
 | 0, y, h => by simp at h; subst h; exact hx
 | 1, y, h => by simp at h; subst h; exact hz
 | k + 2, y, h => by simp at h
theorem sokA (n : Nat) : SetsOk n awA := by cases n; exact trivial; exact setsOk_zero kids_nil9
theorem sokL (n : Nat) : SetsOk n awL := by cases n; exact trivial; exact setsOk_zero kids_nil9
theorem sokY (n : Nat) : SetsOk n awY := by cases n; exact trivial; exact setsOk_zero kids_nil9
theorem sok0 (n : Nat) : SetsOk n aw0 := by cases n; exact trivial; exact setsOk_zero kids_nil9
theorem sokS (n : Nat) : SetsOk n awS := by cases n; exact trivial; exact setsOk_zero (kids_one9 (sokA _))
theorem sokP (n : Nat) : SetsOk n awP := by cases n; exact trivial; exact setsOk_zero (kids_one9 (sokA _))
theorem sokZ (n : Nat) : SetsOk n awZ := by cases n; exact trivial; exact setsOk_zero (kids_one9 (sokP _))
theorem sokT (n : Nat) : SetsOk n awT := by cases n; exact trivial; exact setsOk_zero (kids_one9 (sokS _))
theorem sokQ (n : Nat) : SetsOk n awQ := by cases n; exact trivial; exact setsOk_zero (kids_two9 (sokS _) (sokL _))
theorem sokC (n : Nat) : SetsOk n awC := by cases n; exact trivial; exact setsOk_zero (kids_two9 (sokQ _) (sokY _))
theorem sokB (n : Nat) : SetsOk n awB := by cases n; exact trivial; exact setsOk_zero (kids_one9 (sokC _))
theorem print_is (n : Nat) (x : Ex) (ko : Option Addr) (kc : Nat) (w : World) (v : ByteArray) (hv : ofL (prX n x) = v) (hx : PrOk n x) (hK : HasK w n ko x.kids) :
  Calls Try.prog 16 #[exv x ko kc] w fun e w' => e = .returned (.string v) ∧ Below w.heap.size w w' := by subst hv; exact print_any n x ko kc w hx hK
set_option maxRecDepth 1000000 in
set_option maxHeartbeats 12800000 in
theorem awake_any (w : World) : Calls Try.prog 14 #[] w fun e w' => e = .returned (.bool true) ∧ Below w.heap.size w w' := by
 obtain ⟨OS, hOS⟩ : ∃ OS : List Obj, OS = [.cells #[.int .i64 11, .string ⟨#[109, 58, 58, 97]⟩, .int .u64 0, .int .u64 0, .int .u64 0, .int .u64 0, .slice none 0 0] 28, .cells #[.int .i64 11, .string ⟨#[109, 58, 58, 97]⟩, .int .u64 0, .int .u64 0, .int .u64 0, .int .u64 0, .slice none 0 0] 28, .cells #[.int .i64 13, .string ⟨#[]⟩, .int .u64 0, .int .u64 0, .int .u64 0, .int .u64 0, .slice (some ⟨w.heap.size + 1, 0, none⟩) 1 1] 28, .cells #[.int .i64 13, .string ⟨#[]⟩, .int .u64 0, .int .u64 0, .int .u64 0, .int .u64 0, .slice (some ⟨w.heap.size + 1, 0, none⟩) 1 1, .int .i64 1, .string ⟨#[120]⟩, .int .u64 0, .int .u64 0, .int .u64 0, .int .u64 0, .slice none 0 0] 28, .cells #[.int .i64 4, .string ⟨#[]⟩, .int .u64 0, .int .u64 0, .int .u64 0, .int .u64 0, .slice (some ⟨w.heap.size + 1 + 1 + 1, 0, none⟩) 2 2] 28, .cells #[.int .i64 4, .string ⟨#[]⟩, .int .u64 0, .int .u64 0, .int .u64 0, .int .u64 0, .slice (some ⟨w.heap.size + 1 + 1 + 1, 0, none⟩) 2 2, .int .i64 3, .string ⟨#[]⟩, .int .u64 0, .int .u64 0, .int .u64 0, .int .u64 0, .slice none 0 0] 28, .cells #[.int .i64 5, .string ⟨#[]⟩, .int .u64 0, .int .u64 0, .int .u64 0, .int .u64 0, .slice (some ⟨w.heap.size + 1 + 1 + 1 + 1 + 1, 0, none⟩) 2 2] 28] := ⟨_, rfl⟩
 have h0 : Own (allocs9 w OS) (w.heap.size) 28 [.int .i64 11, .string ⟨#[109, 58, 58, 97]⟩, .int .u64 0, .int .u64 0, .int .u64 0, .int .u64 0, .slice none 0 0] := allocs_own9 OS w 0 _ _ (by rw [hOS]; rfl)
 have h1 : Own (allocs9 w OS) (w.heap.size + 1) 28 [.int .i64 11, .string ⟨#[109, 58, 58, 97]⟩, .int .u64 0, .int .u64 0, .int .u64 0, .int .u64 0, .slice none 0 0] := allocs_own9 OS w 1 _ _ (by rw [hOS]; rfl)
 have h2 : Own (allocs9 w OS) (w.heap.size + 1 + 1) 28 [.int .i64 13, .string ⟨#[]⟩, .int .u64 0, .int .u64 0, .int .u64 0, .int .u64 0, .slice (some ⟨w.heap.size + 1, 0, none⟩) 1 1] := allocs_own9 OS w 2 _ _ (by rw [hOS]; rfl)
 have h3 : Own (allocs9 w OS) (w.heap.size + 1 + 1 + 1) 28 [.int .i64 13, .string ⟨#[]⟩, .int .u64 0, .int .u64 0, .int .u64 0, .int .u64 0, .slice (some ⟨w.heap.size + 1, 0, none⟩) 1 1, .int .i64 1, .string ⟨#[120]⟩, .int .u64 0, .int .u64 0, .int .u64 0, .int .u64 0, .slice none 0 0] := allocs_own9 OS w 3 _ _ (by rw [hOS]; rfl)
 have h4 : Own (allocs9 w OS) (w.heap.size + 1 + 1 + 1 + 1) 28 [.int .i64 4, .string ⟨#[]⟩, .int .u64 0, .int .u64 0, .int .u64 0, .int .u64 0, .slice (some ⟨w.heap.size + 1 + 1 + 1, 0, none⟩) 2 2] := allocs_own9 OS w 4 _ _ (by rw [hOS]; rfl)
 have h5 : Own (allocs9 w OS) (w.heap.size + 1 + 1 + 1 + 1 + 1) 28 [.int .i64 4, .string ⟨#[]⟩, .int .u64 0, .int .u64 0, .int .u64 0, .int .u64 0, .slice (some ⟨w.heap.size + 1 + 1 + 1, 0, none⟩) 2 2, .int .i64 3, .string ⟨#[]⟩, .int .u64 0, .int .u64 0, .int .u64 0, .int .u64 0, .slice none 0 0] := allocs_own9 OS w 5 _ _ (by rw [hOS]; rfl)
 have h6 : Own (allocs9 w OS) (w.heap.size + 1 + 1 + 1 + 1 + 1 + 1) 28 [.int .i64 5, .string ⟨#[]⟩, .int .u64 0, .int .u64 0, .int .u64 0, .int .u64 0, .slice (some ⟨w.heap.size + 1 + 1 + 1 + 1 + 1, 0, none⟩) 2 2] := allocs_own9 OS w 6 _ _ (by rw [hOS]; rfl)
 have hb0 : Below w.heap.size w (allocs9 w OS) := allocs_below9 w OS w (Below.refl _ _)
 have hW : ((((((w.alloc (.cells #[.int .i64 11, .string ⟨#[109, 58, 58, 97]⟩, .int .u64 0, .int .u64 0, .int .u64 0, .int .u64 0, .slice none 0 0] 28)).alloc (.cells #[.int .i64 11, .string ⟨#[109, 58, 58, 97]⟩, .int .u64 0, .int .u64 0, .int .u64 0, .int .u64 0, .slice none 0 0] 28)).alloc (.cells #[.int .i64 13, .string ⟨#[]⟩, .int .u64 0, .int .u64 0, .int .u64 0, .int .u64 0, .slice (some ⟨w.heap.size + 1, 0, none⟩) 1 1] 28)).alloc (.cells #[.int .i64 13, .string ⟨#[]⟩, .int .u64 0, .int .u64 0, .int .u64 0, .int .u64 0, .slice (some ⟨w.heap.size + 1, 0, none⟩) 1 1, .int .i64 1, .string ⟨#[120]⟩, .int .u64 0, .int .u64 0, .int .u64 0, .int .u64 0, .slice none 0 0] 28)).alloc (.cells #[.int .i64 4, .string ⟨#[]⟩, .int .u64 0, .int .u64 0, .int .u64 0, .int .u64 0, .slice (some ⟨w.heap.size + 1 + 1 + 1, 0, none⟩) 2 2] 28)).alloc (.cells #[.int .i64 4, .string ⟨#[]⟩, .int .u64 0, .int .u64 0, .int .u64 0, .int .u64 0, .slice (some ⟨w.heap.size + 1 + 1 + 1, 0, none⟩) 2 2, .int .i64 3, .string ⟨#[]⟩, .int .u64 0, .int .u64 0, .int .u64 0, .int .u64 0, .slice none 0 0] 28)).alloc (.cells #[.int .i64 5, .string ⟨#[]⟩, .int .u64 0, .int .u64 0, .int .u64 0, .int .u64 0, .slice (some ⟨w.heap.size + 1 + 1 + 1 + 1 + 1, 0, none⟩) 2 2] 28) = allocs9 w OS := by rw [hOS]; rfl
 clear hOS
 go_enter Try.func14, Try.ntmps14
 go_upto_region 5 with (fail)
 clear hW
 generalize allocs9 w OS = w1 at *
 have H0 := Lib.hid h0
 have H1 := Lib.hid h1
 have H2 := Lib.hid h2
 have H3 := Lib.hid h3
 have H4 := Lib.hid h4
 have H5 := Lib.hid h5
 have H6 := Lib.hid h6
 have HB := Lib.hid hb0
 clear h0 h1 h2 h3 h4 h5 h6 hb0
 obtain ⟨q0, q1, q2, q3, q4, q5, q6⟩ := H4.out.seven
 go_wp2_with fail
 refine (print_is 3 awQ (some ⟨w.heap.size + 1 + 1 + 1, 0, none⟩) 2 _ ⟨#[126, 109, 58, 58, 97, 126, 32, 34, 120, 34]⟩ (by decide +kernel) ⟨tame_grt (by decide +kernel), sokQ _, rm_wt _ _ (tame_grt (by decide +kernel)) (by decide +kernel)⟩ ((HasK.two (x := awS) (y := awL) (ko := some ⟨w.heap.size + 1, 0, none⟩) (kc := 1) (lo := none) (lc := 0) H3.out (HasK.one (x := awA) (ko := none) (kc := 0) H1.out (HasK.nil _ 0 _)) (HasK.nil _ _ _)).more)).mono ?_
 rintro e w2 ⟨rfl, hb⟩
 have I0 := Lib.hid (own_move H0.out hb)
 have I1 := Lib.hid (own_move H1.out hb)
 have I2 := Lib.hid (own_move H2.out hb)
 have I3 := Lib.hid (own_move H3.out hb)
 have I4 := Lib.hid (own_move H4.out hb)
 have I5 := Lib.hid (own_move H5.out hb)
 have I6 := Lib.hid (own_move H6.out hb)
 have IB := Lib.hid (keepb HB.out hb)
 clear hb H0 H1 H2 H3 H4 H5 H6 HB q0 q1 q2 q3 q4 q5 q6
 obtain ⟨q0, q1, q2, q3, q4, q5, q6⟩ := I6.out.seven
 go_wp2_with fail
 refine (print_is 4 awC (some ⟨w.heap.size + 1 + 1 + 1 + 1 + 1, 0, none⟩) 2 _ ⟨#[126, 109, 58, 58, 97, 126, 32, 34, 120, 34, 32, 47, 32, 46]⟩ (by decide +kernel) ⟨tame_grt (by decide +kernel), sokC _, rm_wt _ _ (tame_grt (by decide +kernel)) (by decide +kernel)⟩ ((HasK.two (x := awQ) (y := awY) (ko := some ⟨w.heap.size + 1 + 1 + 1, 0, none⟩) (kc := 2) (lo := none) (lc := 0) I5.out (HasK.two (x := awS) (y := awL) (ko := some ⟨w.heap.size + 1, 0, none⟩) (kc := 1) (lo := none) (lc := 0) I3.out (HasK.one (x := awA) (ko := none) (kc := 0) I1.out (HasK.nil _ 0 _)) (HasK.nil _ _ _)) (HasK.nil _ _ _)).more)).mono ?_
 rintro e w3 ⟨rfl, hb⟩
 have J0 := Lib.hid (own_move I0.out hb)
 have J1 := Lib.hid (own_move I1.out hb)
 have J2 := Lib.hid (own_move I2.out hb)
 have J3 := Lib.hid (own_move I3.out hb)
 have J4 := Lib.hid (own_move I4.out hb)
 have J5 := Lib.hid (own_move I5.out hb)
 have J6 := Lib.hid (own_move I6.out hb)
 have JB := Lib.hid (keepb IB.out hb)
 clear hb I0 I1 I2 I3 I4 I5 I6 IB q0 q1 q2 q3 q4 q5 q6
 obtain ⟨q0, q1, q2, q3, q4, q5, q6⟩ := J2.out.seven
 have K0 := Lib.hid (J0.out.on_alloc (.cells #[.int .i64 13, .string ⟨#[]⟩, .int .u64 0, .int .u64 0, .int .u64 0, .int .u64 0, .slice (some ⟨w.heap.size + 1, 0, none⟩) 1 1] 28))
 have K1 := Lib.hid (J1.out.on_alloc (.cells #[.int .i64 13, .string ⟨#[]⟩, .int .u64 0, .int .u64 0, .int .u64 0, .int .u64 0, .slice (some ⟨w.heap.size + 1, 0, none⟩) 1 1] 28))
 have K2 := Lib.hid (J2.out.on_alloc (.cells #[.int .i64 13, .string ⟨#[]⟩, .int .u64 0, .int .u64 0, .int .u64 0, .int .u64 0, .slice (some ⟨w.heap.size + 1, 0, none⟩) 1 1] 28))
 have K3 := Lib.hid (J3.out.on_alloc (.cells #[.int .i64 13, .string ⟨#[]⟩, .int .u64 0, .int .u64 0, .int .u64 0, .int .u64 0, .slice (some ⟨w.heap.size + 1, 0, none⟩) 1 1] 28))
 have K4 := Lib.hid (J4.out.on_alloc (.cells #[.int .i64 13, .string ⟨#[]⟩, .int .u64 0, .int .u64 0, .int .u64 0, .int .u64 0, .slice (some ⟨w.heap.size + 1, 0, none⟩) 1 1] 28))
 have K5 := Lib.hid (J5.out.on_alloc (.cells #[.int .i64 13, .string ⟨#[]⟩, .int .u64 0, .int .u64 0, .int .u64 0, .int .u64 0, .slice (some ⟨w.heap.size + 1, 0, none⟩) 1 1] 28))
 have K6 := Lib.hid (J6.out.on_alloc (.cells #[.int .i64 13, .string ⟨#[]⟩, .int .u64 0, .int .u64 0, .int .u64 0, .int .u64 0, .slice (some ⟨w.heap.size + 1, 0, none⟩) 1 1] 28))
 have KB := Lib.hid (JB.out.alloc JB.out.size (.cells #[.int .i64 13, .string ⟨#[]⟩, .int .u64 0, .int .u64 0, .int .u64 0, .int .u64 0, .slice (some ⟨w.heap.size + 1, 0, none⟩) 1 1] 28))
 have KN := Lib.hid (Own.fresh w3 28 [.int .i64 13, .string ⟨#[]⟩, .int .u64 0, .int .u64 0, .int .u64 0, .int .u64 0, .slice (some ⟨w.heap.size + 1, 0, none⟩) 1 1])
 clear J0 J1 J2 J3 J4 J5 J6 JB
 go_wp2_with fail
 refine (print_is 3 awT (some ⟨w3.heap.size, 0, none⟩) 1 _ ⟨#[40, 126, 109, 58, 58, 97, 126, 41, 42]⟩ (by decide +kernel) ⟨tame_grt (by decide +kernel), sokT _, rm_wt _ _ (tame_grt (by decide +kernel)) (by decide +kernel)⟩ ((HasK.one (x := awS) (ko := some ⟨w.heap.size + 1, 0, none⟩) (kc := 1) KN.out (HasK.one (x := awA) (ko := none) (kc := 0) K1.out (HasK.nil _ 0 _))).more)).mono ?_
 rintro e w4 ⟨rfl, hb⟩
 have L0 := Lib.hid (own_move K0.out hb)
 have L1 := Lib.hid (own_move K1.out hb)
 have L2 := Lib.hid (own_move K2.out hb)
 have L3 := Lib.hid (own_move K3.out hb)
 have L4 := Lib.hid (own_move K4.out hb)
 have L5 := Lib.hid (own_move K5.out hb)
 have L6 := Lib.hid (own_move K6.out hb)
 have LB := Lib.hid (keepb KB.out hb)
 clear hb K0 K1 K2 K3 K4 K5 K6 KB q0 q1 q2 q3 q4 q5 q6 KN
 obtain ⟨q0, q1, q2, q3, q4, q5, q6⟩ := L6.out.seven
 have M0 := Lib.hid (L0.out.on_alloc (.cells #[.int .i64 5, .string ⟨#[]⟩, .int .u64 0, .int .u64 0, .int .u64 0, .int .u64 0, .slice (some ⟨w.heap.size + 1 + 1 + 1 + 1 + 1, 0, none⟩) 2 2] 28))
 have M1 := Lib.hid (L1.out.on_alloc (.cells #[.int .i64 5, .string ⟨#[]⟩, .int .u64 0, .int .u64 0, .int .u64 0, .int .u64 0, .slice (some ⟨w.heap.size + 1 + 1 + 1 + 1 + 1, 0, none⟩) 2 2] 28))
 have M2 := Lib.hid (L2.out.on_alloc (.cells #[.int .i64 5, .string ⟨#[]⟩, .int .u64 0, .int .u64 0, .int .u64 0, .int .u64 0, .slice (some ⟨w.heap.size + 1 + 1 + 1 + 1 + 1, 0, none⟩) 2 2] 28))
 have M3 := Lib.hid (L3.out.on_alloc (.cells #[.int .i64 5, .string ⟨#[]⟩, .int .u64 0, .int .u64 0, .int .u64 0, .int .u64 0, .slice (some ⟨w.heap.size + 1 + 1 + 1 + 1 + 1, 0, none⟩) 2 2] 28))
 have M4 := Lib.hid (L4.out.on_alloc (.cells #[.int .i64 5, .string ⟨#[]⟩, .int .u64 0, .int .u64 0, .int .u64 0, .int .u64 0, .slice (some ⟨w.heap.size + 1 + 1 + 1 + 1 + 1, 0, none⟩) 2 2] 28))
 have M5 := Lib.hid (L5.out.on_alloc (.cells #[.int .i64 5, .string ⟨#[]⟩, .int .u64 0, .int .u64 0, .int .u64 0, .int .u64 0, .slice (some ⟨w.heap.size + 1 + 1 + 1 + 1 + 1, 0, none⟩) 2 2] 28))
 have M6 := Lib.hid (L6.out.on_alloc (.cells #[.int .i64 5, .string ⟨#[]⟩, .int .u64 0, .int .u64 0, .int .u64 0, .int .u64 0, .slice (some ⟨w.heap.size + 1 + 1 + 1 + 1 + 1, 0, none⟩) 2 2] 28))
 have MB := Lib.hid (LB.out.alloc LB.out.size (.cells #[.int .i64 5, .string ⟨#[]⟩, .int .u64 0, .int .u64 0, .int .u64 0, .int .u64 0, .slice (some ⟨w.heap.size + 1 + 1 + 1 + 1 + 1, 0, none⟩) 2 2] 28))
 have MN := Lib.hid (Own.fresh w4 28 [.int .i64 5, .string ⟨#[]⟩, .int .u64 0, .int .u64 0, .int .u64 0, .int .u64 0, .slice (some ⟨w.heap.size + 1 + 1 + 1 + 1 + 1, 0, none⟩) 2 2])
 clear L0 L1 L2 L3 L4 L5 L6 LB
 go_wp2_with fail
 refine (print_is 5 awB (some ⟨w4.heap.size, 0, none⟩) 1 _ ⟨#[108, 58, 40, 126, 109, 58, 58, 97, 126, 32, 34, 120, 34, 32, 47, 32, 46, 41]⟩ (by decide +kernel) ⟨tame_grt (by decide +kernel), sokB _, rm_wt _ _ (tame_grt (by decide +kernel)) (by decide +kernel)⟩ ((HasK.one (x := awC) (ko := some ⟨w.heap.size + 1 + 1 + 1 + 1 + 1, 0, none⟩) (kc := 2) MN.out (HasK.two (x := awQ) (y := awY) (ko := some ⟨w.heap.size + 1 + 1 + 1, 0, none⟩) (kc := 2) (lo := none) (lc := 0) M5.out (HasK.two (x := awS) (y := awL) (ko := some ⟨w.heap.size + 1, 0, none⟩) (kc := 1) (lo := none) (lc := 0) M3.out (HasK.one (x := awA) (ko := none) (kc := 0) M1.out (HasK.nil _ 0 _)) (HasK.nil _ _ _)) (HasK.nil _ _ _))).more)).mono ?_
 rintro e w5 ⟨rfl, hb⟩
 have N0 := Lib.hid (own_move M0.out hb)
 have N1 := Lib.hid (own_move M1.out hb)
 have N2 := Lib.hid (own_move M2.out hb)
 have N3 := Lib.hid (own_move M3.out hb)
 have N4 := Lib.hid (own_move M4.out hb)
 have N5 := Lib.hid (own_move M5.out hb)
 have N6 := Lib.hid (own_move M6.out hb)
 have NB := Lib.hid (keepb MB.out hb)
 clear hb M0 M1 M2 M3 M4 M5 M6 MB q0 q1 q2 q3 q4 q5 q6 MN
 obtain ⟨q0, q1, q2, q3, q4, q5, q6⟩ := N0.out.seven
 have O0 := Lib.hid (N0.out.on_alloc (.cells #[.int .i64 11, .string ⟨#[109, 58, 58, 97]⟩, .int .u64 0, .int .u64 0, .int .u64 0, .int .u64 0, .slice none 0 0] 28))
 have O1 := Lib.hid (N1.out.on_alloc (.cells #[.int .i64 11, .string ⟨#[109, 58, 58, 97]⟩, .int .u64 0, .int .u64 0, .int .u64 0, .int .u64 0, .slice none 0 0] 28))
 have O2 := Lib.hid (N2.out.on_alloc (.cells #[.int .i64 11, .string ⟨#[109, 58, 58, 97]⟩, .int .u64 0, .int .u64 0, .int .u64 0, .int .u64 0, .slice none 0 0] 28))
 have O3 := Lib.hid (N3.out.on_alloc (.cells #[.int .i64 11, .string ⟨#[109, 58, 58, 97]⟩, .int .u64 0, .int .u64 0, .int .u64 0, .int .u64 0, .slice none 0 0] 28))
 have O4 := Lib.hid (N4.out.on_alloc (.cells #[.int .i64 11, .string ⟨#[109, 58, 58, 97]⟩, .int .u64 0, .int .u64 0, .int .u64 0, .int .u64 0, .slice none 0 0] 28))
 have O5 := Lib.hid (N5.out.on_alloc (.cells #[.int .i64 11, .string ⟨#[109, 58, 58, 97]⟩, .int .u64 0, .int .u64 0, .int .u64 0, .int .u64 0, .slice none 0 0] 28))
 have O6 := Lib.hid (N6.out.on_alloc (.cells #[.int .i64 11, .string ⟨#[109, 58, 58, 97]⟩, .int .u64 0, .int .u64 0, .int .u64 0, .int .u64 0, .slice none 0 0] 28))
 have OB := Lib.hid (NB.out.alloc NB.out.size (.cells #[.int .i64 11, .string ⟨#[109, 58, 58, 97]⟩, .int .u64 0, .int .u64 0, .int .u64 0, .int .u64 0, .slice none 0 0] 28))
 have ON := Lib.hid (Own.fresh w5 28 [.int .i64 11, .string ⟨#[109, 58, 58, 97]⟩, .int .u64 0, .int .u64 0, .int .u64 0, .int .u64 0, .slice none 0 0])
 clear N0 N1 N2 N3 N4 N5 N6 NB
 have OM := Lib.hid (ON.out.on_alloc (.cells #[.int .i64 7, .string ⟨#[]⟩, .int .u64 0, .int .u64 0, .int .u64 0, .int .u64 0, .slice (some ⟨w5.heap.size, 0, none⟩) 1 1] 28))
 have ON2 := Lib.hid (show Own ((w5.alloc (.cells #[.int .i64 11, .string ⟨#[109, 58, 58, 97]⟩, .int .u64 0, .int .u64 0, .int .u64 0, .int .u64 0, .slice none 0 0] 28)).alloc (.cells #[.int .i64 7, .string ⟨#[]⟩, .int .u64 0, .int .u64 0, .int .u64 0, .int .u64 0, .slice (some ⟨w5.heap.size, 0, none⟩) 1 1] 28)) (w5.heap.size + 1) 28 [.int .i64 7, .string ⟨#[]⟩, .int .u64 0, .int .u64 0, .int .u64 0, .int .u64 0, .slice (some ⟨w5.heap.size, 0, none⟩) 1 1] from Own.fresh' (by simp) 28 _)
 have OB2 := Lib.hid (OB.out.alloc OB.out.size (.cells #[.int .i64 7, .string ⟨#[]⟩, .int .u64 0, .int .u64 0, .int .u64 0, .int .u64 0, .slice (some ⟨w5.heap.size, 0, none⟩) 1 1] 28))
 clear O0 O1 O2 O3 O4 O5 O6 OB ON
 go_wp2_with fail
 refine (print_is 3 awZ (some ⟨w5.heap.size + 1, 0, none⟩) 1 _ ⟨#[126, 109, 58, 58, 97, 43, 126]⟩ (by decide +kernel) ⟨tame_grt (by decide +kernel), sokZ _, rm_wt _ _ (tame_grt (by decide +kernel)) (by decide +kernel)⟩ ((HasK.one (x := awP) (ko := some ⟨w5.heap.size, 0, none⟩) (kc := 1) ON2.out (HasK.one (x := awA) (ko := none) (kc := 0) OM.out (HasK.nil _ 0 _))).more)).mono ?_
 rintro e w6 ⟨rfl, hb⟩
 have PB := Lib.hid (keepb OB2.out hb)
 clear hb OB2 OM ON2 q0 q1 q2 q3 q4 q5 q6
 go_wp2_with fail
 refine (print_is 1 aw0 none 0 _ ⟨#[]⟩ (by decide +kernel) ⟨tame_grt (by decide +kernel), sok0 _, rm_wt _ _ (tame_grt (by decide +kernel)) (by decide +kernel)⟩ (HasK.nil _ _ _)).mono ?_
 rintro e w7 ⟨rfl, hb⟩
 have QB := Lib.hid (keepb PB.out hb)
 clear hb PB
 go_wp2
 go_ret
 exact ⟨rfl, QB.out⟩
end Go.Proofs.Ytonknapfndaalaa
