/- The law's own word awake of layer 6. -/
import Derived.Test.YtinkgidncdjapacAwake06
import Derived.Deep.CutBlock
namespace Go.Proofs.Ytinkgidncdjapac
set_option linter.unusedVariables false
open Go.RowKit Go.Sort

def exA : Ex := .mk 1 ⟨#[120]⟩ 0 0 0 0 []
def exB : Ex := .mk 6 ⟨#[]⟩ 0 0 0 0 [exA]
def exC : Ex := .mk 4 ⟨#[]⟩ 0 0 0 0 [exA, exB]
def exD : Nat → Ex
  | 0 => exA
  | n + 1 => .mk 8 ⟨#[]⟩ 0 0 0 0 [exD n]
def ex0 : Ex := .mk 0 ⟨#[]⟩ 0 0 0 0 []
theorem deep_is (n : Nat) (hn : n ≤ 18) (x : Ex) (ko : Option Addr) (kc : Nat) (w : World) (v : Int) (hv : deepX n x = v) (hf : grt n x = false) (hK : HasK w n ko x.kids) :
    Calls Try.prog 12 #[exv x ko kc] w fun e w' => e = .returned (.int .i64 v) ∧ Below w.heap.size w w' := by subst hv; exact deep_any n hn x ko kc w hf hK
theorem size_is (n : Nat) (hn : n ≤ 18) (x : Ex) (ko : Option Addr) (kc : Nat) (w : World) (v : Int) (hv : sizeX n x = v) (hf : grt n x = false) (hK : HasK w n ko x.kids) :
    Calls Try.prog 14 #[exv x ko kc] w fun e w' => e = .returned (.int .i64 v) ∧ Below w.heap.size w w' := by subst hv; exact size_any n hn x ko kc w hf hK
theorem right_is (n : Nat) (hn : n ≤ 18) (x : Ex) (ko : Option Addr) (kc : Nat) (w : World) (v : Bool) (hv : rightX n x = v) (hf : grt n x = false) (hK : HasK w n ko x.kids) (hm : Mx w) :
    Calls Try.prog 16 #[exv x ko kc] w fun e w' => e = .returned (.bool v) ∧ Below w.heap.size w w' := by subst hv; exact right_any n hn x ko kc w hf hK hm
theorem same_is (n : Nat) (x y : Ex) (k1 k2 : Option Addr) (kc lc : Nat) (w : World) (v : Bool) (hv : sameX n x y = v) (hf : grt n x = false) (hg : grt n y = false) (hK : HasK w n k1 x.kids) (hL : HasK w n k2 y.kids) :
    Calls Try.prog 18 #[exv x k1 kc, exv y k2 lc] w fun e w' => e = .returned (.bool v) ∧ Below w.heap.size w w' := by subst hv; exact same_any n x y k1 k2 kc lc w hf hg hK hL
theorem split_is (s : ByteArray) (hs : s.size ≤ 1000000) (m r : ByteArray) (b : Bool) (hm : splitM s = m) (hr : splitR s = r) (hb : splitB s = b) (w : World) (hx : Mx w) : Calls Try.prog 8 #[.string s] w
    fun e w' => e = .returned (.tuple #[.string m, .string r, .bool b]) ∧ Below w.heap.size w w' := by subst hm hr hb; exact split_any s hs w hx
def set7 (w : World) (g : Nat) (u0 u1 u2 u3 u4 u5 u6 : Value) : World := ((((((w.setCell ⟨g, 0, none⟩ u0).setCell ⟨g, 1, none⟩ u1).setCell ⟨g, 2, none⟩ u2).setCell ⟨g, 3, none⟩ u3).setCell ⟨g, 4, none⟩ u4).setCell ⟨g, 5, none⟩ u5).setCell ⟨g, 6, none⟩ u6
theorem set7_size (w : World) (g : Nat) (u0 u1 u2 u3 u4 u5 u6 : Value) : (set7 w g u0 u1 u2 u3 u4 u5 u6).heap.size = w.heap.size := by simp [set7, World.setCell]
theorem step_world {wr w5 : World} {g : Nat} {x : Ex} {ko : Option Addr} {kc m : Nat} {o s0 s1 s2 s3 : Int} {t : ByteArray} (hP : Own wr g 27 (exrow x ko kc))
    (hrow : exrow x ko kc = [.int .i64 o, .string t, .int .u64 s0, .int .u64 s1, .int .u64 s2, .int .u64 s3, .slice ko m kc]) (hs : w5.heap.size ≤ wr.heap.size) :
    Own ((set7 wr g (.int .i64 8) (.string ⟨#[]⟩) (.int .u64 0) (.int .u64 0) (.int .u64 0) (.int .u64 0) (.slice (some ⟨wr.heap.size, 0, none⟩) 1 1)).alloc (.cells #[.int .i64 o, .string t, .int .u64 s0, .int .u64 s1, .int .u64 s2, .int .u64 s3, .slice ko m kc] 27)) g 27 [.int .i64 8, .string ⟨#[]⟩, .int .u64 0, .int .u64 0, .int .u64 0, .int .u64 0, .slice (some ⟨wr.heap.size, 0, none⟩) 1 1] ∧
    But (fun k => k = g) wr ((set7 wr g (.int .i64 8) (.string ⟨#[]⟩) (.int .u64 0) (.int .u64 0) (.int .u64 0) (.int .u64 0) (.slice (some ⟨wr.heap.size, 0, none⟩) 1 1)).alloc (.cells #[.int .i64 o, .string t, .int .u64 s0, .int .u64 s1, .int .u64 s2, .int .u64 s3, .slice ko m kc] 27)) ∧
    Own ((set7 wr g (.int .i64 8) (.string ⟨#[]⟩) (.int .u64 0) (.int .u64 0) (.int .u64 0) (.int .u64 0) (.slice (some ⟨wr.heap.size, 0, none⟩) 1 1)).alloc (.cells #[.int .i64 o, .string t, .int .u64 s0, .int .u64 s1, .int .u64 s2, .int .u64 s3, .slice ko m kc] 27)) wr.heap.size 27 (exrow x ko kc) := by
  have h1 := (((((((hP.put 0 (.int .i64 8)).put 1 (.string ⟨#[]⟩)).put 2 (.int .u64 0)).put 3 (.int .u64 0)).put 4 (.int .u64 0)).put 5 (.int .u64 0)).put 6 (.slice (some ⟨wr.heap.size, 0, none⟩) 1 1)).on_alloc (.cells #[.int .i64 o, .string t, .int .u64 s0, .int .u64 s1, .int .u64 s2, .int .u64 s3, .slice ko m kc] 27)
  refine ⟨h1, ?_, ?_⟩
  · exact ((((((((But.refl (fun k => k = g) wr).setCell (p := ⟨g, 0, none⟩) (fun _ => rfl) _).setCell (p := ⟨g, 1, none⟩) (fun _ => rfl) _).setCell (p := ⟨g, 2, none⟩) (fun _ => rfl) _).setCell (p := ⟨g, 3, none⟩) (fun _ => rfl) _).setCell (p := ⟨g, 4, none⟩) (fun _ => rfl) _).setCell (p := ⟨g, 5, none⟩) (fun _ => rfl) _).setCell (p := ⟨g, 6, none⟩) (fun _ => rfl) _).alloc _
  · rw [hrow]
    exact Own.fresh' (set7_size wr g _ _ _ _ _ _ _).symm _ _
theorem hasC {W : World} {g : Nat} (hs : Own W (g + 1) 27 (exrow exA none 0)) (ht : Own W (g + 1 + 1 + 1) 27 (exrow exA none 0 ++ exrow exB (some ⟨g + 1, 0, none⟩) 1)) : HasK W 14 (some ⟨g + 1 + 1 + 1, 0, none⟩) exC.kids :=
  HasK.two ht (HasK.nil _ _ _) (HasK.one (n := 12) hs (HasK.nil _ _ _))
theorem own_move {w w' : World} {g : Nat} {t : TypeId} {cs : List Value} (h : Own w g t cs) (hb : Below w.heap.size w w') : Own w' g t cs := h.under hb h.lt

set_option maxRecDepth 1000000 in
set_option maxHeartbeats 12800000 in
theorem awake_any (w : World) (hm : Mx w) : Calls Try.prog 7 #[] w fun e w' => e = .returned (.bool true) ∧ Below w.heap.size w w' := by
  have HM0 := Lib.hid hm
  clear hm
  have hb0 : Below w.heap.size w (((((w.alloc (.cells #[.int .i64 1, .string ⟨#[120]⟩, .int .u64 0, .int .u64 0, .int .u64 0, .int .u64 0, .slice none 0 0] 27)).alloc (.cells #[.int .i64 1, .string ⟨#[120]⟩, .int .u64 0, .int .u64 0, .int .u64 0, .int .u64 0, .slice none 0 0] 27)).alloc (.cells #[.int .i64 6, .string ⟨#[]⟩, .int .u64 0, .int .u64 0, .int .u64 0, .int .u64 0, .slice (some ⟨w.heap.size + 1, 0, none⟩) 1 1] 27)).alloc (.cells #[.int .i64 1, .string ⟨#[120]⟩, .int .u64 0, .int .u64 0, .int .u64 0, .int .u64 0, .slice none 0 0, .int .i64 6, .string ⟨#[]⟩, .int .u64 0, .int .u64 0, .int .u64 0, .int .u64 0, .slice (some ⟨w.heap.size + 1, 0, none⟩) 1 1] 27)).alloc (.cells #[.int .i64 4, .string ⟨#[]⟩, .int .u64 0, .int .u64 0, .int .u64 0, .int .u64 0, .slice (some ⟨w.heap.size + 1 + 1 + 1, 0, none⟩) 2 2] 27)) := (((((Below.refl _ _).alloc (Nat.le_refl _) _).alloc (by simp) _).alloc (by simp; omega) _).alloc (by simp; omega) _).alloc (by simp; omega) _
  have ha : Own (((((w.alloc (.cells #[.int .i64 1, .string ⟨#[120]⟩, .int .u64 0, .int .u64 0, .int .u64 0, .int .u64 0, .slice none 0 0] 27)).alloc (.cells #[.int .i64 1, .string ⟨#[120]⟩, .int .u64 0, .int .u64 0, .int .u64 0, .int .u64 0, .slice none 0 0] 27)).alloc (.cells #[.int .i64 6, .string ⟨#[]⟩, .int .u64 0, .int .u64 0, .int .u64 0, .int .u64 0, .slice (some ⟨w.heap.size + 1, 0, none⟩) 1 1] 27)).alloc (.cells #[.int .i64 1, .string ⟨#[120]⟩, .int .u64 0, .int .u64 0, .int .u64 0, .int .u64 0, .slice none 0 0, .int .i64 6, .string ⟨#[]⟩, .int .u64 0, .int .u64 0, .int .u64 0, .int .u64 0, .slice (some ⟨w.heap.size + 1, 0, none⟩) 1 1] 27)).alloc (.cells #[.int .i64 4, .string ⟨#[]⟩, .int .u64 0, .int .u64 0, .int .u64 0, .int .u64 0, .slice (some ⟨w.heap.size + 1 + 1 + 1, 0, none⟩) 2 2] 27)) w.heap.size 27 [.int .i64 1, .string ⟨#[120]⟩, .int .u64 0, .int .u64 0, .int .u64 0, .int .u64 0, .slice none 0 0] := ((((Own.fresh w 27 [.int .i64 1, .string ⟨#[120]⟩, .int .u64 0, .int .u64 0, .int .u64 0, .int .u64 0, .slice none 0 0]).on_alloc _).on_alloc _).on_alloc _).on_alloc _
  have hsa : Own (((((w.alloc (.cells #[.int .i64 1, .string ⟨#[120]⟩, .int .u64 0, .int .u64 0, .int .u64 0, .int .u64 0, .slice none 0 0] 27)).alloc (.cells #[.int .i64 1, .string ⟨#[120]⟩, .int .u64 0, .int .u64 0, .int .u64 0, .int .u64 0, .slice none 0 0] 27)).alloc (.cells #[.int .i64 6, .string ⟨#[]⟩, .int .u64 0, .int .u64 0, .int .u64 0, .int .u64 0, .slice (some ⟨w.heap.size + 1, 0, none⟩) 1 1] 27)).alloc (.cells #[.int .i64 1, .string ⟨#[120]⟩, .int .u64 0, .int .u64 0, .int .u64 0, .int .u64 0, .slice none 0 0, .int .i64 6, .string ⟨#[]⟩, .int .u64 0, .int .u64 0, .int .u64 0, .int .u64 0, .slice (some ⟨w.heap.size + 1, 0, none⟩) 1 1] 27)).alloc (.cells #[.int .i64 4, .string ⟨#[]⟩, .int .u64 0, .int .u64 0, .int .u64 0, .int .u64 0, .slice (some ⟨w.heap.size + 1 + 1 + 1, 0, none⟩) 2 2] 27)) (w.heap.size + 1) 27 [.int .i64 1, .string ⟨#[120]⟩, .int .u64 0, .int .u64 0, .int .u64 0, .int .u64 0, .slice none 0 0] := (((Own.fresh' (w := w.alloc (.cells #[.int .i64 1, .string ⟨#[120]⟩, .int .u64 0, .int .u64 0, .int .u64 0, .int .u64 0, .slice none 0 0] 27)) (by simp) 27 [.int .i64 1, .string ⟨#[120]⟩, .int .u64 0, .int .u64 0, .int .u64 0, .int .u64 0, .slice none 0 0]).on_alloc _).on_alloc _).on_alloc _
  have hb : Own (((((w.alloc (.cells #[.int .i64 1, .string ⟨#[120]⟩, .int .u64 0, .int .u64 0, .int .u64 0, .int .u64 0, .slice none 0 0] 27)).alloc (.cells #[.int .i64 1, .string ⟨#[120]⟩, .int .u64 0, .int .u64 0, .int .u64 0, .int .u64 0, .slice none 0 0] 27)).alloc (.cells #[.int .i64 6, .string ⟨#[]⟩, .int .u64 0, .int .u64 0, .int .u64 0, .int .u64 0, .slice (some ⟨w.heap.size + 1, 0, none⟩) 1 1] 27)).alloc (.cells #[.int .i64 1, .string ⟨#[120]⟩, .int .u64 0, .int .u64 0, .int .u64 0, .int .u64 0, .slice none 0 0, .int .i64 6, .string ⟨#[]⟩, .int .u64 0, .int .u64 0, .int .u64 0, .int .u64 0, .slice (some ⟨w.heap.size + 1, 0, none⟩) 1 1] 27)).alloc (.cells #[.int .i64 4, .string ⟨#[]⟩, .int .u64 0, .int .u64 0, .int .u64 0, .int .u64 0, .slice (some ⟨w.heap.size + 1 + 1 + 1, 0, none⟩) 2 2] 27)) (w.heap.size + 1 + 1) 27 [.int .i64 6, .string ⟨#[]⟩, .int .u64 0, .int .u64 0, .int .u64 0, .int .u64 0, .slice (some ⟨w.heap.size + 1, 0, none⟩) 1 1] := ((Own.fresh' (w := (w.alloc (.cells #[.int .i64 1, .string ⟨#[120]⟩, .int .u64 0, .int .u64 0, .int .u64 0, .int .u64 0, .slice none 0 0] 27)).alloc (.cells #[.int .i64 1, .string ⟨#[120]⟩, .int .u64 0, .int .u64 0, .int .u64 0, .int .u64 0, .slice none 0 0] 27)) (by simp) 27 [.int .i64 6, .string ⟨#[]⟩, .int .u64 0, .int .u64 0, .int .u64 0, .int .u64 0, .slice (some ⟨w.heap.size + 1, 0, none⟩) 1 1]).on_alloc _).on_alloc _
  have hsb : Own (((((w.alloc (.cells #[.int .i64 1, .string ⟨#[120]⟩, .int .u64 0, .int .u64 0, .int .u64 0, .int .u64 0, .slice none 0 0] 27)).alloc (.cells #[.int .i64 1, .string ⟨#[120]⟩, .int .u64 0, .int .u64 0, .int .u64 0, .int .u64 0, .slice none 0 0] 27)).alloc (.cells #[.int .i64 6, .string ⟨#[]⟩, .int .u64 0, .int .u64 0, .int .u64 0, .int .u64 0, .slice (some ⟨w.heap.size + 1, 0, none⟩) 1 1] 27)).alloc (.cells #[.int .i64 1, .string ⟨#[120]⟩, .int .u64 0, .int .u64 0, .int .u64 0, .int .u64 0, .slice none 0 0, .int .i64 6, .string ⟨#[]⟩, .int .u64 0, .int .u64 0, .int .u64 0, .int .u64 0, .slice (some ⟨w.heap.size + 1, 0, none⟩) 1 1] 27)).alloc (.cells #[.int .i64 4, .string ⟨#[]⟩, .int .u64 0, .int .u64 0, .int .u64 0, .int .u64 0, .slice (some ⟨w.heap.size + 1 + 1 + 1, 0, none⟩) 2 2] 27)) (w.heap.size + 1 + 1 + 1) 27 [.int .i64 1, .string ⟨#[120]⟩, .int .u64 0, .int .u64 0, .int .u64 0, .int .u64 0, .slice none 0 0, .int .i64 6, .string ⟨#[]⟩, .int .u64 0, .int .u64 0, .int .u64 0, .int .u64 0, .slice (some ⟨w.heap.size + 1, 0, none⟩) 1 1] := (Own.fresh' (w := ((w.alloc (.cells #[.int .i64 1, .string ⟨#[120]⟩, .int .u64 0, .int .u64 0, .int .u64 0, .int .u64 0, .slice none 0 0] 27)).alloc (.cells #[.int .i64 1, .string ⟨#[120]⟩, .int .u64 0, .int .u64 0, .int .u64 0, .int .u64 0, .slice none 0 0] 27)).alloc (.cells #[.int .i64 6, .string ⟨#[]⟩, .int .u64 0, .int .u64 0, .int .u64 0, .int .u64 0, .slice (some ⟨w.heap.size + 1, 0, none⟩) 1 1] 27)) (by simp) 27 [.int .i64 1, .string ⟨#[120]⟩, .int .u64 0, .int .u64 0, .int .u64 0, .int .u64 0, .slice none 0 0, .int .i64 6, .string ⟨#[]⟩, .int .u64 0, .int .u64 0, .int .u64 0, .int .u64 0, .slice (some ⟨w.heap.size + 1, 0, none⟩) 1 1]).on_alloc _
  have hc : Own (((((w.alloc (.cells #[.int .i64 1, .string ⟨#[120]⟩, .int .u64 0, .int .u64 0, .int .u64 0, .int .u64 0, .slice none 0 0] 27)).alloc (.cells #[.int .i64 1, .string ⟨#[120]⟩, .int .u64 0, .int .u64 0, .int .u64 0, .int .u64 0, .slice none 0 0] 27)).alloc (.cells #[.int .i64 6, .string ⟨#[]⟩, .int .u64 0, .int .u64 0, .int .u64 0, .int .u64 0, .slice (some ⟨w.heap.size + 1, 0, none⟩) 1 1] 27)).alloc (.cells #[.int .i64 1, .string ⟨#[120]⟩, .int .u64 0, .int .u64 0, .int .u64 0, .int .u64 0, .slice none 0 0, .int .i64 6, .string ⟨#[]⟩, .int .u64 0, .int .u64 0, .int .u64 0, .int .u64 0, .slice (some ⟨w.heap.size + 1, 0, none⟩) 1 1] 27)).alloc (.cells #[.int .i64 4, .string ⟨#[]⟩, .int .u64 0, .int .u64 0, .int .u64 0, .int .u64 0, .slice (some ⟨w.heap.size + 1 + 1 + 1, 0, none⟩) 2 2] 27)) (w.heap.size + 1 + 1 + 1 + 1) 27 [.int .i64 4, .string ⟨#[]⟩, .int .u64 0, .int .u64 0, .int .u64 0, .int .u64 0, .slice (some ⟨w.heap.size + 1 + 1 + 1, 0, none⟩) 2 2] := Own.fresh' (w := (((w.alloc (.cells #[.int .i64 1, .string ⟨#[120]⟩, .int .u64 0, .int .u64 0, .int .u64 0, .int .u64 0, .slice none 0 0] 27)).alloc (.cells #[.int .i64 1, .string ⟨#[120]⟩, .int .u64 0, .int .u64 0, .int .u64 0, .int .u64 0, .slice none 0 0] 27)).alloc (.cells #[.int .i64 6, .string ⟨#[]⟩, .int .u64 0, .int .u64 0, .int .u64 0, .int .u64 0, .slice (some ⟨w.heap.size + 1, 0, none⟩) 1 1] 27)).alloc (.cells #[.int .i64 1, .string ⟨#[120]⟩, .int .u64 0, .int .u64 0, .int .u64 0, .int .u64 0, .slice none 0 0, .int .i64 6, .string ⟨#[]⟩, .int .u64 0, .int .u64 0, .int .u64 0, .int .u64 0, .slice (some ⟨w.heap.size + 1, 0, none⟩) 1 1] 27)) (by simp) 27 [.int .i64 4, .string ⟨#[]⟩, .int .u64 0, .int .u64 0, .int .u64 0, .int .u64 0, .slice (some ⟨w.heap.size + 1 + 1 + 1, 0, none⟩) 2 2]
  go_enter Try.func7, Try.ntmps7
  go_wp2_with fail
  generalize ((((w.alloc (.cells #[.int .i64 1, .string ⟨#[120]⟩, .int .u64 0, .int .u64 0, .int .u64 0, .int .u64 0, .slice none 0 0] 27)).alloc (.cells #[.int .i64 1, .string ⟨#[120]⟩, .int .u64 0, .int .u64 0, .int .u64 0, .int .u64 0, .slice none 0 0] 27)).alloc (.cells #[.int .i64 6, .string ⟨#[]⟩, .int .u64 0, .int .u64 0, .int .u64 0, .int .u64 0, .slice (some ⟨w.heap.size + 1, 0, none⟩) 1 1] 27)).alloc (.cells #[.int .i64 1, .string ⟨#[120]⟩, .int .u64 0, .int .u64 0, .int .u64 0, .int .u64 0, .slice none 0 0, .int .i64 6, .string ⟨#[]⟩, .int .u64 0, .int .u64 0, .int .u64 0, .int .u64 0, .slice (some ⟨w.heap.size + 1, 0, none⟩) 1 1] 27)).alloc (.cells #[.int .i64 4, .string ⟨#[]⟩, .int .u64 0, .int .u64 0, .int .u64 0, .int .u64 0, .slice (some ⟨w.heap.size + 1 + 1 + 1, 0, none⟩) 2 2] 27) = w1 at *
  have HB1 := Lib.hid hb0
  have HA1 := Lib.hid ha
  have HS1 := Lib.hid hsa
  have HBB1 := Lib.hid hb
  have HT1 := Lib.hid hsb
  have HC1 := Lib.hid hc
  clear hb0 ha hsa hb hsb hc
  refine (split_is ⟨#[109, 58, 58, 114]⟩ (by decide) ⟨#[109]⟩ ⟨#[114]⟩ true (by decide +kernel) (by decide +kernel) (by decide +kernel) _ (HM0.out.below HB1.out)).mono ?_
  rintro e w2 ⟨rfl, hb2⟩
  have HB2 := Lib.hid (keepb HB1.out hb2)
  have HA2 := Lib.hid (own_move HA1.out hb2)
  have HS2 := Lib.hid (own_move HS1.out hb2)
  have HBB2 := Lib.hid (own_move HBB1.out hb2)
  have HT2 := Lib.hid (own_move HT1.out hb2)
  have HC2 := Lib.hid (own_move HC1.out hb2)
  clear hb2 HB1 HA1 HS1 HBB1 HT1 HC1
  go_wp2_with fail
  refine (split_is ⟨#[114]⟩ (by decide) ⟨#[]⟩ ⟨#[114]⟩ true (by decide +kernel) (by decide +kernel) (by decide +kernel) _ (HM0.out.below HB2.out)).mono ?_
  rintro e w3 ⟨rfl, hb3⟩
  have HB3 := Lib.hid (keepb HB2.out hb3)
  have HA3 := Lib.hid (own_move HA2.out hb3)
  have HS3 := Lib.hid (own_move HS2.out hb3)
  have HBB3 := Lib.hid (own_move HBB2.out hb3)
  have HT3 := Lib.hid (own_move HT2.out hb3)
  have HC3 := Lib.hid (own_move HC2.out hb3)
  clear hb3 HB2 HA2 HS2 HBB2 HT2 HC2
  go_wp2_with fail
  refine (split_is ⟨#[58, 58, 114]⟩ (by decide) ⟨#[]⟩ ⟨#[114]⟩ false (by decide +kernel) (by decide +kernel) (by decide +kernel) _ (HM0.out.below HB3.out)).mono ?_
  rintro e w4 ⟨rfl, hb4⟩
  have HB4 := Lib.hid (keepb HB3.out hb4)
  have HA4 := Lib.hid (own_move HA3.out hb4)
  have HS4 := Lib.hid (own_move HS3.out hb4)
  have HBB4 := Lib.hid (own_move HBB3.out hb4)
  have HT4 := Lib.hid (own_move HT3.out hb4)
  have HC4 := Lib.hid (own_move HC3.out hb4)
  clear hb4 HB3 HA3 HS3 HBB3 HT3 HC3
  obtain ⟨a0, a1, a2, a3, a4, a5, a6⟩ := HA4.out.seven
  go_wp2_with fail
  have hp5 := Own.fresh w4 27 [.int .i64 1, .string ⟨#[120]⟩, .int .u64 0, .int .u64 0, .int .u64 0, .int .u64 0, .slice none 0 0]
  have hb5 := below_box w4 (.cells #[.int .i64 1, .string ⟨#[120]⟩, .int .u64 0, .int .u64 0, .int .u64 0, .int .u64 0, .slice none 0 0] 27)
  generalize w4.alloc (.cells #[.int .i64 1, .string ⟨#[120]⟩, .int .u64 0, .int .u64 0, .int .u64 0, .int .u64 0, .slice none 0 0] 27) = w5 at *
  have HP5 := Lib.hid hp5
  clear hp5 a0 a1 a2 a3 a4 a5 a6
  have HG := Lib.hid (show w.heap.size + 1 + 1 + 1 + 1 < w4.heap.size from HC4.out.lt)
  have HWS := Lib.hid HB4.out.size
  have HB5 := Lib.hid (keepb HB4.out hb5)
  have HA5 := Lib.hid (own_move HA4.out hb5)
  have HS5 := Lib.hid (own_move HS4.out hb5)
  have HBB5 := Lib.hid (own_move HBB4.out hb5)
  have HT5 := Lib.hid (own_move HT4.out hb5)
  have HC5 := Lib.hid (own_move HC4.out hb5)
  clear hb5 HB4 HA4 HS4 HBB4 HT4 HC4
  go_loopw [14] (fun b14 wr => ∃ k : Nat, b14 = .int .i64 (k : Int) ∧ k ≤ 11 ∧ ∃ ko kc, Hid (Own wr w4.heap.size 27 (exrow (exD k) ko kc)) ∧ Hid (HasR (fun g => g ≠ w4.heap.size) wr k ko (exD k).kids) ∧ Hid (But (fun g => g = w4.heap.size) w5 wr))
    (fun b14 _ => 11 - (intOf b14).toNat)
  case atStart => exact ⟨0, rfl, by omega, none, 0, HP5, Lib.hid rfl, Lib.hid (But.refl _ _)⟩
  case round =>
    obtain ⟨k, rfl, hk, ko, kc, HP, HR, HX⟩ := hrel
    clear HP5
    by_cases h2 : (k : Int) < 11
    · obtain ⟨p0, p1, p2, p3, p4, p5, p6⟩ := HP.out.seven
      obtain ⟨o, ho⟩ : ∃ o, (exD k).op = o := ⟨_, rfl⟩
      obtain ⟨t, ht⟩ : ∃ t, (exD k).text = t := ⟨_, rfl⟩
      obtain ⟨s0, hs0⟩ : ∃ s, (exD k).s0 = s := ⟨_, rfl⟩
      obtain ⟨s1, hs1⟩ : ∃ s, (exD k).s1 = s := ⟨_, rfl⟩
      obtain ⟨s2, hs2⟩ : ∃ s, (exD k).s2 = s := ⟨_, rfl⟩
      obtain ⟨s3, hs3⟩ : ∃ s, (exD k).s3 = s := ⟨_, rfl⟩
      obtain ⟨m, hm⟩ : ∃ m, (exD k).kids.length = m := ⟨_, rfl⟩
      have HROW := Lib.hid (show exrow (exD k) ko kc = [.int .i64 o, .string t, .int .u64 s0, .int .u64 s1, .int .u64 s2, .int .u64 s3, .slice ko m kc] by unfold exrow; rw [ho, ht, hs0, hs1, hs2, hs3, hm])
      rw [ho] at p0
      rw [ht] at p1
      rw [hs0] at p2
      rw [hs1] at p3
      rw [hs2] at p4
      rw [hs3] at p5
      rw [hm] at p6
      clear ho ht hs0 hs1 hs2 hs3 hm
      have f0 : wr.frozen? ⟨w4.heap.size, 0, none⟩ = false := HP.out.thaw 0
      have f1 : wr.frozen? ⟨w4.heap.size, 1, none⟩ = false := HP.out.thaw 1
      have f2 : wr.frozen? ⟨w4.heap.size, 2, none⟩ = false := HP.out.thaw 2
      have f3 : wr.frozen? ⟨w4.heap.size, 3, none⟩ = false := HP.out.thaw 3
      have f4 : wr.frozen? ⟨w4.heap.size, 4, none⟩ = false := HP.out.thaw 4
      have f5 : wr.frozen? ⟨w4.heap.size, 5, none⟩ = false := HP.out.thaw 5
      have f6 : wr.frozen? ⟨w4.heap.size, 6, none⟩ = false := HP.out.thaw 6
      have hlt := HP.out.lt
      have hW := step_world HP.out HROW.out HX.out.size
      obtain ⟨hP1, hB1, hK1⟩ := hW
      have HX1 := Lib.hid (HX.out.trans hB1 (fun _ _ h => h))
      have HR1 := Lib.hid (show HasR (fun g => g ≠ w4.heap.size) ((set7 wr w4.heap.size (.int .i64 8) (.string ⟨#[]⟩) (.int .u64 0) (.int .u64 0) (.int .u64 0) (.int .u64 0) (.slice (some ⟨wr.heap.size, 0, none⟩) 1 1)).alloc (.cells #[.int .i64 o, .string t, .int .u64 s0, .int .u64 s1, .int .u64 s2, .int .u64 s3, .slice ko m kc] 27)) (k + 1) (some ⟨wr.heap.size, 0, none⟩) (exD (k + 1)).kids from HasR.one hK1 (by show ¬ wr.heap.size = w4.heap.size; omega) (HR.out.keep hB1 (fun g _ h => h)))
      have HP1 := Lib.hid hP1
      clear hP1 hB1 hK1 HP HR HX HROW
      go_wp2
      go_roundw
      case rel => exact ⟨k + 1, by go_num, by omega, some ⟨wr.heap.size, 0, none⟩, 1, HP1, HR1, HX1⟩
      case measure => simp [intOf]; omega
    · obtain rfl : k = 11 := by omega
      have hne : ∀ g, g < w4.heap.size → ¬ g = w4.heap.size := fun g h => by omega
      have HG1 := HG.out
      have HA6 := Lib.hid (HA5.out.but HX.out (by omega))
      have HS6 := Lib.hid (HS5.out.but HX.out (by omega))
      have HBB6 := Lib.hid (HBB5.out.but HX.out (by omega))
      have HT6 := Lib.hid (HT5.out.but HX.out (by omega))
      have HC6 := Lib.hid (HC5.out.but HX.out (by omega))
      have HB6 := Lib.hid (HB5.out.trans (HX.out.below HB5.out.size (fun g hg => by have h1 := HWS.out; omega)))
      have HP6 : Hid (Own wr w4.heap.size 27 [.int .i64 8, .string ⟨#[]⟩, .int .u64 0, .int .u64 0, .int .u64 0, .int .u64 0, .slice ko 1 kc]) := HP
      have HK6 := Lib.hid (HR.out.has.mores 2)
      clear HA5 HS5 HBB5 HT5 HC5 HB5 HP HR HX hne HG1 h2 hk
      obtain ⟨w6, hw6⟩ : ∃ w6, wr = w6 := ⟨_, rfl⟩
      rw [hw6] at HA6 HS6 HBB6 HT6 HC6 HB6 HP6 HK6 ⊢
      clear hw6
      go_wp2_with fail
      refine (word_is ⟨#[97, 95, 49]⟩ (by decide) true (by decide +kernel) _).mono ?_
      rintro e w7 ⟨rfl, rfl⟩
      go_wp2_with fail
      refine (word_is ⟨#[49, 97]⟩ (by decide) false (by decide +kernel) _).mono ?_
      rintro e w7 ⟨rfl, rfl⟩
      go_wp2_with fail
      refine (word_is ⟨#[119, 97, 116, 101, 114]⟩ (by decide) false (by decide +kernel) _).mono ?_
      rintro e w7 ⟨rfl, rfl⟩
      go_wp2_with fail
      refine (word_is ⟨#[]⟩ (by decide) false (by decide +kernel) _).mono ?_
      rintro e w7 ⟨rfl, rfl⟩
      obtain ⟨hc_0, hc_1, hc_2, hc_3, hc_4, hc_5, hc_6⟩ := HC6.out.seven
      go_wp2_with fail
      refine (deep_is 14 (by decide) exC (some ⟨w.heap.size + 1 + 1 + 1, 0, none⟩) 2 _ 3 (by decide +kernel) (by decide +kernel) (hasC HS6.out HT6.out)).mono ?_
      rintro e w7 ⟨rfl, hb7⟩
      clear hc_0 hc_1 hc_2 hc_3 hc_4 hc_5 hc_6
      have HK7 := Lib.hid (HasK.below hb7 HK6.out)
      clear HK6
      have HB7 := Lib.hid (keepb HB6.out hb7)
      have HA7 := Lib.hid (own_move HA6.out hb7)
      have HS7 := Lib.hid (own_move HS6.out hb7)
      have HBB7 := Lib.hid (own_move HBB6.out hb7)
      have HT7 := Lib.hid (own_move HT6.out hb7)
      have HC7 := Lib.hid (own_move HC6.out hb7)
      have HP7 := Lib.hid (own_move HP6.out hb7)
      clear hb7 HB6 HA6 HS6 HBB6 HT6 HC6 HP6
      obtain ⟨hc_0, hc_1, hc_2, hc_3, hc_4, hc_5, hc_6⟩ := HC7.out.seven
      go_wp2_with fail
      refine (size_is 14 (by decide) exC (some ⟨w.heap.size + 1 + 1 + 1, 0, none⟩) 2 _ 4 (by decide +kernel) (by decide +kernel) (hasC HS7.out HT7.out)).mono ?_
      rintro e w8 ⟨rfl, hb8⟩
      clear hc_0 hc_1 hc_2 hc_3 hc_4 hc_5 hc_6
      have HK8 := Lib.hid (HasK.below hb8 HK7.out)
      clear HK7
      have HB8 := Lib.hid (keepb HB7.out hb8)
      have HA8 := Lib.hid (own_move HA7.out hb8)
      have HS8 := Lib.hid (own_move HS7.out hb8)
      have HBB8 := Lib.hid (own_move HBB7.out hb8)
      have HT8 := Lib.hid (own_move HT7.out hb8)
      have HC8 := Lib.hid (own_move HC7.out hb8)
      have HP8 := Lib.hid (own_move HP7.out hb8)
      clear hb8 HB7 HA7 HS7 HBB7 HT7 HC7 HP7
      obtain ⟨hc_0, hc_1, hc_2, hc_3, hc_4, hc_5, hc_6⟩ := HC8.out.seven
      go_wp2_with fail
      refine (right_is 14 (by decide) exC (some ⟨w.heap.size + 1 + 1 + 1, 0, none⟩) 2 _ true (by decide +kernel) (by decide +kernel) (hasC HS8.out HT8.out) (HM0.out.below HB8.out)).mono ?_
      rintro e w9 ⟨rfl, hb9⟩
      clear hc_0 hc_1 hc_2 hc_3 hc_4 hc_5 hc_6
      have HK9 := Lib.hid (HasK.below hb9 HK8.out)
      clear HK8
      have HB9 := Lib.hid (keepb HB8.out hb9)
      have HA9 := Lib.hid (own_move HA8.out hb9)
      have HS9 := Lib.hid (own_move HS8.out hb9)
      have HBB9 := Lib.hid (own_move HBB8.out hb9)
      have HT9 := Lib.hid (own_move HT8.out hb9)
      have HC9 := Lib.hid (own_move HC8.out hb9)
      have HP9 := Lib.hid (own_move HP8.out hb9)
      clear hb9 HB8 HA8 HS8 HBB8 HT8 HC8 HP8
      obtain ⟨ha_0, ha_1, ha_2, ha_3, ha_4, ha_5, ha_6⟩ := HA9.out.seven
      go_wp2_with fail
      have hbx := below_box w9 (.cells #[.int .i64 1, .string ⟨#[120]⟩, .int .u64 0, .int .u64 0, .int .u64 0, .int .u64 0, .slice none 0 0] 27)
      have hox := Own.fresh w9 27 [.int .i64 1, .string ⟨#[120]⟩, .int .u64 0, .int .u64 0, .int .u64 0, .int .u64 0, .slice none 0 0]
      refine (right_is 14 (by decide) (.mk 4 ⟨#[]⟩ 0 0 0 0 [exA]) (some ⟨w9.heap.size, 0, none⟩) 1 _ false (by decide +kernel) (by decide +kernel) (HasK.one (x := exA) (ko := none) (kc := 0) hox (HasK.nil _ _ _)) (HM0.out.below (HB9.out.trans (hbx.mono HB9.out.size)))).mono ?_
      rintro e w10 ⟨rfl, hb10⟩
      have hb10' := hbx.trans (hb10.mono hbx.size)
      clear hb10
      have hb10 := hb10'
      clear hb10'
      clear ha_0 ha_1 ha_2 ha_3 ha_4 ha_5 ha_6
      have HK10 := Lib.hid (HasK.below hb10 HK9.out)
      clear HK9
      have HB10 := Lib.hid (keepb HB9.out hb10)
      have HA10 := Lib.hid (own_move HA9.out hb10)
      have HS10 := Lib.hid (own_move HS9.out hb10)
      have HBB10 := Lib.hid (own_move HBB9.out hb10)
      have HT10 := Lib.hid (own_move HT9.out hb10)
      have HC10 := Lib.hid (own_move HC9.out hb10)
      have HP10 := Lib.hid (own_move HP9.out hb10)
      clear hb10 HB9 HA9 HS9 HBB9 HT9 HC9 HP9
      clear hbx
      clear hox
      go_wp2_with fail
      refine (right_is 14 (by decide) ex0 none 0 _ false (by decide +kernel) (by decide +kernel) (HasK.nil _ _ _) (HM0.out.below HB10.out)).mono ?_
      rintro e w11 ⟨rfl, hb11⟩
      have HK11 := Lib.hid (HasK.below hb11 HK10.out)
      clear HK10
      have HB11 := Lib.hid (keepb HB10.out hb11)
      have HA11 := Lib.hid (own_move HA10.out hb11)
      have HS11 := Lib.hid (own_move HS10.out hb11)
      have HBB11 := Lib.hid (own_move HBB10.out hb11)
      have HT11 := Lib.hid (own_move HT10.out hb11)
      have HC11 := Lib.hid (own_move HC10.out hb11)
      have HP11 := Lib.hid (own_move HP10.out hb11)
      clear hb11 HB10 HA10 HS10 HBB10 HT10 HC10 HP10
      obtain ⟨hp_0, hp_1, hp_2, hp_3, hp_4, hp_5, hp_6⟩ := HP11.out.seven
      go_wp2_with fail
      refine (right_is 14 (by decide) (exD 11) ko kc _ true (by decide +kernel) (by decide +kernel) (HasK.mores HK11.out 1) (HM0.out.below HB11.out)).mono ?_
      rintro e w12 ⟨rfl, hb12⟩
      clear hp_0 hp_1 hp_2 hp_3 hp_4 hp_5 hp_6
      have HK12 := Lib.hid (HasK.below hb12 HK11.out)
      clear HK11
      have HB12 := Lib.hid (keepb HB11.out hb12)
      have HA12 := Lib.hid (own_move HA11.out hb12)
      have HS12 := Lib.hid (own_move HS11.out hb12)
      have HBB12 := Lib.hid (own_move HBB11.out hb12)
      have HT12 := Lib.hid (own_move HT11.out hb12)
      have HC12 := Lib.hid (own_move HC11.out hb12)
      have HP12 := Lib.hid (own_move HP11.out hb12)
      clear hb12 HB11 HA11 HS11 HBB11 HT11 HC11 HP11
      obtain ⟨hp_0, hp_1, hp_2, hp_3, hp_4, hp_5, hp_6⟩ := HP12.out.seven
      go_wp2_with fail
      have hbx := below_box w12 (.cells #[.int .i64 8, .string ⟨#[]⟩, .int .u64 0, .int .u64 0, .int .u64 0, .int .u64 0, .slice ko 1 kc] 27)
      have hox := Own.fresh w12 27 [.int .i64 8, .string ⟨#[]⟩, .int .u64 0, .int .u64 0, .int .u64 0, .int .u64 0, .slice ko 1 kc]
      refine (right_is 14 (by decide) (.mk 10 ⟨#[]⟩ 0 0 0 0 [exD 11]) (some ⟨w12.heap.size, 0, none⟩) 1 _ false (by decide +kernel) (by decide +kernel) (HasK.one (x := exD 11) (ko := ko) (kc := kc) hox (HasK.below hbx HK12.out)) (HM0.out.below (HB12.out.trans (hbx.mono HB12.out.size)))).mono ?_
      rintro e w13 ⟨rfl, hb13⟩
      have hb13' := hbx.trans (hb13.mono hbx.size)
      clear hb13
      have hb13 := hb13'
      clear hb13'
      clear hp_0 hp_1 hp_2 hp_3 hp_4 hp_5 hp_6
      have HK13 := Lib.hid (HasK.below hb13 HK12.out)
      clear HK12
      have HB13 := Lib.hid (keepb HB12.out hb13)
      have HA13 := Lib.hid (own_move HA12.out hb13)
      have HS13 := Lib.hid (own_move HS12.out hb13)
      have HBB13 := Lib.hid (own_move HBB12.out hb13)
      have HT13 := Lib.hid (own_move HT12.out hb13)
      have HC13 := Lib.hid (own_move HC12.out hb13)
      have HP13 := Lib.hid (own_move HP12.out hb13)
      clear hb13 HB12 HA12 HS12 HBB12 HT12 HC12 HP12
      clear hbx
      clear hox
      obtain ⟨hc_0, hc_1, hc_2, hc_3, hc_4, hc_5, hc_6⟩ := HC13.out.seven
      go_wp2_with fail
      refine (same_is 14 exC exC (some ⟨w.heap.size + 1 + 1 + 1, 0, none⟩) (some ⟨w.heap.size + 1 + 1 + 1, 0, none⟩) 2 2 _ true (by decide +kernel) (by decide +kernel) (by decide +kernel) (hasC HS13.out HT13.out) (hasC HS13.out HT13.out)).mono ?_
      rintro e w14 ⟨rfl, hb14⟩
      clear hc_0 hc_1 hc_2 hc_3 hc_4 hc_5 hc_6
      have HK14 := Lib.hid (HasK.below hb14 HK13.out)
      clear HK13
      have HB14 := Lib.hid (keepb HB13.out hb14)
      have HA14 := Lib.hid (own_move HA13.out hb14)
      have HS14 := Lib.hid (own_move HS13.out hb14)
      have HBB14 := Lib.hid (own_move HBB13.out hb14)
      have HT14 := Lib.hid (own_move HT13.out hb14)
      have HC14 := Lib.hid (own_move HC13.out hb14)
      have HP14 := Lib.hid (own_move HP13.out hb14)
      clear hb14 HB13 HA13 HS13 HBB13 HT13 HC13 HP13
      obtain ⟨ha_0, ha_1, ha_2, ha_3, ha_4, ha_5, ha_6⟩ := HA14.out.seven
      obtain ⟨hbb_0, hbb_1, hbb_2, hbb_3, hbb_4, hbb_5, hbb_6⟩ := HBB14.out.seven
      go_wp2_with fail
      refine (same_is 14 exA exB none (some ⟨w.heap.size + 1, 0, none⟩) 0 1 _ false (by decide +kernel) (by decide +kernel) (by decide +kernel) (HasK.nil _ _ _) (HasK.one (x := exA) (ko := none) (kc := 0) HS14.out (HasK.nil _ _ _))).mono ?_
      rintro e w15 ⟨rfl, hb15⟩
      clear ha_0 ha_1 ha_2 ha_3 ha_4 ha_5 ha_6 hbb_0 hbb_1 hbb_2 hbb_3 hbb_4 hbb_5 hbb_6
      have HK15 := Lib.hid (HasK.below hb15 HK14.out)
      clear HK14
      have HB15 := Lib.hid (keepb HB14.out hb15)
      have HA15 := Lib.hid (own_move HA14.out hb15)
      have HS15 := Lib.hid (own_move HS14.out hb15)
      have HBB15 := Lib.hid (own_move HBB14.out hb15)
      have HT15 := Lib.hid (own_move HT14.out hb15)
      have HC15 := Lib.hid (own_move HC14.out hb15)
      have HP15 := Lib.hid (own_move HP14.out hb15)
      clear hb15 HB14 HA14 HS14 HBB14 HT14 HC14 HP14
      go_wp2
      go_ret
      exact ⟨rfl, HB15.out⟩
end Go.Proofs.Ytinkgidncdjapac
