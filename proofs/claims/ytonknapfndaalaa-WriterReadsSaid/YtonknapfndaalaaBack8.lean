/- The law WriterBack, walked. -/
import Derived.Test.YtonknapfndaalaaBkA
namespace Go.Proofs.Ytonknapfndaalaa
set_option linter.unusedVariables false
set_option maxRecDepth 1000000
open Go.RowKit Go.Sort
theorem print_to {n : Nat} {x : Ex} {ko : Option Addr} {kc : Nat} {v : ByteArray} (hv : ofL (prX n x) = v) (hx : PrOk n x) (W : World) (hK : HasK W n ko x.kids) :
  Calls Try.prog 16 #[exv x ko kc] W fun e w' => e = .returned (.string v) ∧ Below W.heap.size W w' := by subst hv; exact print_any n x ko kc W hx hK
theorem same_to {n : Nat} {x : Ex} (hf : fit 90001 n x = true) {k1 k2 : Option Addr} {c1 c2 : Nat} (W : World) (h1 : HasK W n k1 x.kids) (h2 : HasK W n k2 x.kids) :
  Calls Try.prog 10 #[exv x k1 c1, exv x k2 c2] W fun e w' => e = .returned (.bool true) ∧ Below W.heap.size W w' := by
 have := rsame_any n x x k1 k2 c1 c2 W hf hf h1 h2
 rw [same_self n x hf] at this
 exact this
theorem right_back {n : Nat} {x : Ex} (h : grt n x = false) (hS : SetsOk n x) (hr : rightX n x = true) (hn : n ≤ 60 := by decide) : psO (ofL (prX n x)) = .ok x := by
 unfold rightX at hr
 rw [Bool.and_eq_true, decide_eq_true_eq] at hr
 exact psO_back hr.2 hS hr.1 (grt_fit h) hn
end Go.Proofs.Ytonknapfndaalaa
