/- An expression and a fault that are laid by one statement. What the texts of layer 7's awake are. -/
import Derived.Test.YtonknapfndaalaaWi
import Derived.Test.YtonknapfndaalaaPs7
import Derived.KernelRfl
namespace Go.Proofs.Ytonknapfndaalaa
set_option linter.unusedVariables false
set_option maxRecDepth 1000000
open Go.RowKit Go.Sort
theorem own_move {w w' : World} {g : Nat} {t : TypeId} {cs : List Value} (h : Own w g t cs) (hb : Below w.heap.size w w') : Own w' g t cs := h.under hb h.lt
theorem put_two (w : World) (a : Int) (b : ByteArray) (c d e f : Int) (A : Option Addr) (n m : Nat) (f1 f2 : Int) : ∃ wa wb,
  (Instr.storeAt 28 (.pointer (some ⟨w.heap.size, 0, none⟩)) (.agg #[.int .i64 a, .string b, .int .u64 c, .int .u64 d, .int .u64 e, .int .u64 f, .slice A n m])).run Try.prog ((w.alloc (.cells #[.int .i64 0, .string ⟨#[]⟩, .int .u64 0, .int .u64 0, .int .u64 0, .int .u64 0, .slice none 0 0] 28)).alloc (.cells #[.int .i64 0, .int .i64 0, .int .i64 0, .int .i64 0] 31)) = .ok () wa ∧
  (Instr.storeAt 31 (.pointer (some ⟨w.heap.size + 1, 0, none⟩)) (.agg #[.int .i64 f1, .int .i64 f2, .int .i64 0, .int .i64 0])).run Try.prog wa = .ok () wb ∧
  Below w.heap.size w wb ∧ Own wb w.heap.size 28 [.int .i64 a, .string b, .int .u64 c, .int .u64 d, .int .u64 e, .int .u64 f, .slice A n m] ∧ Own wb (w.heap.size + 1) 31 [.int .i64 f1, .int .i64 f2, .int .i64 0, .int .i64 0] := by
 have h1 := (Own.fresh w 28 [.int .i64 0, .string ⟨#[]⟩, .int .u64 0, .int .u64 0, .int .u64 0, .int .u64 0, .slice none 0 0]).on_alloc (.cells #[.int .i64 0, .int .i64 0, .int .i64 0, .int .i64 0] 31)
 have h2 : Own ((w.alloc (.cells #[.int .i64 0, .string ⟨#[]⟩, .int .u64 0, .int .u64 0, .int .u64 0, .int .u64 0, .slice none 0 0] 28)).alloc (.cells #[.int .i64 0, .int .i64 0, .int .i64 0, .int .i64 0] 31)) (w.heap.size + 1) 31 [.int .i64 0, .int .i64 0, .int .i64 0, .int .i64 0] :=
  Own.fresh' (w := w.alloc (.cells #[.int .i64 0, .string ⟨#[]⟩, .int .u64 0, .int .u64 0, .int .u64 0, .int .u64 0, .slice none 0 0] 28)) (by simp) _ _
 have hb : Below w.heap.size w ((w.alloc (.cells #[.int .i64 0, .string ⟨#[]⟩, .int .u64 0, .int .u64 0, .int .u64 0, .int .u64 0, .slice none 0 0] 28)).alloc (.cells #[.int .i64 0, .int .i64 0, .int .i64 0, .int .i64 0] 31)) := ((Below.refl _ _).alloc (Nat.le_refl _) _).alloc (by simp) _
 have s1 := store7_run h1 a b c d e f A n m
 have h3 := h1.put7 (u0 := .int .i64 a) (u1 := .string b) (u2 := .int .u64 c) (u3 := .int .u64 d) (u4 := .int .u64 e) (u5 := .int .u64 f) (u6 := .slice A n m)
 have h4 := h2.but (But.set7 _ w.heap.size (.int .i64 a) (.string b) (.int .u64 c) (.int .u64 d) (.int .u64 e) (.int .u64 f) (.slice A n m)) (by omega)
 have hb2 := below_put7 hb (Nat.le_refl w.heap.size) (.int .i64 a) (.string b) (.int .u64 c) (.int .u64 d) (.int .u64 e) (.int .u64 f) (.slice A n m)
 have s2 := store4_run h4 f1 f2
 exact ⟨_, _, s1, s2, below_put4 hb2 (g := w.heap.size + 1) (by omega) (.int .i64 f1) (.int .i64 f2) (.int .i64 0) (.int .i64 0), h3.but (But.set4 _ (w.heap.size + 1) (.int .i64 f1) (.int .i64 f2) (.int .i64 0) (.int .i64 0)) (by omega), h4.put4⟩
end Go.Proofs.Ytonknapfndaalaa

namespace Go.Proofs.Ytonknapfndaalaa
set_option linter.unusedVariables false
set_option maxRecDepth 1000000
open Go.RowKit Ex
theorem aw7_a : psO ⟨#[97, 32, 34, 120, 34, 42, 32, 47, 32, 126, 98, 126, 32, 99, 58, 100]⟩ = .ok (.mk 5 ⟨#[]⟩ 0 0 0 0 [.mk 4 ⟨#[]⟩ 0 0 0 0 [.mk 11 ⟨#[97]⟩ 0 0 0 0 [], .mk 6 ⟨#[]⟩ 0 0 0 0 [.mk 1 ⟨#[120]⟩ 0 0 0 0 []]], .mk 4 ⟨#[]⟩ 0 0 0 0 [.mk 13 ⟨#[]⟩ 0 0 0 0 [.mk 11 ⟨#[98]⟩ 0 0 0 0 []], .mk 12 ⟨#[99]⟩ 0 0 0 0 [.mk 11 ⟨#[100]⟩ 0 0 0 0 []]]]) := by kernel_rfl
theorem aw7_g : psO ⟨#[97, 32, 47, 32]⟩ = .error (2, 4) := by kernel_rfl
theorem aw7_h : psO ⟨#[97, 32, 41]⟩ = .error (2, 2) := by kernel_rfl
theorem aw7_i : psO ⟨#[126, 97, 32, 98, 126]⟩ = .error (2, 3) := by kernel_rfl
theorem aw7_j : psO ⟨#[40, 40, 40, 40, 40, 40, 40, 40, 40, 40, 40, 40, 40, 97, 41, 41, 41, 41, 41, 41, 41, 41, 41, 41, 41, 41, 41]⟩ = .error (3, 12) := by kernel_rfl
theorem aw7_k : psO ⟨#[40, 40, 40, 40, 40, 40, 40, 40, 40, 40, 40, 40, 97, 41, 41, 41, 41, 41, 41, 41, 41, 41, 41, 41, 41]⟩ = .ok (.mk 11 ⟨#[97]⟩ 0 0 0 0 []) := by kernel_rfl
theorem aw7_l : allO ⟨#[97, 59, 32, 98]⟩ = .ok [⟨1, ⟨#[97]⟩, set0, 0⟩, ⟨4, ⟨#[59]⟩, set0, 1⟩, ⟨1, ⟨#[98]⟩, set0, 3⟩, ⟨0, ⟨#[]⟩, set0, 4⟩] := by kernel_rfl
theorem aw7_m : rdO [⟨1, ⟨#[97]⟩, set0, 0⟩, ⟨4, ⟨#[59]⟩, set0, 1⟩, ⟨1, ⟨#[98]⟩, set0, 3⟩, ⟨0, ⟨#[]⟩, set0, 4⟩] 0 = .ok (.mk 11 ⟨#[97]⟩ 0 0 0 0 [], 1) := by kernel_rfl
end Go.Proofs.Ytonknapfndaalaa
