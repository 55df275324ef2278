/- The walks of Back, Part, both nests: where the mark may be none. -/
import Derived.Test.YtgpglmponbipbacNestMay
import Derived.Test.YtgpglmponbipbacNestNC
namespace Go.Proofs.Ytgpglmponbipbac
set_option linter.unusedVariables false
open Go.RowKit Go.Sort

set_option maxHeartbeats 1600000 in
theorem nback_no (w : World) (p : Nat) (U : Nat → Prop) (L : List Nd) (top l t : Int) (hno : ¬ (0 ≤ l ∧ l ≤ (L.length : Int) ∧ -1 ≤ t ∧ t < l)) (h : Nest 56 w p U L top) :
    Calls Try.prog 16 #[.pointer (some ⟨p, 0, none⟩), .agg #[.int .i64 l, .int .i64 t]] w fun e w' => e = .returned (.tuple #[]) ∧ Below w.heap.size w w' := by
  have hp : p < w.heap.size := by obtain ⟨v, T, h⟩ := h; exact h.own.lt
  have HN := Lib.hid h
  have HR := Lib.hid (Own.fresh w 33 [.int .i64 l, .int .i64 t])
  have HB : Below w.heap.size w (w.alloc (.cells #[.int .i64 l, .int .i64 t] 33)) := (Below.refl _ _).alloc (Nat.le_refl _) _
  have HNO := Lib.hid hno
  clear h hno
  go_enter Try.func16, Try.ntmps16
  go_wp2_with fail
  refine (nmay_no _ p U L top l t HNO.out (HN.out.below HB)).mono ?_
  rintro e w1 ⟨rfl, hb1⟩
  go_wp2
  go_end0
  exact ⟨rfl, keepb HB hb1⟩

set_option maxHeartbeats 1600000 in
theorem npart_no (w : World) (p : Nat) (U : Nat → Prop) (L : List Nd) (top l t : Int) (hno : ¬ (0 ≤ l ∧ l ≤ (L.length : Int) ∧ -1 ≤ t ∧ t < l)) (h : Nest 56 w p U L top) :
    Calls Try.prog 18 #[.pointer (some ⟨p, 0, none⟩), .agg #[.int .i64 l, .int .i64 t]] w fun e w' => e = .returned (.slice none 0 0) ∧ Below w.heap.size w w' := by
  have hp : p < w.heap.size := by obtain ⟨v, T, h⟩ := h; exact h.own.lt
  have HN := Lib.hid h
  have HR := Lib.hid (Own.fresh w 33 [.int .i64 l, .int .i64 t])
  have HB : Below w.heap.size w (w.alloc (.cells #[.int .i64 l, .int .i64 t] 33)) := (Below.refl _ _).alloc (Nat.le_refl _) _
  have HNO := Lib.hid hno
  clear h hno
  go_enter Try.func18, Try.ntmps18
  go_wp2_with fail
  refine (nmay_no _ p U L top l t HNO.out (HN.out.below HB)).mono ?_
  rintro e w1 ⟨rfl, hb1⟩
  go_wp2
  go_ret
  exact ⟨rfl, keepb HB hb1⟩

set_option maxHeartbeats 1600000 in
theorem rback_no (w : World) (p : Nat) (U : Nat → Prop) (L : List Nd) (top l t : Int) (hno : ¬ (0 ≤ l ∧ l ≤ (L.length : Int) ∧ -1 ≤ t ∧ t < l)) (h : Nest 58 w p U L top) :
    Calls Try.prog 17 #[.pointer (some ⟨p, 0, none⟩), .agg #[.int .i64 l, .int .i64 t]] w fun e w' => e = .returned (.tuple #[]) ∧ Below w.heap.size w w' := by
  have hp : p < w.heap.size := by obtain ⟨v, T, h⟩ := h; exact h.own.lt
  have HN := Lib.hid h
  have HR := Lib.hid (Own.fresh w 34 [.int .i64 l, .int .i64 t])
  have HB : Below w.heap.size w (w.alloc (.cells #[.int .i64 l, .int .i64 t] 34)) := (Below.refl _ _).alloc (Nat.le_refl _) _
  have HNO := Lib.hid hno
  clear h hno
  go_enter Try.func17, Try.ntmps17
  go_wp2_with fail
  refine (rmay_no _ p U L top l t HNO.out (HN.out.below HB)).mono ?_
  rintro e w1 ⟨rfl, hb1⟩
  go_wp2
  go_end0
  exact ⟨rfl, keepb HB hb1⟩

set_option maxHeartbeats 1600000 in
theorem rpart_no (w : World) (p : Nat) (U : Nat → Prop) (L : List Nd) (top l t : Int) (hno : ¬ (0 ≤ l ∧ l ≤ (L.length : Int) ∧ -1 ≤ t ∧ t < l)) (h : Nest 58 w p U L top) :
    Calls Try.prog 20 #[.pointer (some ⟨p, 0, none⟩), .agg #[.int .i64 l, .int .i64 t]] w fun e w' => e = .returned (.slice none 0 0) ∧ Below w.heap.size w w' := by
  have hp : p < w.heap.size := by obtain ⟨v, T, h⟩ := h; exact h.own.lt
  have HN := Lib.hid h
  have HR := Lib.hid (Own.fresh w 34 [.int .i64 l, .int .i64 t])
  have HB : Below w.heap.size w (w.alloc (.cells #[.int .i64 l, .int .i64 t] 34)) := (Below.refl _ _).alloc (Nat.le_refl _) _
  have HNO := Lib.hid hno
  clear h hno
  go_enter Try.func20, Try.ntmps20
  go_wp2_with fail
  refine (rmay_no _ p U L top l t HNO.out (HN.out.below HB)).mono ?_
  rintro e w1 ⟨rfl, hb1⟩
  go_wp2
  go_ret
  exact ⟨rfl, keepb HB hb1⟩

end Go.Proofs.Ytgpglmponbipbac
