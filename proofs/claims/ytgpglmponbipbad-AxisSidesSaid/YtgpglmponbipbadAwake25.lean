/- The document's examples of layer 25, walked. -/
import Derived.Test.YtgpglmponbipbadAxisKids
import Derived.Test.YtgpglmponbipbadAxisLeaves
import Derived.Test.YtgpglmponbipbadAxisNext
import Derived.Test.YtgpglmponbipbadAxisText
import Derived.Test.YtgpglmponbipbadAxisInts
import Derived.Test.YtgpglmponbipbadAxisRNext
import Derived.Test.YtgpglmponbipbadAxisRBelow
import Derived.Test.YtgpglmponbipbadAxisBelow
namespace Go.Proofs.Ytgpglmponbipbad
set_option linter.unusedVariables false
open Go.RowKit Go.Sort

def l4 : Nodes := ⟨4, fun k => [1, 4, 2, 4].getD k 0, fun _ => ⟨#[]⟩, fun k => [0, 0, 1, 1].getD k 0, fun k => [3, 1, 3, 3].getD k 0, fun k => [-1, 0, 0, 2].getD k 0⟩
def l1 : Nodes := ⟨1, fun _ => 0, fun _ => ⟨#[]⟩, fun _ => 0, fun _ => 0, fun _ => 0⟩
def node (a : Int) (b c d : Int) : List Value := [.int .i64 a, .string ⟨#[]⟩, .int .i64 b, .int .i64 c, .int .i64 d]
theorem has4 (w : World) : Has (w.alloc (.cells #[.int .i64 1, .string ⟨#[]⟩, .int .i64 0, .int .i64 3, .int .i64 (-1), .int .i64 4, .string ⟨#[]⟩, .int .i64 0, .int .i64 1, .int .i64 0, .int .i64 2, .string ⟨#[]⟩, .int .i64 1, .int .i64 3, .int .i64 0, .int .i64 4, .string ⟨#[]⟩, .int .i64 1, .int .i64 3, .int .i64 2] 32)) (some ⟨w.heap.size, 0, none⟩) (w.heap.size + 1) l4 := by
  have F := Own.fresh w 32 [.int .i64 1, .string ⟨#[]⟩, .int .i64 0, .int .i64 3, .int .i64 (-1), .int .i64 4, .string ⟨#[]⟩, .int .i64 0, .int .i64 1, .int .i64 0, .int .i64 2, .string ⟨#[]⟩, .int .i64 1, .int .i64 3, .int .i64 0, .int .i64 4, .string ⟨#[]⟩, .int .i64 1, .int .i64 3, .int .i64 2]
  intro k hk
  have hk4 : k < 4 := hk
  match k, hk4 with
  | 0, _ => exact ⟨_, 0, rfl, Nat.lt_succ_self _, F.cell 0, F.cell 1, F.cell 2, F.cell 3, F.cell 4⟩
  | 1, _ => exact ⟨_, 0, rfl, Nat.lt_succ_self _, F.cell 5, F.cell 6, F.cell 7, F.cell 8, F.cell 9⟩
  | 2, _ => exact ⟨_, 0, rfl, Nat.lt_succ_self _, F.cell 10, F.cell 11, F.cell 12, F.cell 13, F.cell 14⟩
  | 3, _ => exact ⟨_, 0, rfl, Nat.lt_succ_self _, F.cell 15, F.cell 16, F.cell 17, F.cell 18, F.cell 19⟩
theorem has1 (w : World) : Has (w.alloc (.cells #[.int .i64 0, .string ⟨#[]⟩, .int .i64 0, .int .i64 0, .int .i64 0] 32)) (some ⟨w.heap.size, 0, none⟩) (w.heap.size + 1) l1 := by
  have F := Own.fresh w 32 [.int .i64 0, .string ⟨#[]⟩, .int .i64 0, .int .i64 0, .int .i64 0]
  intro k hk
  have hk1 : k < 1 := hk
  match k, hk1 with
  | 0, _ => exact ⟨_, 0, rfl, Nat.lt_succ_self _, F.cell 0, F.cell 1, F.cell 2, F.cell 3, F.cell 4⟩
theorem Owns.lit (w : World) (L : List Int) (n : Nat) (cs : Array Value) (hc : cs = (L.map (Value.int .i64)).toArray) (hn : n = L.length) (h : L.length ≤ 100) : Owns (w.alloc (.cells cs 3)) w.heap.size (.slice (some ⟨w.heap.size, 0, Option.none⟩) n n) L := by
  subst hc; subst hn
  have := World.ownsRow_lit (base := w.heap.size) (e := 3) (size := 1) w (L.map (Value.int .i64)).toArray L.length (Nat.le_refl _) (by unfold maxLen; omega) (by simp)
  simpa [Owns] using this
theorem Owns.nil_len {w : World} {B : Nat} {v : Value} (h : Owns w B v []) : ∃ ao cap, v = .slice ao 0 cap := by
  obtain ⟨ao, cap, e, _⟩ := h.form; exact ⟨ao, cap, e⟩
theorem Owns.past {w : World} {B : Nat} {v : Value} {L : List Int} (h : Owns w B v L) (o : Obj) : Owns (w.alloc o) B v L := h.keep ((Below.refl _ _).alloc (Nat.le_refl _) o)

set_option maxHeartbeats 8000000 in
theorem awake_any (w : World) : Calls Try.prog 5 #[] w fun e w' => e = .returned (.bool true) ∧ Below w.heap.size w w' := by
  go_enter Try.func5, Try.ntmps5
  go_wp2_with fail
  have HL := Lib.hid (has4 w)
  have hN : w.heap.size + 1 ≤ (w.alloc (.cells #[.int .i64 1, .string ⟨#[]⟩, .int .i64 0, .int .i64 3, .int .i64 (-1), .int .i64 4, .string ⟨#[]⟩, .int .i64 0, .int .i64 1, .int .i64 0, .int .i64 2, .string ⟨#[]⟩, .int .i64 1, .int .i64 3, .int .i64 0, .int .i64 4, .string ⟨#[]⟩, .int .i64 1, .int .i64 3, .int .i64 2] 32)).heap.size := by rw [World.size_alloc]; exact Nat.le_refl _
  have hB : Below w.heap.size w (w.alloc (.cells #[.int .i64 1, .string ⟨#[]⟩, .int .i64 0, .int .i64 3, .int .i64 (-1), .int .i64 4, .string ⟨#[]⟩, .int .i64 0, .int .i64 1, .int .i64 0, .int .i64 2, .string ⟨#[]⟩, .int .i64 1, .int .i64 3, .int .i64 0, .int .i64 4, .string ⟨#[]⟩, .int .i64 1, .int .i64 3, .int .i64 2] 32)) := by go_grown
  obtain ⟨N, hNN⟩ : ∃ N, w.heap.size = N := ⟨_, rfl⟩
  rw [hNN] at HL hN
  rw [hNN]
  generalize w.alloc _ = W0 at *
  refine (right_any l4 (some ⟨N, 0, none⟩) 4 (N + 1) (by decide) _ hN HL.out).mono ?_
  rintro e w1 ⟨rfl, hb⟩
  rw [show rightB l4 l4.n = true by decide]
  have hB := keepb hB hb
  have HL := Lib.hid (HL.out.keep hb hN)
  have hN := Nat.le_trans hN hb.size
  clear hb
  go_wp2_with fail
  refine (right_any l1 (some ⟨w1.heap.size, 0, none⟩) 1 (w1.heap.size + 1) (by decide) _ (by rw [World.size_alloc]; exact Nat.le_refl _) (has1 w1)).mono ?_
  rintro e w2 ⟨rfl, hb⟩
  rw [show rightB l1 l1.n = false by decide]
  have hbb : Below w1.heap.size w1 w2 := keepb (by go_grown) hb
  clear hb
  have hB := keepb hB hbb
  have HL := Lib.hid (HL.out.keep hbb hN)
  have hN := Nat.le_trans hN hbb.size
  clear hbb
  go_wp2_with fail
  refine (kids_any l4 (some ⟨N, 0, none⟩) 4 (-1) (N + 1) (by decide) _ hN HL.out).mono ?_
  rintro e w3 ⟨v, rfl, ho, hb⟩
  rw [show kidsL l4 (-1) = [0] by decide] at ho
  have hB := keepb hB hb
  have HL := Lib.hid (HL.out.keep hb hN)
  have hN := Nat.le_trans hN hb.size
  clear hb
  have ho := Lib.hid ho
  go_wp2_with fail
  refine (ints_any v _ [0] _ _ (by decide) _ (ho.out.past _) (Owns.lit w3 [0] _ _ rfl rfl (by decide))).mono ?_
  rintro e w4 ⟨rfl, hb⟩
  have hbb : Below w3.heap.size w3 w4 := keepb (by go_grown) hb
  clear hb ho
  have hB := keepb hB hbb
  have HL := Lib.hid (HL.out.keep hbb hN)
  have hN := Nat.le_trans hN hbb.size
  clear hbb
  go_wp2_with fail
  refine (kids_any l4 (some ⟨N, 0, none⟩) 4 0 (N + 1) (by decide) _ hN HL.out).mono ?_
  rintro e w5 ⟨v, rfl, ho, hb⟩
  rw [show kidsL l4 0 = [1, 2] by decide] at ho
  have hB := keepb hB hb
  have HL := Lib.hid (HL.out.keep hb hN)
  have hN := Nat.le_trans hN hb.size
  clear hb
  have ho := Lib.hid ho
  go_wp2_with fail
  refine (ints_any v _ [1, 2] _ _ (by decide) _ (ho.out.past _) (Owns.lit w5 [1, 2] _ _ rfl rfl (by decide))).mono ?_
  rintro e w6 ⟨rfl, hb⟩
  have hbb : Below w5.heap.size w5 w6 := keepb (by go_grown) hb
  clear hb ho
  have hB := keepb hB hbb
  have HL := Lib.hid (HL.out.keep hbb hN)
  have hN := Nat.le_trans hN hbb.size
  clear hbb
  go_wp2_with fail
  refine (below_any l4 (some ⟨N, 0, none⟩) 4 0 (N + 1) (by decide) _ hN HL.out).mono ?_
  rintro e w7 ⟨v, rfl, ho, hb⟩
  rw [show belowL l4 0 = [1, 2, 3] by decide] at ho
  have hB := keepb hB hb
  have HL := Lib.hid (HL.out.keep hb hN)
  have hN := Nat.le_trans hN hb.size
  clear hb
  have ho := Lib.hid ho
  go_wp2_with fail
  refine (ints_any v _ [1, 2, 3] _ _ (by decide) _ (ho.out.past _) (Owns.lit w7 [1, 2, 3] _ _ rfl rfl (by decide))).mono ?_
  rintro e w8 ⟨rfl, hb⟩
  have hbb : Below w7.heap.size w7 w8 := keepb (by go_grown) hb
  clear hb ho
  have hB := keepb hB hbb
  have HL := Lib.hid (HL.out.keep hbb hN)
  have hN := Nat.le_trans hN hbb.size
  clear hbb
  go_wp2_with fail
  refine (below_any l4 (some ⟨N, 0, none⟩) 4 (-1) (N + 1) (by decide) _ hN HL.out).mono ?_
  rintro e w9 ⟨v, rfl, ho, hb⟩
  rw [show belowL l4 (-1) = [0, 1, 2, 3] by decide] at ho
  have hB := keepb hB hb
  have HL := Lib.hid (HL.out.keep hb hN)
  have hN := Nat.le_trans hN hb.size
  clear hb
  have ho := Lib.hid ho
  go_wp2_with fail
  refine (ints_any v _ [0, 1, 2, 3] _ _ (by decide) _ (ho.out.past _) (Owns.lit w9 [0, 1, 2, 3] _ _ rfl rfl (by decide))).mono ?_
  rintro e w10 ⟨rfl, hb⟩
  have hbb : Below w9.heap.size w9 w10 := keepb (by go_grown) hb
  clear hb ho
  have hB := keepb hB hbb
  have HL := Lib.hid (HL.out.keep hbb hN)
  have hN := Nat.le_trans hN hbb.size
  clear hbb
  go_wp2_with fail
  refine (up_any l4 (some ⟨N, 0, none⟩) 4 3 (N + 1) (by decide) _ hN HL.out).mono ?_
  rintro e w11 ⟨v, rfl, ho, hb⟩
  rw [show upL l4 3 = [2] by decide] at ho
  have hB := keepb hB hb
  have HL := Lib.hid (HL.out.keep hb hN)
  have hN := Nat.le_trans hN hb.size
  clear hb
  have ho := Lib.hid ho
  go_wp2_with fail
  refine (ints_any v _ [2] _ _ (by decide) _ (ho.out.past _) (Owns.lit w11 [2] _ _ rfl rfl (by decide))).mono ?_
  rintro e w12 ⟨rfl, hb⟩
  have hbb : Below w11.heap.size w11 w12 := keepb (by go_grown) hb
  clear hb ho
  have hB := keepb hB hbb
  have HL := Lib.hid (HL.out.keep hbb hN)
  have hN := Nat.le_trans hN hbb.size
  clear hbb
  go_wp2_with fail
  refine (up_any l4 (some ⟨N, 0, none⟩) 4 0 (N + 1) (by decide) _ hN HL.out).mono ?_
  rintro e w13 ⟨v, rfl, ho, hb⟩
  rw [show upL l4 0 = [] by decide] at ho
  have hB := keepb hB hb
  have HL := Lib.hid (HL.out.keep hb hN)
  have hN := Nat.le_trans hN hb.size
  clear hb
  obtain ⟨ao, cap, rfl⟩ := ho.nil_len
  clear ho
  go_wp2_with fail
  refine (next_any l4 (some ⟨N, 0, none⟩) 4 1 (N + 1) (by decide) _ hN HL.out).mono ?_
  rintro e w14 ⟨v, rfl, ho, hb⟩
  rw [show nextL l4 1 = [2] by decide] at ho
  have hB := keepb hB hb
  have HL := Lib.hid (HL.out.keep hb hN)
  have hN := Nat.le_trans hN hb.size
  clear hb
  have ho := Lib.hid ho
  go_wp2_with fail
  refine (ints_any v _ [2] _ _ (by decide) _ (ho.out.past _) (Owns.lit w14 [2] _ _ rfl rfl (by decide))).mono ?_
  rintro e w15 ⟨rfl, hb⟩
  have hbb : Below w14.heap.size w14 w15 := keepb (by go_grown) hb
  clear hb ho
  have hB := keepb hB hbb
  have HL := Lib.hid (HL.out.keep hbb hN)
  have hN := Nat.le_trans hN hbb.size
  clear hbb
  go_wp2_with fail
  refine (next_any l4 (some ⟨N, 0, none⟩) 4 (-1) (N + 1) (by decide) _ hN HL.out).mono ?_
  rintro e w16 ⟨v, rfl, ho, hb⟩
  rw [show nextL l4 (-1) = [] by decide] at ho
  have hB := keepb hB hb
  have HL := Lib.hid (HL.out.keep hb hN)
  have hN := Nat.le_trans hN hb.size
  clear hb
  obtain ⟨ao, cap, rfl⟩ := ho.nil_len
  clear ho
  go_wp2_with fail
  refine (text_any l4 (some ⟨N, 0, none⟩) 4 ⟨#[97, 98, 99]⟩ (by decide) 2 (N + 1) (by decide) _ hN HL.out).mono ?_
  rintro e w17 ⟨rfl, hb⟩
  rw [show textS l4 ⟨#[97, 98, 99]⟩ 2 = ⟨#[98, 99]⟩ by decide]
  have hB := keepb hB hb
  have HL := Lib.hid (HL.out.keep hb hN)
  have hN := Nat.le_trans hN hb.size
  clear hb
  go_wp2_with fail
  refine (text_any l4 (some ⟨N, 0, none⟩) 4 ⟨#[97, 98]⟩ (by decide) 2 (N + 1) (by decide) _ hN HL.out).mono ?_
  rintro e w18 ⟨rfl, hb⟩
  rw [show textS l4 ⟨#[97, 98]⟩ 2 = ⟨#[98]⟩ by decide]
  have hB := keepb hB hb
  have HL := Lib.hid (HL.out.keep hb hN)
  have hN := Nat.le_trans hN hb.size
  clear hb
  go_wp2_with fail
  refine (text_any l4 (some ⟨N, 0, none⟩) 4 ⟨#[97, 98, 99]⟩ (by decide) 9 (N + 1) (by decide) _ hN HL.out).mono ?_
  rintro e w19 ⟨rfl, hb⟩
  rw [show textS l4 ⟨#[97, 98, 99]⟩ 9 = ⟨#[]⟩ by decide]
  have hB := keepb hB hb
  have HL := Lib.hid (HL.out.keep hb hN)
  have hN := Nat.le_trans hN hb.size
  clear hb
  go_wp2_with fail
  refine (leaves_any l4 (some ⟨N, 0, none⟩) 4 (N + 1) (by decide) _ hN HL.out).mono ?_
  rintro e w20 ⟨v, rfl, ho, hb⟩
  rw [show leavesL l4 = [1, 3] by decide] at ho
  have hB := keepb hB hb
  have HL := Lib.hid (HL.out.keep hb hN)
  have hN := Nat.le_trans hN hb.size
  clear hb
  have ho := Lib.hid ho
  go_wp2_with fail
  refine (ints_any v _ [1, 3] _ _ (by decide) _ (ho.out.past _) (Owns.lit w20 [1, 3] _ _ rfl rfl (by decide))).mono ?_
  rintro e w21 ⟨rfl, hb⟩
  have hbb : Below w20.heap.size w20 w21 := keepb (by go_grown) hb
  clear hb ho
  have hB := keepb hB hbb
  have HL := Lib.hid (HL.out.keep hbb hN)
  have hN := Nat.le_trans hN hbb.size
  clear hbb
  go_wp2_with fail
  go_ret
  exact ⟨rfl, hB⟩
end Go.Proofs.Ytgpglmponbipbad
