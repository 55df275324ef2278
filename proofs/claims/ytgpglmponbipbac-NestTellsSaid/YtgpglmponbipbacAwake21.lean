/- The fixed run of layer 21. -/
import Derived.Test.YtgpglmponbipbacNestS
namespace Go.Proofs.Ytgpglmponbipbac
set_option linter.unusedVariables false
open Go.RowKit Go.Sort

@[go_sem] theorem eqMark (a b a' b' : Int) (w : World) :
    (Op.equalIn 10000 33 (.agg #[.int .i64 a, .int .i64 b]) (.agg #[.int .i64 a', .int .i64 b'])).run Try.prog w = .ok (decide (a = a' ∧ b = b')) w := by
  have u3 := Try.underlying3
  have a3 := Try.isAgg3
  have z3 := Try.sizeOf3
  have hS : Try.prog.underlying 33 = some (.struct (Try.prog.fieldsOf 33)) := by kernel_rfl
  have hp : Try.prog.stoodInHeld 33 = false := by kernel_rfl
  rw [show (10000 : Nat) = 9999 + 1 from rfl, run_equalIn_agg w 9999 33 _ _ hS hp]
  simp only [Program.fieldsOf, Try.underlying33]
  go_simp
  by_cases h1 : a = a' <;> by_cases h2 : b = b' <;> simp [h1, h2]
/-- Nodes that a literal lays. -/
theorem HasS.lit (w : World) (L : List Nd) (hl : L.length ≤ maxLen) : HasS (fun _ => True) (w.alloc (.cells (rowL L).toArray 53)) (some ⟨w.heap.size, 0, none⟩) L := by
  have h := World.ownsRow_lit (base := 0) (e := 53) (size := 5) w (rowL L).toArray L.length (Nat.zero_le _) hl (by simp [rowL_len])
  have hw : Win (fun _ => True) 53 5 (w.alloc (.cells (rowL L).toArray 53)) (.slice (some ⟨w.heap.size, 0, none⟩) L.length L.length) L.length (rowL L) := Win.of_owns h (fun _ _ _ => trivial)
  obtain ⟨ao, cap, e, _, hs⟩ := hw.nodes
  cases e
  exact hs

def s0 : ByteArray := ⟨#[]⟩
def k1 : Nd := ⟨1, ⟨#[97]⟩, 0, 0, -1⟩
def k2 : Nd := ⟨4, ⟨#[]⟩, 0, 2, 0⟩
def k3 : Nd := ⟨2, ⟨#[108]⟩, 2, 2, 0⟩
def k4 : Nd := ⟨4, ⟨#[]⟩, 2, 3, 2⟩
def q2 : Nd := ⟨4, ⟨#[]⟩, 0, 2, -1⟩
def q3 : Nd := ⟨2, ⟨#[108]⟩, 2, 2, -1⟩
def q4 : Nd := ⟨4, ⟨#[]⟩, 2, 3, 1⟩
def k5 : Nd := ⟨1, ⟨#[97]⟩, 0, 3, -1⟩

set_option maxHeartbeats 12800000 in
theorem awake_any (w : World) : Calls Try.prog 6 #[] w fun e w' => e = .returned (.bool true) ∧ Below w.heap.size w w' := by
  obtain ⟨N, hNN⟩ : ∃ N, w.heap.size = N := ⟨_, rfl⟩
  have hN : N ≤ w.heap.size := by omega
  have hB : Below N w w := Below.refl _ _
  rw [hNN]
  clear hNN
  go_enter Try.func6, Try.ntmps6
  go_wp2_with fail
  refine (ns_new N hN).mono ?_
  rintro e w0 ⟨p, rfl, hb, hs⟩
  have HS := Lib.hid hs
  have hB := hB.trans (hb.mono hN)
  clear hb hs
  go_wp2_with fail
  refine (ns_open HS.out 1 ⟨#[97]⟩ 0 (by decide)).mono ?_
  rintro e w1 ⟨rfl, hb, hbx, hs⟩
  have HS : Hid (Ns N _ w1 p [k1] 0) := Lib.hid hs
  have hB := hB.trans hb
  clear hb hs hbx
  go_wp2_with fail
  refine (ns_mark HS.out).mono ?_
  rintro e w2 ⟨rfl, hb⟩
  have hb2 : Below w1.heap.size w1 (w2.alloc (.cells #[.int .i64 1, .int .i64 0] 33)) := hb.alloc hb.size _
  have HS := Lib.hid (HS.out.more (Y := fun g => g = w2.heap.size) hb2 (fun g hg => .inr (by subst hg; exact ⟨hb.size, by simp⟩)))
  have HM := Lib.hid (Own.fresh w2 33 [.int .i64 1, .int .i64 0])
  have hB := hB.trans (hb2.mono (by have := HS.out; obtain ⟨_, _, _, _, _, _⟩ := this; have := hB.size; omega))
  clear hb hb2
  go_wp2_with fail
  change Hid (Own (w2.alloc (.cells #[.int .i64 1, .int .i64 0] 33)) w2.heap.size 33 [.int .i64 1, .int .i64 0]) at HM
  obtain ⟨b2, hb2⟩ : ∃ b2, w2.heap.size = b2 := ⟨_, rfl⟩
  obtain ⟨w3, hw3⟩ : ∃ w3, w2.alloc (.cells #[.int .i64 1, .int .i64 0] 33) = w3 := ⟨_, rfl⟩
  rw [hb2, hw3] at HS HM ⊢
  rw [hw3] at hB
  clear hb2 hw3
  refine (ns_leaf HS.out 4 0 2 (by decide)).mono ?_
  rintro e w4 ⟨rfl, hb, hbx, hs⟩
  have HS : Hid (Ns N _ w4 p [k1, k2] 0) := Lib.hid hs
  have HM := Lib.hid (HM.out.off_but hbx rfl)
  have hB := hB.trans hb
  clear hb hs hbx
  go_wp2_with fail
  refine (ns_open HS.out 2 ⟨#[108]⟩ 2 (by decide)).mono ?_
  rintro e w5 ⟨rfl, hb, hbx, hs⟩
  have HS : Hid (Ns N _ w5 p [k1, k2, k3] 2) := Lib.hid hs
  have HM := Lib.hid (HM.out.off_but hbx rfl)
  have hB := hB.trans hb
  clear hb hs hbx
  go_wp2_with fail
  refine (ns_leaf HS.out 4 2 3 (by decide)).mono ?_
  rintro e w6 ⟨rfl, hb, hbx, hs⟩
  have HS : Hid (Ns N _ w6 p [k1, k2, k3, k4] 2) := Lib.hid hs
  have HM := Lib.hid (HM.out.off_but hbx rfl)
  have hB := hB.trans hb
  clear hb hs hbx
  obtain ⟨m0, m1, -, -⟩ := HM.out.two
  go_wp2_with fail
  refine (ns_part HS.out 1 0 (by decide) (by decide) (by decide) (by decide)).mono ?_
  rintro e w7 ⟨ao, cap, rfl, hP, hb⟩
  rw [show partL [k1, k2, k3, k4] 1 = [q2, q3, q4] from rfl] at hP
  have hX := HM.out.lt
  have HS := Lib.hid (HS.out.more (Y := fun g => g = b2 ∨ w6.heap.size ≤ g ∧ g < w7.heap.size) hb (fun g hg => hg.imp id id))
  have HM := Lib.hid (HM.out.under hb HM.out.lt)
  have HP := Lib.hid hP
  have hB := hB.trans (hb.mono (by have := HS.out.sz; have := hB.size; omega))
  have hs67 := hb.size
  clear hP hb m0 m1
  obtain ⟨m0, m1, -, -⟩ := HM.out.two
  rw [show (partL [k1, k2, k3, k4] 1).length = 3 from rfl]
  go_wp2_with fail
  refine (ns_back HS.out 1 0 (by decide) (by decide) (by decide) (by decide)).mono ?_
  rintro e w8 ⟨rfl, hb, hbx, hs⟩
  have HS : Hid (Ns N _ w8 p [k1] 0) := Lib.hid hs
  have HM := Lib.hid (HM.out.off_but hbx (.inl rfl))
  have HP := Lib.hid ((HP.out.mono (S := fun g => w6.heap.size ≤ g ∧ g < w7.heap.size) (fun g hl hr => ⟨hr, hl⟩)).off_but hbx (fun g _ hr => .inr hr))
  clear m0 m1
  have hB := hB.trans hb
  clear hb hs hbx
  go_wp2_with fail
  refine (ns_add HS.out [q2, q3, q4] ao cap _ (by decide) (by decide) HP.out (fun g _ hr => .inr hr)).mono ?_
  rintro e w9 ⟨rfl, hb, hbx, hs⟩
  have HS : Hid (Ns N _ w9 p [k1, k2, k3, k4] 0) := Lib.hid hs
  have HM := Lib.hid (HM.out.off_but hbx (.inl rfl))
  have HP := Lib.hid (HP.out.off_but hbx (fun g _ hr => .inr hr))
  have hB := hB.trans hb
  clear hb hs hbx
  go_wp2_with fail
  refine (ns_close (t := 0) HS.out 3 k1 (by decide) rfl).mono ?_
  rintro e w10 ⟨rfl, hb, hbx, hs⟩
  have HS : Hid (Ns N _ w10 p [k5, k2, k3, k4] (-1)) := Lib.hid hs
  have HM := Lib.hid (HM.out.off_but hbx (.inl rfl))
  have HP := Lib.hid (HP.out.off_but hbx (fun g _ hr => .inr hr))
  have hB := hB.trans hb
  clear hb hs hbx
  go_wp2_with fail
  refine (ns_close_no HS.out 9 (by decide)).mono ?_
  rintro e w11 ⟨rfl, rfl⟩
  go_wp2_with fail
  refine (ns_tree HS.out (by decide)).mono ?_
  rintro e w12 ⟨bo, bc, rfl, hT, hb⟩
  have hN10 := HS.out.sz
  have HS := Lib.hid (HS.out.below hb)
  have HM := Lib.hid (HM.out.under hb HM.out.lt)
  have HP := Lib.hid (HP.out.below hb)
  have HT := Lib.hid hT
  have hB := hB.trans (hb.mono hN10)
  clear hT hb
  rw [show [k5, k2, k3, k4].length = 4 from rfl]
  obtain ⟨m0, m1, -, -⟩ := HM.out.two
  obtain ⟨gp, gf, rfl, -, -, -, -, -, -, u0⟩ := HP.out 0 q2 rfl
  obtain ⟨_, _, e2, -, -, -, -, -, -, u2⟩ := HP.out 2 q4 rfl
  cases e2
  have u0' : w12.cell? ⟨gp, gf + 4, none⟩ = some (.int .i64 (-1)) := by
    have h : w12.cell? ⟨gp, gf + 0 * 5 + 4, none⟩ = some (.int .i64 (-1)) := u0
    simpa using h
  have u2' : w12.cell? ⟨gp, gf + 2 * 5 + 4, none⟩ = some (.int .i64 1) := u2
  clear u0 u2
  go_wp2_with fail
  have hl := HasS.lit w12 [k5, k2, k3, k4] (by decide)
  have hbl : Below w12.heap.size w12 (w12.alloc (.cells (rowL [k5, k2, k3, k4]).toArray 53)) := (Below.refl _ _).alloc (Nat.le_refl _) _
  refine (leaves_same [k5, k2, k3, k4] bo (some ⟨w12.heap.size, 0, none⟩) bc 4 _ _ (by decide) (w12.alloc (.cells (rowL [k5, k2, k3, k4]).toArray 53)) (HT.out.below hbl) hl).mono ?_
  rintro e w13 ⟨rfl, hb⟩
  have hbb := hbl.trans (hb.mono hbl.size)
  have hN12 := HS.out.sz
  have HS := Lib.hid (HS.out.below hbb)
  have hM := HM.out.under hbb HM.out.lt
  have hB := hB.trans (hbb.mono hN12)
  clear hl hbl hb hbb m0 m1 u0' u2' HT HP HM
  obtain ⟨m0, m1, -, -⟩ := hM.two
  clear hM
  go_wp2_with fail
  refine (ns_mark HS.out).mono ?_
  rintro e w14 ⟨rfl, hb⟩
  rw [show [k5, k2, k3, k4].length = 4 from rfl]
  have hN13 := HS.out.sz
  have hB := hB.trans (hb.mono hN13)
  clear hb
  go_wp2_with fail
  go_ret
  exact ⟨rfl, hB⟩
end Go.Proofs.Ytgpglmponbipbac
