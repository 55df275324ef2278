/- The token that comes: what it is; the walk of the program's Next. -/
import Derived.Test.YtinkgidncdjapabTokE
namespace Go.Proofs.Ytinkgidncdjapab
set_option linter.unusedVariables false
open Go.RowKit

/-- The token that comes from a place on, and the place behind it. -/
def nextO (s : ByteArray) (k : Nat) : Option (Tok × Nat) := if s.size ≤ skO s k then some (⟨0, ⟨#[]⟩, set0, s.size⟩, s.size) else tkO s (skO s k)
def nextV (p : Nat) : Option (Tok × Nat) → Value
  | none => .tuple #[tokV ⟨0, ⟨#[]⟩, set0, p⟩, .int .i64 (p : Int), .bool false]
  | some (t, m) => .tuple #[tokV t, .int .i64 (m : Int), .bool true]
def nextT (s : ByteArray) (k : Nat) : Value := nextV (skO s k) (nextO s k)
theorem nextT_end {s : ByteArray} {k p : Nat} (h : skO s k = p) (hp : s.size ≤ p) : nextT s k = .tuple #[tokV ⟨0, ⟨#[]⟩, set0, s.size⟩, .int .i64 (s.size : Int), .bool true] := by unfold nextT nextO; rw [h, if_pos hp]; rfl
theorem nextT_in {s : ByteArray} {k p : Nat} (h : skO s k = p) (hp : ¬ s.size ≤ p) : nextT s k = nextV p (tkO s p) := by unfold nextT nextO; rw [h, if_neg hp]

set_option maxHeartbeats 3200000 in
set_option maxRecDepth 100000 in
theorem next_any (s : ByteArray) (hs : s.size ≤ 1000000) (i : Int) (hi : i ≤ 9223372036854775807) (w : World) :
    Calls Try.prog 7 #[.string s, .int .i64 i] w fun e w' => e = .returned (nextT s i.toNat) ∧ Below w.heap.size w w' := by
  have HE1 := Lib.hid (fun p (h : skO s i.toNat = p) => nextT_end h)
  have HI1 := Lib.hid (fun p (h : skO s i.toNat = p) => nextT_in h)
  obtain ⟨v, hv⟩ : ∃ v, nextT s i.toNat = v := ⟨_, rfl⟩
  rw [hv] at HE1 HI1 ⊢
  clear hv
  have HS : Hid (∀ W : World, Calls Try.prog 11 #[.string s, .int .i64 (max i 0)] W fun e w' => e = .returned (.int .i64 (skO s i.toNat : Int)) ∧ w' = W) := Lib.hid fun W => by
    have h := skip_any s hs i.toNat (by omega) W
    rw [show ((i.toNat : Nat) : Int) = max i 0 by omega] at h; exact h
  obtain ⟨p, hp⟩ : ∃ p, skO s i.toNat = p := ⟨_, rfl⟩
  rw [hp] at HS
  have HE2 := Lib.hid (HE1.out p hp)
  have HI2 := Lib.hid (HI1.out p hp)
  clear HE1 HI1 hp
  by_cases h1 : (s.size : Int) ≤ p
  · have HE := Lib.hid (HE2.out (by omega))
    clear HE2 HI2
    go_enter Try.func7, Try.ntmps7
    go_wp2_with fail
    refine (HS.out _).mono ?_
    rintro e w1 ⟨rfl, rfl⟩
    go_wp2
    have HF := Own.fresh w 27 [.int .i64 0, .string ⟨#[]⟩, .int .u64 0, .int .u64 0, .int .u64 0, .int .u64 0, .int .i64 (s.size : Int)]
    have HB := (Below.refl w.heap.size w).alloc (Nat.le_refl _) (.cells #[.int .i64 0, .string ⟨#[]⟩, .int .u64 0, .int .u64 0, .int .u64 0, .int .u64 0, .int .i64 (s.size : Int)] 27)
    obtain ⟨z0, z1, z2, z3, z4, z5, z6⟩ := HF.seven
    refine bodyPost_ret (by simp [results, Try.results7, go_sem, z0, z1, z2, z3, z4, z5, z6]; rfl) rfl ?_
    exact ⟨by rw [HE.out]; rfl, HB⟩
  · have HE0 := Lib.hid (HI2.out (by omega))
    have HR := Lib.hid (fun W => tread_any s hs p (by omega) W)
    have HO1 := Lib.hid (Own.fresh w 27 [.int .i64 0, .string ⟨#[]⟩, .int .u64 0, .int .u64 0, .int .u64 0, .int .u64 0, .int .i64 0])
    have HB1 := Lib.hid ((Below.refl w.heap.size w).alloc (Nat.le_refl _) (.cells #[.int .i64 0, .string ⟨#[]⟩, .int .u64 0, .int .u64 0, .int .u64 0, .int .u64 0, .int .i64 0] 27))
    clear HE2 HI2
    go_enter Try.func7, Try.ntmps7
    go_wp2_with fail
    refine (HS.out _).mono ?_
    rintro e w1 ⟨rfl, rfl⟩
    go_wp2_with fail
    refine (HR.out _).mono ?_
    rintro e w2 ⟨⟨kd, tx, x0, x1, x2, x3, n, b, rfl, hr⟩, hb2⟩
    have HO2 := Lib.hid (HO1.out.under hb2 HO1.out.lt)
    have HB2 := Lib.hid (keepb HB1.out hb2)
    have hlt2 := HO2.out.lt
    have HOW := Lib.hid (HO2.out.on_alloc (.cells #[.int .i64 (kd : Int), .string tx, .int .u64 (x0 : Int), .int .u64 (x1 : Int), .int .u64 (x2 : Int), .int .u64 (x3 : Int), .int .i64 0] 27))
    have HXW := Lib.hid (Own.fresh w2 27 [.int .i64 (kd : Int), .string tx, .int .u64 (x0 : Int), .int .u64 (x1 : Int), .int .u64 (x2 : Int), .int .u64 (x3 : Int), .int .i64 0])
    have HBW := Lib.hid (HB2.out.alloc HB2.out.size (.cells #[.int .i64 (kd : Int), .string tx, .int .u64 (x0 : Int), .int .u64 (x1 : Int), .int .u64 (x2 : Int), .int .u64 (x3 : Int), .int .i64 0] 27))
    clear hb2 HO1 HB1 HR HO2 HB2
    rcases hr with ⟨hr, rfl⟩ | ⟨rfl, hr⟩
    · have HE := Lib.hid (show v = .tuple #[tokV ⟨0, ⟨#[]⟩, set0, p⟩, .int .i64 (p : Int), .bool false] by rw [HE0.out, hr]; rfl)
      clear HE0 hr
      go_upto_region 6 with fail
      generalize w2.alloc _ = W at *
      generalize w2.heap.size = g2 at *
      obtain ⟨z0, z1, z2, z3, z4, z5, z6, y0, y1, y2, y3, y4, y5, y6⟩ := HOW.out.seven2
      go_wp2
      rw [set7t_fold]
      have HF := HOW.out.put7 (u0 := .int .i64 0) (u1 := .string ⟨#[]⟩) (u2 := .int .u64 0) (u3 := .int .u64 0) (u4 := .int .u64 0) (u5 := .int .u64 0) (u6 := .int .i64 (p : Int))
      have HB := below_put7 HBW.out (Nat.le_refl _) (.int .i64 0) (.string ⟨#[]⟩) (.int .u64 0) (.int .u64 0) (.int .u64 0) (.int .u64 0) (.int .i64 (p : Int))
      clear z0 z1 z2 z3 z4 z5 z6 y0 y1 y2 y3 y4 y5 y6
      obtain ⟨z0, z1, z2, z3, z4, z5, z6⟩ := HF.seven
      refine bodyPost_ret (by simp [results, Try.results7, go_sem, z0, z1, z2, z3, z4, z5, z6]; rfl) rfl ?_
      exact ⟨by rw [HE.out]; rfl, HB⟩
    · have HE := Lib.hid (show v = .tuple #[tokV ⟨kd, tx, (x0, x1, x2, x3), p⟩, .int .i64 (n : Int), .bool true] by rw [HE0.out, hr]; rfl)
      clear HE0 hr
      go_upto_region 7 with fail
      generalize w2.alloc _ = W at *
      generalize w2.heap.size = g2 at *
      obtain ⟨a0, a1, a2, a3, a4, a5, a6, -, -, -, -, -, -, b6⟩ := HXW.out.seven2
      go_upto_region 8 with fail
      have HOV := Lib.hid (HOW.out.off (p := ⟨g2, 6, none⟩) (by show w.heap.size ≠ g2; omega) (.int .i64 (p : Int)))
      have HXV := Lib.hid (HXW.out.put 6 (.int .i64 (p : Int)))
      have HBV := Lib.hid (HBW.out.setCell (p := ⟨g2, 6, none⟩) (by show w.heap.size ≤ g2; omega) (.int .i64 (p : Int)))
      clear HOW HXW HBW a0 a1 a2 a3 a4 a5 a6 b6
      generalize W.setCell _ _ = W2 at *
      obtain ⟨a0, a1, a2, a3, a4, a5, a6⟩ := (show Own W2 g2 27 [.int .i64 (kd : Int), .string tx, .int .u64 (x0 : Int), .int .u64 (x1 : Int), .int .u64 (x2 : Int), .int .u64 (x3 : Int), .int .i64 (p : Int)] from HXV.out).seven
      obtain ⟨z0, z1, z2, z3, z4, z5, z6, y0, y1, y2, y3, y4, y5, y6⟩ := HOV.out.seven2
      go_wp2
      rw [set7t_fold]
      have HF := HOV.out.put7 (u0 := .int .i64 (kd : Int)) (u1 := .string tx) (u2 := .int .u64 (x0 : Int)) (u3 := .int .u64 (x1 : Int)) (u4 := .int .u64 (x2 : Int)) (u5 := .int .u64 (x3 : Int)) (u6 := .int .i64 (p : Int))
      have HB := below_put7 HBV.out (Nat.le_refl _) (.int .i64 (kd : Int)) (.string tx) (.int .u64 (x0 : Int)) (.int .u64 (x1 : Int)) (.int .u64 (x2 : Int)) (.int .u64 (x3 : Int)) (.int .i64 (p : Int))
      clear z0 z1 z2 z3 z4 z5 z6 y0 y1 y2 y3 y4 y5 y6
      obtain ⟨z0, z1, z2, z3, z4, z5, z6⟩ := HF.seven
      refine bodyPost_ret (by simp [results, Try.results7, go_sem, z0, z1, z2, z3, z4, z5, z6]; rfl) rfl ?_
      exact ⟨by rw [HE.out]; rfl, HB⟩
end Go.Proofs.Ytinkgidncdjapab
