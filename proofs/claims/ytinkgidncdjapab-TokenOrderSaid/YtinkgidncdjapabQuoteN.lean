/- A row of a class: the walk of the program's row. -/
import Derived.Test.YtinkgidncdjapabQuoteM
import Derived.Test.YtinkgidncdjapabAlphaR
namespace Go.Proofs.Ytinkgidncdjapab
set_option linter.unusedVariables false
open Go.RowKit

/-- The row of a class that stands at a place: its first byte, its last, and the place behind it. -/
def rowO (s : ByteArray) (k : Nat) : Option ((Nat × Nat) × Nat) :=
  match sglO s k with
  | none => none
  | some (lo, m) =>
    if standB s (m : Int) 45 = true then
      match sglO s (m + 1) with
      | none => none
      | some (hi, m') => if hi < lo then none else some ((lo.toNat, hi.toNat), m')
    else some ((lo.toNat, lo.toNat), m)
def rowT : Option ((Nat × Nat) × Nat) → Value
  | none => .tuple #[.agg #[.int .u64 0, .int .u64 0, .int .u64 0, .int .u64 0], .int .i64 0, .bool false]
  | some ((lo, hi), m) => .tuple #[.agg #[.int .u64 (rowW 0 lo (hi + 1) : Int), .int .u64 (rowW 1 lo (hi + 1) : Int), .int .u64 (rowW 2 lo (hi + 1) : Int), .int .u64 (rowW 3 lo (hi + 1) : Int)], .int .i64 (m : Int), .bool true]
theorem rowO_none {s : ByteArray} {k : Nat} (h : sglO s k = none) : rowO s k = none := by unfold rowO; rw [h]
theorem rowO_one {s : ByteArray} {k m : Nat} {lo : Int} (h : sglO s k = some (lo, m)) (hd : standB s (m : Int) 45 = false) : rowO s k = some ((lo.toNat, lo.toNat), m) := by
  unfold rowO; rw [h]; show (if _ then _ else _) = _; rw [if_neg (by rw [hd]; decide)]
theorem rowO_two {s : ByteArray} {k m : Nat} {lo : Int} (h : sglO s k = some (lo, m)) (hd : standB s (m : Int) 45 = true) : rowO s k = match sglO s (m + 1) with
      | none => none
      | some (hi, m') => if hi < lo then none else some ((lo.toNat, hi.toNat), m') := by
  unfold rowO; rw [h]; show (if _ then _ else _) = _; rw [if_pos hd]

set_option maxHeartbeats 1600000 in
set_option maxRecDepth 100000 in
theorem row_any (s : ByteArray) (hs : s.size ≤ 1000000) (k : Nat) (hk : k ≤ 1000100) (w : World) :
    Calls Try.prog 32 #[.string s, .int .i64 (k : Int)] w fun e w' => e = .returned (rowT (rowO s k)) ∧ Below w.heap.size w w' := by
  have HR := Lib.hid (fun W => single_any s hs k (by omega) W)
  cases hq : sglO s k with
  | none =>
    have HE := Lib.hid (congrArg rowT (rowO_none hq))
    rw [hq] at HR
    simp only [sglT] at HR
    clear hq
    have HO0 := Lib.hid (Own.fresh w 25 [.int .u64 0, .int .u64 0, .int .u64 0, .int .u64 0])
    have HB0 := Lib.hid (show Below w.heap.size w (w.alloc (.cells #[.int .u64 0, .int .u64 0, .int .u64 0, .int .u64 0] 25)) from (Below.refl _ _).alloc (Nat.le_refl _) _)
    go_enter Try.func32, Try.ntmps32
    go_wp2_with fail
    refine (HR.out _).mono ?_
    rintro e w2 ⟨he, hb2⟩
    subst he
    have HO2 := Lib.hid (HO0.out.under hb2 HO0.out.lt)
    have HB2 := Lib.hid (keepb HB0.out hb2)
    clear hb2 HO0 HB0
    obtain ⟨z0, z1, z2, z3, y0, y1, y2, y3⟩ := HO2.out.four
    go_wp2
    rw [set4_fold]
    have hF := HO2.out.put4 (u0 := .int .u64 0) (u1 := .int .u64 0) (u2 := .int .u64 0) (u3 := .int .u64 0)
    have hB := below_put4 HB2.out (Nat.le_refl _) (.int .u64 0) (.int .u64 0) (.int .u64 0) (.int .u64 0)
    clear z0 z1 z2 z3 y0 y1 y2 y3
    obtain ⟨z0, z1, z2, z3, -⟩ := hF.four
    refine bodyPost_ret (by simp [results, Try.results32, go_sem, z0, z1, z2, z3]; rfl) rfl ?_
    exact ⟨by rw [HE.out]; rfl, hB⟩
  | some p =>
    obtain ⟨c, m⟩ := p
    obtain ⟨b1, b2, b3, b4, b5⟩ := sglO_bd hq
    obtain ⟨lo, rfl⟩ : ∃ lo : Nat, c = (lo : Int) := ⟨c.toNat, by omega⟩
    have hlo : lo < 256 := by omega
    have HS := Lib.hid (fun W => stands_any s (m : Int) 45 W)
    obtain ⟨bd, hd⟩ : ∃ bd, standB s (m : Int) 45 = bd := ⟨_, rfl⟩
    cases bd
    · have HE := Lib.hid (congrArg rowT (rowO_one hq hd))
      rw [Int.toNat_natCast] at HE
      rw [hq] at HR
      simp only [sglT] at HR
      rw [hd] at HS
      have HG := Lib.hid (fun W => range_any lo lo hlo hlo W)
      clear hq hd
      have HO0 := Lib.hid (Own.fresh w 25 [.int .u64 0, .int .u64 0, .int .u64 0, .int .u64 0])
      have HB0 := Lib.hid (show Below w.heap.size w (w.alloc (.cells #[.int .u64 0, .int .u64 0, .int .u64 0, .int .u64 0] 25)) from (Below.refl _ _).alloc (Nat.le_refl _) _)
      go_enter Try.func32, Try.ntmps32
      go_wp2_with fail
      refine (HR.out _).mono ?_
      rintro e w2 ⟨he, hb2⟩
      subst he
      have HO2 := Lib.hid (HO0.out.under hb2 HO0.out.lt)
      have HB2 := Lib.hid (keepb HB0.out hb2)
      clear hb2 HO0 HB0
      go_wp2_with fail
      refine (HS.out _).mono ?_
      rintro e wx ⟨rfl, rfl⟩
      go_wp2_with fail
      refine (HG.out _).mono ?_
      rintro e w3 ⟨he, hb3⟩
      subst he
      have HO3 := Lib.hid (HO2.out.under hb3 HO2.out.lt)
      have HB3 := Lib.hid (keepb HB2.out hb3)
      clear hb3 HO2 HB2
      obtain ⟨z0, z1, z2, z3, y0, y1, y2, y3⟩ := HO3.out.four
      go_wp2
      rw [set4_fold]
      have hF := HO3.out.put4 (u0 := .int .u64 (rowW 0 lo (lo + 1) : Int)) (u1 := .int .u64 (rowW 1 lo (lo + 1) : Int)) (u2 := .int .u64 (rowW 2 lo (lo + 1) : Int)) (u3 := .int .u64 (rowW 3 lo (lo + 1) : Int))
      have hB := below_put4 HB3.out (Nat.le_refl _) (.int .u64 (rowW 0 lo (lo + 1) : Int)) (.int .u64 (rowW 1 lo (lo + 1) : Int)) (.int .u64 (rowW 2 lo (lo + 1) : Int)) (.int .u64 (rowW 3 lo (lo + 1) : Int))
      clear z0 z1 z2 z3 y0 y1 y2 y3
      obtain ⟨z0, z1, z2, z3, -⟩ := hF.four
      refine bodyPost_ret (by simp [results, Try.results32, go_sem, z0, z1, z2, z3]; rfl) rfl ?_
      exact ⟨by rw [HE.out]; rfl, hB⟩
    · have hE := rowO_two hq hd
      have HR2 := Lib.hid (fun W => single_any s hs (m + 1) (by omega) W)
      rw [show ((m + 1 : Nat) : Int) = (m : Int) + 1 by omega] at HR2
      rw [hq] at HR
      simp only [sglT] at HR
      rw [hd] at HS
      clear hq hd
      cases hq : sglO s (m + 1) with
      | none =>
        have HE := Lib.hid (congrArg rowT (hE.trans (by rw [hq])))
        rw [hq] at HR2
        simp only [sglT] at HR2
        clear hq hE
        have HO0 := Lib.hid (Own.fresh w 25 [.int .u64 0, .int .u64 0, .int .u64 0, .int .u64 0])
        have HB0 := Lib.hid (show Below w.heap.size w (w.alloc (.cells #[.int .u64 0, .int .u64 0, .int .u64 0, .int .u64 0] 25)) from (Below.refl _ _).alloc (Nat.le_refl _) _)
        go_enter Try.func32, Try.ntmps32
        go_wp2_with fail
        refine (HR.out _).mono ?_
        rintro e w2 ⟨he, hb2⟩
        subst he
        have HO2 := Lib.hid (HO0.out.under hb2 HO0.out.lt)
        have HB2 := Lib.hid (keepb HB0.out hb2)
        clear hb2 HO0 HB0
        go_wp2_with fail
        refine (HS.out _).mono ?_
        rintro e wx ⟨rfl, rfl⟩
        go_wp2_with fail
        refine (HR2.out _).mono ?_
        rintro e w3 ⟨he, hb3⟩
        subst he
        have HO3 := Lib.hid (HO2.out.under hb3 HO2.out.lt)
        have HB3 := Lib.hid (keepb HB2.out hb3)
        clear hb3 HO2 HB2
        obtain ⟨z0, z1, z2, z3, y0, y1, y2, y3⟩ := HO3.out.four
        go_wp2
        rw [set4_fold]
        have hF := HO3.out.put4 (u0 := .int .u64 0) (u1 := .int .u64 0) (u2 := .int .u64 0) (u3 := .int .u64 0)
        have hB := below_put4 HB3.out (Nat.le_refl _) (.int .u64 0) (.int .u64 0) (.int .u64 0) (.int .u64 0)
        clear z0 z1 z2 z3 y0 y1 y2 y3
        obtain ⟨z0, z1, z2, z3, -⟩ := hF.four
        refine bodyPost_ret (by simp [results, Try.results32, go_sem, z0, z1, z2, z3]; rfl) rfl ?_
        exact ⟨by rw [HE.out]; rfl, hB⟩
      | some p =>
        obtain ⟨c, m'⟩ := p
        obtain ⟨b6, b7, b8, b9, b10⟩ := sglO_bd hq
        obtain ⟨hi, rfl⟩ : ∃ hi : Nat, c = (hi : Int) := ⟨c.toNat, by omega⟩
        have hhi : hi < 256 := by omega
        rw [hq] at HR2 hE
        simp only [sglT] at HR2
        clear hq
        by_cases g : (hi : Int) < (lo : Int)
        · have HE := Lib.hid (congrArg rowT (hE.trans (if_pos g)))
          clear hE
          have HO0 := Lib.hid (Own.fresh w 25 [.int .u64 0, .int .u64 0, .int .u64 0, .int .u64 0])
          have HB0 := Lib.hid (show Below w.heap.size w (w.alloc (.cells #[.int .u64 0, .int .u64 0, .int .u64 0, .int .u64 0] 25)) from (Below.refl _ _).alloc (Nat.le_refl _) _)
          go_enter Try.func32, Try.ntmps32
          go_wp2_with fail
          refine (HR.out _).mono ?_
          rintro e w2 ⟨he, hb2⟩
          subst he
          have HO2 := Lib.hid (HO0.out.under hb2 HO0.out.lt)
          have HB2 := Lib.hid (keepb HB0.out hb2)
          clear hb2 HO0 HB0
          go_wp2_with fail
          refine (HS.out _).mono ?_
          rintro e wx ⟨rfl, rfl⟩
          go_wp2_with fail
          refine (HR2.out _).mono ?_
          rintro e w3 ⟨he, hb3⟩
          subst he
          have HO3 := Lib.hid (HO2.out.under hb3 HO2.out.lt)
          have HB3 := Lib.hid (keepb HB2.out hb3)
          clear hb3 HO2 HB2
          obtain ⟨z0, z1, z2, z3, y0, y1, y2, y3⟩ := HO3.out.four
          go_wp2
          rw [set4_fold]
          have hF := HO3.out.put4 (u0 := .int .u64 0) (u1 := .int .u64 0) (u2 := .int .u64 0) (u3 := .int .u64 0)
          have hB := below_put4 HB3.out (Nat.le_refl _) (.int .u64 0) (.int .u64 0) (.int .u64 0) (.int .u64 0)
          clear z0 z1 z2 z3 y0 y1 y2 y3
          obtain ⟨z0, z1, z2, z3, -⟩ := hF.four
          refine bodyPost_ret (by simp [results, Try.results32, go_sem, z0, z1, z2, z3]; rfl) rfl ?_
          exact ⟨by rw [HE.out]; rfl, hB⟩
        · have HE := Lib.hid (congrArg rowT (hE.trans (if_neg g)))
          rw [Int.toNat_natCast, Int.toNat_natCast] at HE
          have HG := Lib.hid (fun W => range_any lo hi hlo hhi W)
          clear hE
          have HO0 := Lib.hid (Own.fresh w 25 [.int .u64 0, .int .u64 0, .int .u64 0, .int .u64 0])
          have HB0 := Lib.hid (show Below w.heap.size w (w.alloc (.cells #[.int .u64 0, .int .u64 0, .int .u64 0, .int .u64 0] 25)) from (Below.refl _ _).alloc (Nat.le_refl _) _)
          go_enter Try.func32, Try.ntmps32
          go_wp2_with fail
          refine (HR.out _).mono ?_
          rintro e w2 ⟨he, hb2⟩
          subst he
          have HO2 := Lib.hid (HO0.out.under hb2 HO0.out.lt)
          have HB2 := Lib.hid (keepb HB0.out hb2)
          clear hb2 HO0 HB0
          go_wp2_with fail
          refine (HS.out _).mono ?_
          rintro e wx ⟨rfl, rfl⟩
          go_wp2_with fail
          refine (HR2.out _).mono ?_
          rintro e w3 ⟨he, hb3⟩
          subst he
          have HO3 := Lib.hid (HO2.out.under hb3 HO2.out.lt)
          have HB3 := Lib.hid (keepb HB2.out hb3)
          clear hb3 HO2 HB2
          go_wp2_with fail
          refine (HG.out _).mono ?_
          rintro e w4 ⟨he, hb4⟩
          subst he
          have HO4 := Lib.hid (HO3.out.under hb4 HO3.out.lt)
          have HB4 := Lib.hid (keepb HB3.out hb4)
          clear hb4 HO3 HB3
          obtain ⟨z0, z1, z2, z3, y0, y1, y2, y3⟩ := HO4.out.four
          go_wp2
          rw [set4_fold]
          have hF := HO4.out.put4 (u0 := .int .u64 (rowW 0 lo (hi + 1) : Int)) (u1 := .int .u64 (rowW 1 lo (hi + 1) : Int)) (u2 := .int .u64 (rowW 2 lo (hi + 1) : Int)) (u3 := .int .u64 (rowW 3 lo (hi + 1) : Int))
          have hB := below_put4 HB4.out (Nat.le_refl _) (.int .u64 (rowW 0 lo (hi + 1) : Int)) (.int .u64 (rowW 1 lo (hi + 1) : Int)) (.int .u64 (rowW 2 lo (hi + 1) : Int)) (.int .u64 (rowW 3 lo (hi + 1) : Int))
          clear z0 z1 z2 z3 y0 y1 y2 y3
          obtain ⟨z0, z1, z2, z3, -⟩ := hF.four
          refine bodyPost_ret (by simp [results, Try.results32, go_sem, z0, z1, z2, z3]; rfl) rfl ?_
          exact ⟨by rw [HE.out]; rfl, hB⟩
end Go.Proofs.Ytinkgidncdjapab
