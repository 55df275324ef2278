/- The walk of alphabet.Range. A row of a class: the walk of the program's row. A class that stands at a place: what it is. What is written is read: one byte. Math alone. What is written is read: a text. Math alone. Plain facts on sets: what is in which, and how many are. No program in sight. What is written is read: a class. Math alone. A class that stands at a place: what it is, and that what is written is read. Math alone. -/
import Derived.Test.YtonknapfndaalaaGf
import Derived.Test.YtonknapfndaalaaGp
namespace Go.Proofs.Ytonknapfndaalaa
set_option linter.unusedVariables false
set_option maxRecDepth 1000000
open Go.RowKit
set_option maxHeartbeats 1000000 in
theorem range_any (lo hi : Nat) (hl : lo < 256) (hh : hi < 256) (w : World) :
  Calls Try.prog 106 #[.int .u8 (lo : Int), .int .u8 (hi : Int)] w
   fun e w' => e = .returned (.agg #[.int .u64 (rowW 0 lo (hi + 1) : Int), .int .u64 (rowW 1 lo (hi + 1) : Int), .int .u64 (rowW 2 lo (hi + 1) : Int), .int .u64 (rowW 3 lo (hi + 1) : Int)]) ∧ Below w.heap.size w w' := by
 go_enter Try.func106, Try.ntmps106
 go_wp2
 go_loopw [6] (fun b wr => ∃ m : Nat, lo ≤ m ∧ (m ≤ hi + 1 ∨ m = lo) ∧ b = .int .i64 (m : Int) ∧ Own wr w.heap.size 25 [.int .u64 0, .int .u64 0, .int .u64 0, .int .u64 0] ∧
   Own wr (w.heap.size + 1) 25 [.int .u64 (rowW 0 lo m : Int), .int .u64 (rowW 1 lo m : Int), .int .u64 (rowW 2 lo m : Int), .int .u64 (rowW 3 lo m : Int)] ∧ Below w.heap.size w wr)
  (fun b _ => hi + 1 - (intOf b).toNat)
 case atStart => 
  refine ⟨lo, Nat.le_refl _, .inr rfl, rfl, (Own.fresh w _ _).on_alloc _, ?_, by go_grown⟩
  simp only [rowW_start]
  exact Own.fresh' (by simp) _ _
 case round =>
  obtain ⟨m, hm1, hm2, rfl, ho, hs, hb⟩ := hrel
  obtain ⟨o0, o1, o2, o3, q0, q1, q2, q3⟩ := ho.four
  obtain ⟨s0, s1, s2, s3, r0, r1, r2, r3⟩ := hs.four
  by_cases hlt : m ≤ hi
  ·
   go_wp2_with fail
   refine (with_any _ _ _ _ _ (by omega) (rowW_lt ..) (rowW_lt ..) (rowW_lt ..) (rowW_lt ..) _).mono ?_
   rintro e w1 ⟨rfl, hb1⟩
   have ho1 := ho.under hb1 ho.lt
   have hs1 := hs.under hb1 hs.lt
   clear o0 o1 o2 o3 q0 q1 q2 q3 s0 s1 s2 s3 r0 r1 r2 r3
   obtain ⟨s0, s1, s2, s3, r0, r1, r2, r3⟩ := hs1.four
   go_wp2
   go_roundw
   case rel =>
    refine ⟨m + 1, by omega, by omega, by go_num, ho1.off4 (by omega) _ _ _ _, ?_, below_put4 (hb.trans (hb1.mono hb.size)) (by omega) _ _ _ _⟩
    simp only [rowW_step hm1]
    exact hs1.put4
   case measure => simp [intOf]; omega
  ·
   have E (i : Nat) := rowW_end (i := i) hlt hm2
   have H := Lib.hid E
   clear E
   go_wp2
   rw [set4_fold]
   have hF := ho.put4 (u0 := .int .u64 (rowW 0 lo m : Int)) (u1 := .int .u64 (rowW 1 lo m : Int)) (u2 := .int .u64 (rowW 2 lo m : Int)) (u3 := .int .u64 (rowW 3 lo m : Int))
   have hB := below_put4 hb (Nat.le_refl _) (.int .u64 (rowW 0 lo m : Int)) (.int .u64 (rowW 1 lo m : Int)) (.int .u64 (rowW 2 lo m : Int)) (.int .u64 (rowW 3 lo m : Int))
   obtain ⟨z0, z1, z2, z3, -⟩ := hF.four
   refine bodyPost_ret (by simp [results, Try.results106, go_sem, z0, z1, z2, z3]; rfl) rfl ?_
   exact ⟨ret_set (by rw [H.out]) (by rw [H.out]) (by rw [H.out]) (by rw [H.out]), hB⟩
end Go.Proofs.Ytonknapfndaalaa

namespace Go.Proofs.Ytonknapfndaalaa
set_option linter.unusedVariables false
set_option maxRecDepth 1000000
open Go.RowKit
/-- The row of a class that stands at a place: its first byte, its last, and the place behind it. -/
def rowO (s : ByteArray) (k : Nat) : Option ((Nat × Nat) × Nat) :=
 match sglO s k with
 | none => none
 | some (lo, m) =>
  if standB s (m : Int) 45 = true then
   match sglO s (m + 1) with
   | none => none
   | some (hi, m') => if hi < lo then none else some ((lo.toNat, hi.toNat), m')
  else some ((lo.toNat, lo.toNat), m)
def rowT : Option ((Nat × Nat) × Nat) → Value
 | none => .tuple #[.agg #[.int .u64 0, .int .u64 0, .int .u64 0, .int .u64 0], .int .i64 0, .bool false]
 | some ((lo, hi), m) => .tuple #[.agg #[.int .u64 (rowW 0 lo (hi + 1) : Int), .int .u64 (rowW 1 lo (hi + 1) : Int), .int .u64 (rowW 2 lo (hi + 1) : Int), .int .u64 (rowW 3 lo (hi + 1) : Int)], .int .i64 (m : Int), .bool true]
theorem rowO_none {s : ByteArray} {k : Nat} (h : sglO s k = none) : rowO s k = none := by unfold rowO; rw [h]
theorem rowO_one {s : ByteArray} {k m : Nat} {lo : Int} (h : sglO s k = some (lo, m)) (hd : standB s (m : Int) 45 = false) : rowO s k = some ((lo.toNat, lo.toNat), m) := by
 unfold rowO; rw [h]; show (if _ then _ else _) = _; rw [if_neg (by rw [hd]; decide)]
theorem rowO_two {s : ByteArray} {k m : Nat} {lo : Int} (h : sglO s k = some (lo, m)) (hd : standB s (m : Int) 45 = true) : rowO s k = match sglO s (m + 1) with
   | none => none
   | some (hi, m') => if hi < lo then none else some ((lo.toNat, hi.toNat), m') := by
 unfold rowO; rw [h]; show (if _ then _ else _) = _; rw [if_pos hd]
set_option maxHeartbeats 1600000 in
set_option maxRecDepth 100000 in
theorem row_any (s : ByteArray) (hs : s.size ≤ 1000000) (k : Nat) (hk : k ≤ 1000100) (w : World) :
  Calls Try.prog 90 #[.string s, .int .i64 (k : Int)] w fun e w' => e = .returned (rowT (rowO s k)) ∧ Below w.heap.size w w' := by
 have HR := Lib.hid (fun W => single_any s hs k (by omega) W)
 cases hq : sglO s k with
 | none =>
  have HE := Lib.hid (congrArg rowT (rowO_none hq))
  rw [hq] at HR
  simp only [sglT] at HR
  clear hq
  have HO0 := Lib.hid (Own.fresh w 25 [.int .u64 0, .int .u64 0, .int .u64 0, .int .u64 0])
  have HB0 := Lib.hid (show Below w.heap.size w (w.alloc (.cells #[.int .u64 0, .int .u64 0, .int .u64 0, .int .u64 0] 25)) from (Below.refl _ _).alloc (Nat.le_refl _) _)
  go_enter Try.func90, Try.ntmps90
  go_wp2_with fail
  refine (HR.out _).mono ?_
  rintro e w2 ⟨he, hb2⟩
  subst he
  have HO2 := Lib.hid (HO0.out.under hb2 HO0.out.lt)
  have HB2 := Lib.hid (keepb HB0.out hb2)
  clear hb2 HO0 HB0
  obtain ⟨z0, z1, z2, z3, y0, y1, y2, y3⟩ := HO2.out.four
  go_wp2
  rw [set4_fold]
  have hF := HO2.out.put4 (u0 := .int .u64 0) (u1 := .int .u64 0) (u2 := .int .u64 0) (u3 := .int .u64 0)
  have hB := below_put4 HB2.out (Nat.le_refl _) (.int .u64 0) (.int .u64 0) (.int .u64 0) (.int .u64 0)
  clear z0 z1 z2 z3 y0 y1 y2 y3
  obtain ⟨z0, z1, z2, z3, -⟩ := hF.four
  refine bodyPost_ret (by simp [results, Try.results90, go_sem, z0, z1, z2, z3]; rfl) rfl ?_
  exact ⟨by rw [HE.out]; rfl, hB⟩
 | some p =>
  obtain ⟨c, m⟩ := p
  obtain ⟨b1, b2, b3, b4, b5⟩ := sglO_bd hq
  obtain ⟨lo, rfl⟩ : ∃ lo : Nat, c = (lo : Int) := ⟨c.toNat, by omega⟩
  have hlo : lo < 256 := by omega
  have HS := Lib.hid (fun W => stands_any s (m : Int) 45 W)
  obtain ⟨bd, hd⟩ : ∃ bd, standB s (m : Int) 45 = bd := ⟨_, rfl⟩
  cases bd
  ·
   have HE := Lib.hid (congrArg rowT (rowO_one hq hd))
   rw [Int.toNat_natCast] at HE
   rw [hq] at HR
   simp only [sglT] at HR
   rw [hd] at HS
   have HG := Lib.hid (fun W => range_any lo lo hlo hlo W)
   clear hq hd
   have HO0 := Lib.hid (Own.fresh w 25 [.int .u64 0, .int .u64 0, .int .u64 0, .int .u64 0])
   have HB0 := Lib.hid (show Below w.heap.size w (w.alloc (.cells #[.int .u64 0, .int .u64 0, .int .u64 0, .int .u64 0] 25)) from (Below.refl _ _).alloc (Nat.le_refl _) _)
   go_enter Try.func90, Try.ntmps90
   go_wp2_with fail
   refine (HR.out _).mono ?_
   rintro e w2 ⟨he, hb2⟩
   subst he
   have HO2 := Lib.hid (HO0.out.under hb2 HO0.out.lt)
   have HB2 := Lib.hid (keepb HB0.out hb2)
   clear hb2 HO0 HB0
   go_wp2_with fail
   refine (HS.out _).mono ?_
   rintro e wx ⟨rfl, rfl⟩
   go_wp2_with fail
   refine (HG.out _).mono ?_
   rintro e w3 ⟨he, hb3⟩
   subst he
   have HO3 := Lib.hid (HO2.out.under hb3 HO2.out.lt)
   have HB3 := Lib.hid (keepb HB2.out hb3)
   clear hb3 HO2 HB2
   obtain ⟨z0, z1, z2, z3, y0, y1, y2, y3⟩ := HO3.out.four
   go_wp2
   rw [set4_fold]
   have hF := HO3.out.put4 (u0 := .int .u64 (rowW 0 lo (lo + 1) : Int)) (u1 := .int .u64 (rowW 1 lo (lo + 1) : Int)) (u2 := .int .u64 (rowW 2 lo (lo + 1) : Int)) (u3 := .int .u64 (rowW 3 lo (lo + 1) : Int))
   have hB := below_put4 HB3.out (Nat.le_refl _) (.int .u64 (rowW 0 lo (lo + 1) : Int)) (.int .u64 (rowW 1 lo (lo + 1) : Int)) (.int .u64 (rowW 2 lo (lo + 1) : Int)) (.int .u64 (rowW 3 lo (lo + 1) : Int))
   clear z0 z1 z2 z3 y0 y1 y2 y3
   obtain ⟨z0, z1, z2, z3, -⟩ := hF.four
   refine bodyPost_ret (by simp [results, Try.results90, go_sem, z0, z1, z2, z3]; rfl) rfl ?_
   exact ⟨by rw [HE.out]; rfl, hB⟩
  ·
   have hE := rowO_two hq hd
   have HR2 := Lib.hid (fun W => single_any s hs (m + 1) (by omega) W)
   rw [show ((m + 1 : Nat) : Int) = (m : Int) + 1 by omega] at HR2
   rw [hq] at HR
   simp only [sglT] at HR
   rw [hd] at HS
   clear hq hd
   cases hq : sglO s (m + 1) with
   | none =>
    have HE := Lib.hid (congrArg rowT (hE.trans (by rw [hq])))
    rw [hq] at HR2
    simp only [sglT] at HR2
    clear hq hE
    have HO0 := Lib.hid (Own.fresh w 25 [.int .u64 0, .int .u64 0, .int .u64 0, .int .u64 0])
    have HB0 := Lib.hid (show Below w.heap.size w (w.alloc (.cells #[.int .u64 0, .int .u64 0, .int .u64 0, .int .u64 0] 25)) from (Below.refl _ _).alloc (Nat.le_refl _) _)
    go_enter Try.func90, Try.ntmps90
    go_wp2_with fail
    refine (HR.out _).mono ?_
    rintro e w2 ⟨he, hb2⟩
    subst he
    have HO2 := Lib.hid (HO0.out.under hb2 HO0.out.lt)
    have HB2 := Lib.hid (keepb HB0.out hb2)
    clear hb2 HO0 HB0
    go_wp2_with fail
    refine (HS.out _).mono ?_
    rintro e wx ⟨rfl, rfl⟩
    go_wp2_with fail
    refine (HR2.out _).mono ?_
    rintro e w3 ⟨he, hb3⟩
    subst he
    have HO3 := Lib.hid (HO2.out.under hb3 HO2.out.lt)
    have HB3 := Lib.hid (keepb HB2.out hb3)
    clear hb3 HO2 HB2
    obtain ⟨z0, z1, z2, z3, y0, y1, y2, y3⟩ := HO3.out.four
    go_wp2
    rw [set4_fold]
    have hF := HO3.out.put4 (u0 := .int .u64 0) (u1 := .int .u64 0) (u2 := .int .u64 0) (u3 := .int .u64 0)
    have hB := below_put4 HB3.out (Nat.le_refl _) (.int .u64 0) (.int .u64 0) (.int .u64 0) (.int .u64 0)
    clear z0 z1 z2 z3 y0 y1 y2 y3
    obtain ⟨z0, z1, z2, z3, -⟩ := hF.four
    refine bodyPost_ret (by simp [results, Try.results90, go_sem, z0, z1, z2, z3]; rfl) rfl ?_
    exact ⟨by rw [HE.out]; rfl, hB⟩
   | some p =>
    obtain ⟨c, m'⟩ := p
    obtain ⟨b6, b7, b8, b9, b10⟩ := sglO_bd hq
    obtain ⟨hi, rfl⟩ : ∃ hi : Nat, c = (hi : Int) := ⟨c.toNat, by omega⟩
    have hhi : hi < 256 := by omega
    rw [hq] at HR2 hE
    simp only [sglT] at HR2
    clear hq
    by_cases g : (hi : Int) < (lo : Int)
    ·
     have HE := Lib.hid (congrArg rowT (hE.trans (if_pos g)))
     clear hE
     have HO0 := Lib.hid (Own.fresh w 25 [.int .u64 0, .int .u64 0, .int .u64 0, .int .u64 0])
     have HB0 := Lib.hid (show Below w.heap.size w (w.alloc (.cells #[.int .u64 0, .int .u64 0, .int .u64 0, .int .u64 0] 25)) from (Below.refl _ _).alloc (Nat.le_refl _) _)
     go_enter Try.func90, Try.ntmps90
     go_wp2_with fail
     refine (HR.out _).mono ?_
     rintro e w2 ⟨he, hb2⟩
     subst he
     have HO2 := Lib.hid (HO0.out.under hb2 HO0.out.lt)
     have HB2 := Lib.hid (keepb HB0.out hb2)
     clear hb2 HO0 HB0
     go_wp2_with fail
     refine (HS.out _).mono ?_
     rintro e wx ⟨rfl, rfl⟩
     go_wp2_with fail
     refine (HR2.out _).mono ?_
     rintro e w3 ⟨he, hb3⟩
     subst he
     have HO3 := Lib.hid (HO2.out.under hb3 HO2.out.lt)
     have HB3 := Lib.hid (keepb HB2.out hb3)
     clear hb3 HO2 HB2
     obtain ⟨z0, z1, z2, z3, y0, y1, y2, y3⟩ := HO3.out.four
     go_wp2
     rw [set4_fold]
     have hF := HO3.out.put4 (u0 := .int .u64 0) (u1 := .int .u64 0) (u2 := .int .u64 0) (u3 := .int .u64 0)
     have hB := below_put4 HB3.out (Nat.le_refl _) (.int .u64 0) (.int .u64 0) (.int .u64 0) (.int .u64 0)
     clear z0 z1 z2 z3 y0 y1 y2 y3
     obtain ⟨z0, z1, z2, z3, -⟩ := hF.four
     refine bodyPost_ret (by simp [results, Try.results90, go_sem, z0, z1, z2, z3]; rfl) rfl ?_
     exact ⟨by rw [HE.out]; rfl, hB⟩
    ·
     have HE := Lib.hid (congrArg rowT (hE.trans (if_neg g)))
     rw [Int.toNat_natCast, Int.toNat_natCast] at HE
     have HG := Lib.hid (fun W => range_any lo hi hlo hhi W)
     clear hE
     have HO0 := Lib.hid (Own.fresh w 25 [.int .u64 0, .int .u64 0, .int .u64 0, .int .u64 0])
     have HB0 := Lib.hid (show Below w.heap.size w (w.alloc (.cells #[.int .u64 0, .int .u64 0, .int .u64 0, .int .u64 0] 25)) from (Below.refl _ _).alloc (Nat.le_refl _) _)
     go_enter Try.func90, Try.ntmps90
     go_wp2_with fail
     refine (HR.out _).mono ?_
     rintro e w2 ⟨he, hb2⟩
     subst he
     have HO2 := Lib.hid (HO0.out.under hb2 HO0.out.lt)
     have HB2 := Lib.hid (keepb HB0.out hb2)
     clear hb2 HO0 HB0
     go_wp2_with fail
     refine (HS.out _).mono ?_
     rintro e wx ⟨rfl, rfl⟩
     go_wp2_with fail
     refine (HR2.out _).mono ?_
     rintro e w3 ⟨he, hb3⟩
     subst he
     have HO3 := Lib.hid (HO2.out.under hb3 HO2.out.lt)
     have HB3 := Lib.hid (keepb HB2.out hb3)
     clear hb3 HO2 HB2
     go_wp2_with fail
     refine (HG.out _).mono ?_
     rintro e w4 ⟨he, hb4⟩
     subst he
     have HO4 := Lib.hid (HO3.out.under hb4 HO3.out.lt)
     have HB4 := Lib.hid (keepb HB3.out hb4)
     clear hb4 HO3 HB3
     obtain ⟨z0, z1, z2, z3, y0, y1, y2, y3⟩ := HO4.out.four
     go_wp2
     rw [set4_fold]
     have hF := HO4.out.put4 (u0 := .int .u64 (rowW 0 lo (hi + 1) : Int)) (u1 := .int .u64 (rowW 1 lo (hi + 1) : Int)) (u2 := .int .u64 (rowW 2 lo (hi + 1) : Int)) (u3 := .int .u64 (rowW 3 lo (hi + 1) : Int))
     have hB := below_put4 HB4.out (Nat.le_refl _) (.int .u64 (rowW 0 lo (hi + 1) : Int)) (.int .u64 (rowW 1 lo (hi + 1) : Int)) (.int .u64 (rowW 2 lo (hi + 1) : Int)) (.int .u64 (rowW 3 lo (hi + 1) : Int))
     clear z0 z1 z2 z3 y0 y1 y2 y3
     obtain ⟨z0, z1, z2, z3, -⟩ := hF.four
     refine bodyPost_ret (by simp [results, Try.results90, go_sem, z0, z1, z2, z3]; rfl) rfl ?_
     exact ⟨by rw [HE.out]; rfl, hB⟩
end Go.Proofs.Ytonknapfndaalaa

namespace Go.Proofs.Ytonknapfndaalaa
set_option linter.unusedVariables false
set_option maxRecDepth 1000000
open Go.RowKit
theorem rowO_bd {s : ByteArray} {k m lo hi : Nat} (h : rowO s k = some ((lo, hi), m)) : k < s.size ∧ k < m ∧ m ≤ k + 21 ∧ lo < 256 ∧ hi < 256 := by
 cases hq : sglO s k with
 | none => rw [rowO_none hq] at h; cases h
 | some p =>
  obtain ⟨c, n⟩ := p
  obtain ⟨b1, b2, b3, b4, b5⟩ := sglO_bd hq
  cases hd : standB s (n : Int) 45 with
  | false =>
   rw [rowO_one hq hd] at h
   injection h with h; injection h with h1 h2; injection h1 with h3 h4
   omega
  | true =>
   rw [rowO_two hq hd] at h
   cases hr : sglO s (n + 1) with
   | none => rw [hr] at h; cases h
   | some p =>
    obtain ⟨c', n'⟩ := p
    obtain ⟨d1, d2, d3, d4, d5⟩ := sglO_bd hr
    rw [hr] at h
    simp only at h
    split at h
    ·
     cases h
    ·
     injection h with h; injection h with h1 h2; injection h1 with h3 h4
     omega
/-- A ] is no row. -/
theorem rowO_close {s : ByteArray} {k : Nat} (h : standB s (k : Int) 93 = true) : rowO s k = none := by
 obtain ⟨h1, h2⟩ := stand_iff.1 h
 apply rowO_none
 apply sglO_none
 rw [readO_at h1 h2, if_neg (by decide), if_neg (by decide)]
abbrev Set4 := Nat × Nat × Nat × Nat
def orR (x : Set4) (lo hi : Nat) : Set4 := (x.1 ||| rowW 0 lo (hi + 1), x.2.1 ||| rowW 1 lo (hi + 1), x.2.2.1 ||| rowW 2 lo (hi + 1), x.2.2.2 ||| rowW 3 lo (hi + 1))
/-- The rows of a class from a place on, one at least, up to a ]. -/
def rwsF (s : ByteArray) : Nat → Nat → Set4 → Option (Set4 × Nat)
 | 0, _, _ => none
 | f + 1, k, x =>
  match rowO s k with
  | none => none
  | some ((lo, hi), m) => if standB s (m : Int) 93 = true then some (orR x lo hi, m) else rwsF s f m (orR x lo hi)
theorem rwsF_no {s : ByteArray} {f k : Nat} {x : Set4} (h : rowO s k = none) : rwsF s f k x = none := by
 cases f
 ·
  rfl
 ·
  unfold rwsF; rw [h]
theorem rwsF_go {s : ByteArray} {f k m lo hi : Nat} {x : Set4} (hf : s.size < f + k) (h : rowO s k = some ((lo, hi), m)) :
  rwsF s f k x = if standB s (m : Int) 93 = true then some (orR x lo hi, m) else rwsF s (f - 1) m (orR x lo hi) := by
 have hk := (rowO_bd h).1
 obtain ⟨g, rfl⟩ : ∃ g, f = g + 1 := ⟨f - 1, by omega⟩
 rw [rwsF.eq_2, h]; rfl
end Go.Proofs.Ytonknapfndaalaa

namespace Go.Proofs.Ytonknapfndaalaa
set_option linter.unusedVariables false
set_option maxRecDepth 1000000
open Go.RowKit
/-- The bytes l stand in U from k on. -/
def At (U : ByteArray) (k : Nat) (l : List UInt8) : Prop := ∃ pre post, U.data.toList = pre ++ (l ++ post) ∧ pre.length = k
theorem At.app {U : ByteArray} {k : Nat} {l r : List UInt8} (h : At U k (l ++ r)) : At U k l ∧ At U (k + l.length) r := by
 obtain ⟨pre, post, h, hk⟩ := h
 refine ⟨⟨pre, r ++ post, by rw [h, List.append_assoc], hk⟩, ⟨pre ++ l, post, by rw [h]; simp, by rw [List.length_append, hk]⟩⟩
theorem At.cons {U : ByteArray} {k : Nat} {x : UInt8} {l : List UInt8} (h : At U k (x :: l)) : k < U.size ∧ byt U k = (x.toNat : Int) ∧ At U (k + 1) l := by
 obtain ⟨pre, post, h, hk⟩ := h
 refine ⟨?_, ?_, ⟨pre ++ [x], post, by rw [h]; simp, by rw [List.length_append, hk]; rfl⟩⟩
 ·
  have h2 : U.data.toList.length = U.size := by simp
  rw [← h2, h, List.length_append, List.length_append, List.length_cons]; omega
 ·
  unfold byt
  rw [h, List.getD_eq_getElem?_getD, List.getElem?_append_right (by omega)]
  simp [hk]
theorem At.le {U : ByteArray} {k : Nat} {l : List UInt8} (h : At U k l) : k + l.length ≤ U.size := by
 obtain ⟨pre, post, h, hk⟩ := h
 have h2 : U.data.toList.length = U.size := by simp
 rw [← h2, h, List.length_append, List.length_append]; omega
def nb (c : Int) : UInt8 := UInt8.ofNat c.toNat
theorem nb_of {c : Int} (h0 : 0 ≤ c) (h1 : c ≤ 255) : ((nb c).toNat : Int) = c := by
 unfold nb; rw [UInt8.toNat_ofNat']; omega
theorem dgv_bd {d : Int} (h0 : 0 ≤ d) (h1 : d ≤ 15) : 48 ≤ dgv d ∧ dgv d ≤ 102 ∧ hexV (dgv d) = d := by
 unfold dgv hexV
 by_cases h : d < 10
 ·
  rw [if_pos h, if_pos (by omega)]; omega
 ·
  rw [if_neg h, if_neg (by omega), if_pos (by omega)]; omega
/-- Which bytes have a word of their own in a text or a class. -/
def Fair (sp : ByteArray) : Prop := isSp sp 110 = false ∧ isSp sp 116 = false ∧ isSp sp 120 = false ∧ isSp sp 92 = false
theorem fair_T : Fair spT := ⟨by decide +kernel, by decide +kernel, by decide +kernel, by decide +kernel⟩
theorem fair_C : Fair spC := ⟨by decide +kernel, by decide +kernel, by decide +kernel, by decide +kernel⟩
/-- How a byte is written, as a list: five ways. -/
theorem wr_ways (sp : ByteArray) {c : Int} (h0 : 0 ≤ c) (h1 : c ≤ 255) :
  (plainB sp c = true ∧ (wrS sp c).data.toList = [nb c]) ∨ (plainB sp c = false ∧ c = 10 ∧ (wrS sp c).data.toList = [92, 110]) ∨ (plainB sp c = false ∧ c = 9 ∧ (wrS sp c).data.toList = [92, 116]) ∨
  (plainB sp c = false ∧ (c == 92 || isSp sp c) = true ∧ (wrS sp c).data.toList = [92, nb c]) ∨ (plainB sp c = false ∧ (wrS sp c).data.toList = [92, 120, nb (dgv (c / 16)), nb (dgv (c % 16))]) := by
 unfold wrS
 cases hp : plainB sp c
 ·
  rw [if_neg (by decide)]
  by_cases h2 : c = 10
  ·
   rw [if_pos h2]; exact .inr (.inl ⟨rfl, h2, rfl⟩)
  ·
   rw [if_neg h2]
   by_cases h3 : c = 9
   ·
    rw [if_pos h3]; exact .inr (.inr (.inl ⟨rfl, h3, rfl⟩))
   ·
    rw [if_neg h3]
    cases h4 : (c == 92 || isSp sp c)
    ·
     rw [if_neg (by decide)]; exact .inr (.inr (.inr (.inr ⟨rfl, rfl⟩)))
    ·
     rw [if_pos rfl]; exact .inr (.inr (.inr (.inl ⟨rfl, rfl, rfl⟩)))
 ·
  rw [if_pos rfl]; exact .inl ⟨rfl, rfl⟩
theorem plain_nsp {sp : ByteArray} {c : Int} (h : plainB sp c = true) : isSp sp c = false ∧ 32 ≤ c ∧ c ≤ 126 ∧ c ≠ 92 := by
 unfold plainB at h
 simp at h
 exact ⟨h.2, h.1.1.1, h.1.1.2, h.1.2⟩
/-- With which byte it begins. -/
theorem wr_first (sp : ByteArray) (hf : Fair sp) {c : Int} (h0 : 0 ≤ c) (h1 : c ≤ 255) : ∃ x l, (wrS sp c).data.toList = x :: l ∧ isSp sp (x.toNat : Int) = false := by
 rcases wr_ways sp h0 h1 with ⟨hp, h⟩ | ⟨-, -, h⟩ | ⟨-, -, h⟩ | ⟨-, -, h⟩ | ⟨-, h⟩
 ·
  refine ⟨_, _, h, ?_⟩
  rw [nb_of h0 h1]; exact (plain_nsp hp).1
 all_goals exact ⟨_, _, h, hf.2.2.2⟩
theorem wr_read {U : ByteArray} {sp : ByteArray} (hf : Fair sp) {k : Nat} {c : Int} (h0 : 0 ≤ c) (h1 : c ≤ 255) (hA : At U k (wrS sp c).data.toList) :
  readO U k sp = some (strOfNums [c], k + (wrS sp c).data.toList.length) := by
 obtain ⟨f1, f2, f3, f4⟩ := hf
 rcases wr_ways sp h0 h1 with ⟨hp, h⟩ | ⟨hp, hc, h⟩ | ⟨hp, hc, h⟩ | ⟨hp, hc, h⟩ | ⟨hp, h⟩
 ·
  rw [h] at hA ⊢
  obtain ⟨a1, a2, -⟩ := hA.cons
  rw [nb_of h0 h1] at a2
  rw [readO_at a1 a2, if_pos hp]; rfl
 ·
  subst hc
  rw [h] at hA ⊢
  obtain ⟨a1, a2, hA⟩ := hA.cons
  obtain ⟨b1, b2, -⟩ := hA.cons
  have b2 : byt U (k + 1) = 110 := b2
  have a2 : byt U k = 92 := a2
  rw [readO_at a1 a2, plain_92 sp, if_neg (by decide), if_pos rfl, escO_at b1 b2, if_pos rfl]; rfl
 ·
  subst hc
  rw [h] at hA ⊢
  obtain ⟨a1, a2, hA⟩ := hA.cons
  obtain ⟨b1, b2, -⟩ := hA.cons
  have b2 : byt U (k + 1) = 116 := b2
  have a2 : byt U k = 92 := a2
  rw [readO_at a1 a2, plain_92 sp, if_neg (by decide), if_pos rfl, escO_at b1 b2, if_neg (by decide), if_pos rfl]; rfl
 ·
  rw [h] at hA ⊢
  obtain ⟨a1, a2, hA⟩ := hA.cons
  obtain ⟨b1, b2, -⟩ := hA.cons
  have a2 : byt U k = 92 := a2
  rw [nb_of h0 h1] at b2
  have n1 : c ≠ 110 := by rintro rfl; rw [f1] at hc; cases hc
  have n2 : c ≠ 116 := by rintro rfl; rw [f2] at hc; cases hc
  rw [readO_at a1 a2, plain_92 sp, if_neg (by decide), if_pos rfl, escO_at b1 b2, if_neg n1, if_neg n2, if_pos hc]; rfl
 ·
  rw [h] at hA ⊢
  obtain ⟨a1, a2, hA⟩ := hA.cons
  obtain ⟨b1, b2, hA⟩ := hA.cons
  have a2 : byt U k = 92 := a2
  have b2 : byt U (k + 1) = 120 := b2
  obtain ⟨c1, c2, hA⟩ := hA.cons
  obtain ⟨d1, d2, -⟩ := hA.cons
  obtain ⟨p1, p2, p3⟩ := dgv_bd (d := c / 16) (by omega) (by omega)
  obtain ⟨q1, q2, q3⟩ := dgv_bd (d := c % 16) (by omega) (by omega)
  rw [nb_of (by omega) (by omega)] at c2 d2
  have e1 : hexN U (k + 1 + 1) 1 = 1 := by
   show (if hexN U (k + 1 + 1) 0 = 0 ∧ k + 1 + 1 + 0 < U.size ∧ 0 ≤ hexV (byt U (k + 1 + 1 + 0)) then 0 + 1 else hexN U (k + 1 + 1) 0) = 1
   rw [if_pos ⟨rfl, c1, by rw [Nat.add_zero, c2, p3]; omega⟩]
  have e2 : hexN U (k + 1 + 1) 2 = 2 := by
   show (if hexN U (k + 1 + 1) 1 = 1 ∧ k + 1 + 1 + 1 < U.size ∧ 0 ≤ hexV (byt U (k + 1 + 1 + 1)) then 1 + 1 else hexN U (k + 1 + 1) 1) = 2
   rw [if_pos ⟨e1, d1, by rw [d2, q3]; omega⟩]
  have e3 : valN U (k + 1 + 1) 2 = c := by
   show (0 * 16 + hexV (byt U (k + 1 + 1 + 0))) * 16 + hexV (byt U (k + 1 + 1 + 1)) = c
   rw [Nat.add_zero, c2, d2, p3, q3]; omega
  rw [readO_at a1 a2, plain_92 sp, if_neg (by decide), if_pos rfl, escO_at b1 b2, if_neg (by decide), if_neg (by decide),
   if_neg (by rw [f3]; decide), if_pos rfl, if_pos e2, e3]; rfl
end Go.Proofs.Ytonknapfndaalaa

namespace Go.Proofs.Ytonknapfndaalaa
set_option linter.unusedVariables false
set_option maxRecDepth 1000000
open Go.RowKit
theorem wrT_pre (s : ByteArray) (j : Nat) : ∀ d, ∃ r, wrT s (j + d) = wrT s j ++ r
 | 0 => ⟨[], by simp⟩
 | d + 1 => by
  obtain ⟨r, h⟩ := wrT_pre s j d
  refine ⟨r ++ (wrS spT (byt s (j + d))).data.toList, ?_⟩
  show wrT s (j + d) ++ _ = _
  rw [h, List.append_assoc]; rfl
theorem At.left {U : ByteArray} {k : Nat} {l r : List UInt8} (h : At U k (l ++ r)) : At U k l := h.app.1
theorem extract_more {s : ByteArray} {j : Nat} (h : j < s.size) : s.extract 0 j ++ strOfNums [byt s j] = s.extract 0 (j + 1) := by
 rw [← one_byte h, ByteArray.extract_append_extract]
 congr 1 <;> omega
theorem isSp_n {c : Int} (h0 : 0 ≤ c) (h1 : c ≤ 255) (h : isSp spT c = false) : c ≠ 34 := by
 rw [isSp_T h0 h1] at h; exact beq_eq_false_iff_ne.1 h
theorem txt_steps {U s : ByteArray} {a : Nat} (hA : At U a (wrT s s.size ++ [34])) : ∀ j, j ≤ s.size → ∃ f, U.size < f + (a + (wrT s j).length) ∧
  txtF U (U.size + 1) (a + 1) ⟨#[]⟩ = txtF U f (a + (wrT s j).length) (s.extract 0 j)
 | 0, _ => ⟨U.size + 1, by omega, by
   have e : s.extract 0 0 = (⟨#[]⟩ : ByteArray) := by apply bytes_eq; rw [ByteArray.data_extract]; simp
   rw [e]; rfl⟩
 | j + 1, hj => by
  obtain ⟨f, h1, h2⟩ := txt_steps hA j (by omega)
  obtain ⟨r, hr⟩ := wrT_pre s (j + 1) (s.size - (j + 1))
  rw [show j + 1 + (s.size - (j + 1)) = s.size by omega] at hr
  have hB : At U a (wrT s j ++ (wrS spT (byt s j)).data.toList) := by
   rw [hr] at hA
   exact hA.left.left
  have hC := hB.app.2
  obtain ⟨c0, c1⟩ := byt_lt s j
  have hR := wr_read fair_T c0 c1 hC
  obtain ⟨x, l, hx, hsp⟩ := wr_first spT fair_T c0 c1
  have hne : byt U (a + (wrT s j).length) ≠ 34 := by
   rw [hx] at hC
   rw [hC.cons.2.1]
   exact isSp_n (by omega) (by have := x.toNat_lt; omega) hsp
  refine ⟨f - 1, ?_, ?_⟩
  ·
   show U.size < f - 1 + (a + (wrT s j ++ (wrS spT (byt s j)).data.toList).length)
   rw [List.length_append, hx]; simp only [List.length_cons]; omega
  ·
   rw [h2, txtF_go h1 hne hR, extract_more (by omega)]
   show _ = txtF U (f - 1) (a + (wrT s j ++ (wrS spT (byt s j)).data.toList).length) _
   rw [List.length_append, Nat.add_assoc]
theorem text_data (s : ByteArray) : (textS s).data.toList = wrT s s.size ++ [34] := by
 show (wrT s s.size ++ [34]).toArray.toList = _; simp
theorem wrT_head (s : ByteArray) : ∃ r, wrT s s.size = 34 :: r := by
 obtain ⟨r, h⟩ := wrT_pre s 0 s.size
 rw [Nat.zero_add] at h
 exact ⟨r, by rw [h]; rfl⟩
theorem text_size (s : ByteArray) : (textS s).size = (wrT s s.size).length + 1 := by
 have : (textS s).data.toList.length = (textS s).size := by simp
 rw [← this, text_data, List.length_append]; rfl
/-- A text, as it is written, is read as it was, unless it is empty or too long. -/
theorem txt_back {U s : ByteArray} {a : Nat} (hA : At U a (textS s).data.toList) : txtO U (a : Int) = if s.size = 0 ∨ 40 < s.size then none else some (s, a + (textS s).size) := by
 rw [text_data] at hA
 obtain ⟨r, hr⟩ := wrT_head s
 have h0 := hA
 rw [hr] at h0
 obtain ⟨b1, b2, -⟩ := (show At U a (34 :: (r ++ [34])) from h0).cons
 obtain ⟨f, h1, h2⟩ := txt_steps hA s.size (Nat.le_refl _)
 obtain ⟨d1, d2, -⟩ := hA.app.2.cons
 unfold txtO
 rw [if_pos (stand_iff.2 ⟨b1, (show byt U a = 34 from b2)⟩), Int.toNat_natCast, h2, txtF_end h1 d1 d2, ByteArray.extract_zero_size, text_size]; rfl
theorem txtF_res {s : ByteArray} : ∀ f k out u m, txtF s f k out = some (u, m) → k < m ∧ m ≤ s.size ∧ byt s (m - 1) = 34 ∧ 1 ≤ u.size ∧ u.size ≤ 40
 | 0, k, out, u, m => fun h => by cases h
 | f + 1, k, out, u, m => fun h => by
  rw [txtF.eq_2] at h
  split at h
  ·
   split at h
   ·
    split at h
    ·
     cases h
    ·
     rename_i g1 g2 g3
     injection h with h; injection h with h3 h4
     subst h3 h4
     exact ⟨by omega, by omega, by rw [Nat.add_sub_cancel]; exact g2, by omega, by omega⟩
   ·
    cases hr : readO s k spT with
    | none => rw [hr] at h; cases h
    | some p =>
     obtain ⟨v, n⟩ := p
     rw [hr] at h
     have := readO_bd hr
     have h2 := txtF_res f n _ u m h
     exact ⟨by omega, h2.2⟩
  ·
   cases h
theorem txtO_res {s : ByteArray} {i : Nat} {u : ByteArray} {m : Nat} (h : txtO s (i : Int) = some (u, m)) : i < m ∧ m ≤ s.size ∧ byt s (m - 1) = 34 ∧ 1 ≤ u.size ∧ u.size ≤ 40 := by
 unfold txtO at h
 split at h
 ·
  have := txtF_res _ _ _ _ _ h
  rw [Int.toNat_natCast] at this
  exact ⟨by omega, this.2⟩
 ·
  cases h
end Go.Proofs.Ytonknapfndaalaa

namespace Go.Proofs.Ytonknapfndaalaa
set_option linter.unusedVariables false
set_option maxRecDepth 1000000
open Go.RowKit
/-- How many numbers below n have p. -/
def cnt (p : Nat → Bool) : Nat → Nat
 | 0 => 0
 | n + 1 => cnt p n + (if p n then 1 else 0)
theorem cnt_congr {p q : Nat → Bool} {n : Nat} (h : ∀ x, x < n → p x = q x) : cnt p n = cnt q n := by
 induction n with
 | zero => rfl
 | succ n ih => unfold cnt; rw [ih fun x hx => h x (by omega), h n (by omega)]
theorem cnt_add (p : Nat → Bool) (m n : Nat) : cnt p (m + n) = cnt p m + cnt (fun x => p (m + x)) n := by
 induction n with
 | zero => rfl
 | succ n ih =>
  rw [← Nat.add_assoc]
  show cnt p (m + n) + _ = cnt p m + (cnt (fun x => p (m + x)) n + _)
  rw [ih, Nat.add_assoc]
theorem cnt_front (p : Nat → Bool) (n : Nat) : cnt p (n + 1) = (if p 0 then 1 else 0) + cnt (fun x => p (x + 1)) n := by
 rw [Nat.add_comm n 1, cnt_add]
 have : cnt (fun x => p (1 + x)) n = cnt (fun x => p (x + 1)) n := cnt_congr fun x _ => by rw [Nat.add_comm]
 rw [this]; simp [cnt]
theorem popN_cnt (n : Nat) : ∀ a, popN n a = cnt a.testBit n := by
 induction n with
 | zero => intro a; rfl
 | succ n ih =>
  intro a
  rw [cnt_front]
  unfold popN
  rw [ih]
  have h1 : cnt (a / 2).testBit n = cnt (fun x => a.testBit (x + 1)) n := cnt_congr fun x _ => by rw [Nat.testBit_succ]
  rw [h1, Nat.testBit_zero]
  have := Nat.mod_two_eq_zero_or_one a
  rcases this with h | h <;> simp [h]
theorem word0 (a b c d x : Nat) (h : x < 64) : inSet a b c d (0 + x) = a.testBit x := by
 unfold inSet word; rw [show (0 + x) / 64 = 0 by omega, show (0 + x) % 64 = x by omega]; rfl
theorem word1 (a b c d x : Nat) (h : x < 64) : inSet a b c d (64 + x) = b.testBit x := by
 unfold inSet word; rw [show (64 + x) / 64 = 1 by omega, show (64 + x) % 64 = x by omega]; rfl
theorem word2 (a b c d x : Nat) (h : x < 64) : inSet a b c d (128 + x) = c.testBit x := by
 unfold inSet word; rw [show (128 + x) / 64 = 2 by omega, show (128 + x) % 64 = x by omega]; rfl
theorem word3 (a b c d x : Nat) (h : x < 64) : inSet a b c d (192 + x) = d.testBit x := by
 unfold inSet word; rw [show (192 + x) / 64 = 3 by omega, show (192 + x) % 64 = x by omega]; rfl
theorem card_cnt (a b c d : Nat) : card a b c d = cnt (inSet a b c d) 256 := by
 rw [show 256 = 0 + 64 + 64 + 64 + 64 from rfl, cnt_add, cnt_add, cnt_add, cnt_add]
 unfold card pop
 rw [popN_cnt, popN_cnt, popN_cnt, popN_cnt, cnt_congr (word0 a b c d), cnt_congr (word1 a b c d), cnt_congr (word2 a b c d), cnt_congr (word3 a b c d)]
 simp [cnt]
theorem four {x : Nat} (hx : x < 256) : x / 64 = 0 ∨ x / 64 = 1 ∨ x / 64 = 2 ∨ x / 64 = 3 := by omega
theorem inSet_or (a b c d a' b' c' d' x : Nat) (hx : x < 256) : inSet (a ||| a') (b ||| b') (c ||| c') (d ||| d') x = (inSet a b c d x || inSet a' b' c' d' x) := by
 unfold inSet word
 rcases four hx with h | h | h | h <;> rw [h] <;> exact Nat.testBit_or ..
theorem bit_not {a i : Nat} (ha : a < P64) (hi : i < 64) : (notW a).testBit i = !a.testBit i := by
 have h := Nat.testBit_two_pow_sub_succ (n := 64) (x := a) ha i
 have e : notW a = 2 ^ 64 - (a + 1) := by unfold notW P64; omega
 rw [e, h]; simp [hi]
theorem inSet_not (a b c d x : Nat) (hx : x < 256) (ha : a < P64) (hb : b < P64) (hc : c < P64) (hd : d < P64) : inSet (notW a) (notW b) (notW c) (notW d) x = !inSet a b c d x := by
 unfold inSet word
 have hm : x % 64 < 64 := by omega
 rcases four hx with h | h | h | h <;> rw [h]
 ·
  exact bit_not ha hm
 ·
  exact bit_not hb hm
 ·
  exact bit_not hc hm
 ·
  exact bit_not hd hm
theorem inSet_with (a b c d x y : Nat) (hx : x < 256) (hy : y < 256) : inSet (withW a y 0) (withW b y 1) (withW c y 2) (withW d y 3) x = (inSet a b c d x || decide (x = y)) := by
 unfold inSet word withW
 rcases four hx with h | h | h | h <;> rw [h] <;> simp only [] <;> split
 all_goals first
  | (rw [Nat.testBit_or, Nat.testBit_two_pow]; congr 1; apply decide_eq_decide.2; omega)
  | (rw [decide_eq_false (show ¬ x = y by rintro rfl; omega), Bool.or_false])
theorem inSet_row (lo m x : Nat) (hx : x < 256) (hm : m ≤ 256) : inSet (rowW 0 lo m) (rowW 1 lo m) (rowW 2 lo m) (rowW 3 lo m) x = (decide (lo ≤ x) && decide (x < m)) := by
 induction m with
 | zero =>
  unfold inSet word
  rcases four hx with h | h | h | h <;> rw [h] <;> simp [rowW]
 | succ m ih =>
  by_cases h : lo ≤ m
  ·
   simp only [rowW_step h]
   rw [inSet_with _ _ _ _ _ _ hx (by omega), ih (by omega)]
   by_cases e : x = m
   ·
    subst e; simp [h]
   ·
    by_cases e2 : x < m
    ·
     simp [e, e2, Nat.lt_succ_of_lt e2]
    ·
     simp [e, e2, show ¬ x < m + 1 by omega]
  ·
   simp only [rowW_low _ lo (m + 1) (by omega)]
   have : ¬ (lo ≤ x ∧ x < m + 1) := by omega
   have h2 : inSet 0 0 0 0 x = false := by
    unfold inSet word
    rcases four hx with h | h | h | h <;> rw [h] <;> simp
   rw [h2]
   by_cases e : lo ≤ x
   ·
    simp [e, show ¬ x < m + 1 by omega]
   ·
    simp [e]
end Go.Proofs.Ytonknapfndaalaa

namespace Go.Proofs.Ytonknapfndaalaa
set_option linter.unusedVariables false
set_option maxRecDepth 1000000
open Go.RowKit
def fits (x : Set4) : Prop := x.1 < P64 ∧ x.2.1 < P64 ∧ x.2.2.1 < P64 ∧ x.2.2.2 < P64
def inS (x : Set4) (b : Nat) : Bool := inSet x.1 x.2.1 x.2.2.1 x.2.2.2 b
theorem or_lt {a b : Nat} (ha : a < P64) (hb : b < P64) : a ||| b < P64 := Nat.or_lt_two_pow (n := 64) ha hb
theorem orR_fits {x : Set4} (h : fits x) (lo hi : Nat) : fits (orR x lo hi) :=
 ⟨or_lt h.1 (rowW_lt ..), or_lt h.2.1 (rowW_lt ..), or_lt h.2.2.1 (rowW_lt ..), or_lt h.2.2.2 (rowW_lt ..)⟩
theorem inS_orR (x : Set4) {lo hi b : Nat} (hb : b < 256) (hh : hi < 256) : inS (orR x lo hi) b = (inS x b || (decide (lo ≤ b) && decide (b < hi + 1))) := by
 unfold inS orR
 rw [inSet_or _ _ _ _ _ _ _ _ _ hb, inSet_row lo (hi + 1) b hb (by omega)]
theorem word_ext {a b : Nat} (ha : a < P64) (hb : b < P64) (h : ∀ i, i < 64 → a.testBit i = b.testBit i) : a = b := by
 apply Nat.eq_of_testBit_eq
 intro i
 by_cases hi : i < 64
 ·
  exact h i hi
 ·
  have key : ∀ y, y < P64 → y.testBit i = false := fun y hy => by
   apply Nat.testBit_lt_two_pow
   exact Nat.lt_of_lt_of_le (show y < 2 ^ 64 from hy) (Nat.pow_le_pow_right (by decide) (by omega))
  rw [key a ha, key b hb]
theorem set_ext {x y : Set4} (hx : fits x) (hy : fits y) (h : ∀ b, b < 256 → inS x b = inS y b) : x = y := by
 obtain ⟨a, b, c, d⟩ := x
 obtain ⟨a', b', c', d'⟩ := y
 have e1 : a = a' := word_ext hx.1 hy.1 fun i hi => by have := h (0 + i) (by omega); unfold inS at this; rw [word0 _ _ _ _ _ hi, word0 _ _ _ _ _ hi] at this; exact this
 have e2 : b = b' := word_ext hx.2.1 hy.2.1 fun i hi => by have := h (64 + i) (by omega); unfold inS at this; rw [word1 _ _ _ _ _ hi, word1 _ _ _ _ _ hi] at this; exact this
 have e3 : c = c' := word_ext hx.2.2.1 hy.2.2.1 fun i hi => by have := h (128 + i) (by omega); unfold inS at this; rw [word2 _ _ _ _ _ hi, word2 _ _ _ _ _ hi] at this; exact this
 have e4 : d = d' := word_ext hx.2.2.2 hy.2.2.2 fun i hi => by have := h (192 + i) (by omega); unfold inS at this; rw [word3 _ _ _ _ _ hi, word3 _ _ _ _ _ hi] at this; exact this
 rw [e1, e2, e3, e4]
theorem runTo_in (h : Nat → Bool) : ∀ f k b, k < b → b ≤ runTo h f k → h b = true
 | 0, k, b => fun h1 h2 => by unfold runTo at h2; omega
 | f + 1, k, b => fun h1 h2 => by
  by_cases g : k < 255 ∧ h (k + 1) = true
  ·
   rw [runTo_step g.1 g.2] at h2
   by_cases e : b = k + 1
   ·
    rw [e]; exact g.2
   ·
    exact runTo_in h f (k + 1) b (by omega) h2
  ·
   rw [runTo_stop _ g] at h2; omega
/-- A byte that ends a row. -/
def Soft (x : UInt8) : Prop := x.toNat = 93 ∨ isSp spC (x.toNat : Int) = false
theorem soft_dash {x : UInt8} (h : Soft x) : (x.toNat : Int) ≠ 45 := by
 intro e
 rcases h with h | h
 ·
  omega
 ·
  rw [e] at h; revert h; decide +kernel
theorem one_row {U : ByteArray} {k lo : Nat} {x : UInt8} {r : List UInt8} (hl : lo < 256) (hA : At U k ((wrS spC lo).data.toList ++ (x :: r))) (hx : (x.toNat : Int) ≠ 45) :
  rowO U k = some ((lo, lo), k + (wrS spC lo).data.toList.length) := by
 have h1 := wr_read fair_C (by omega) (by omega) hA.app.1
 obtain ⟨d1, d2, -⟩ := hA.app.2.cons
 have h2 : sglO U k = some ((lo : Int), k + (wrS spC lo).data.toList.length) := by
  rw [sglO_some h1, if_pos (show (strOfNums [(lo : Int)]).size = 1 from rfl)]
  have : byt (strOfNums [(lo : Int)]) 0 = lo := nb_of (by omega) (by omega)
  rw [this]
 rw [rowO_one h2 (by rw [stand_in d1, d2]; exact beq_eq_false_iff_ne.2 hx), Int.toNat_natCast]
theorem two_row {U : ByteArray} {k lo hi : Nat} {r : List UInt8} (hl : lo ≤ hi) (hh : hi < 256) (hA : At U k ((wrS spC lo).data.toList ++ (45 :: ((wrS spC hi).data.toList ++ r)))) :
  rowO U k = some ((lo, hi), k + (wrS spC lo).data.toList.length + 1 + (wrS spC hi).data.toList.length) := by
 have h1 := wr_read fair_C (by omega) (by omega) hA.app.1
 obtain ⟨d1, d2, hB⟩ := hA.app.2.cons
 have h2 : sglO U k = some ((lo : Int), k + (wrS spC lo).data.toList.length) := by
  rw [sglO_some h1, if_pos (show (strOfNums [(lo : Int)]).size = 1 from rfl)]
  have : byt (strOfNums [(lo : Int)]) 0 = lo := nb_of (by omega) (by omega)
  rw [this]
 have h3 := wr_read fair_C (by omega) (by omega) hB.app.1
 have h4 : sglO U (k + (wrS spC lo).data.toList.length + 1) = some ((hi : Int), k + (wrS spC lo).data.toList.length + 1 + (wrS spC hi).data.toList.length) := by
  rw [sglO_some h3, if_pos (show (strOfNums [(hi : Int)]).size = 1 from rfl)]
  have : byt (strOfNums [(hi : Int)]) 0 = hi := nb_of (by omega) (by omega)
  rw [this]
 rw [rowO_two h2 (by rw [stand_in d1, d2]; rfl), h4]
 simp only
 rw [if_neg (by omega), Int.toNat_natCast, Int.toNat_natCast]
/-- What stands from a row's end on: it begins with a byte that ends a row. -/
theorem cls_soft (h : Nat → Bool) : ∀ f low, ∃ x r, clsF h f low ++ [93] = x :: r ∧ Soft x ∧ (clsF h f low = [] ∨ isSp spC (x.toNat : Int) = false)
 | 0, low => ⟨93, [], rfl, .inl rfl, .inl rfl⟩
 | f + 1, low => by
  by_cases h1 : low < 256
  ·
   cases h2 : h low with
   | false => rw [clsF_out h1 h2]; exact cls_soft h f (low + 1)
   | true =>
    rw [clsF_in h1 h2]
    obtain ⟨x, l, hx, hs⟩ := wr_first spC fair_C (c := (low : Int)) (by omega) (by omega)
    refine ⟨x, _, by unfold rowS; rw [hx]; rfl, .inr hs, .inr hs⟩
  ·
   rw [clsF_end h _ h1]; exact ⟨93, [], rfl, .inl rfl, .inl rfl⟩
theorem cls_none (h : Nat → Bool) : ∀ f low, 256 < f + low → clsF h f low = [] → ∀ b, low ≤ b → b < 256 → h b = false
 | 0, low => fun hf _ b g1 g2 => by omega
 | f + 1, low => fun hf he b g1 g2 => by
  have h1 : low < 256 := by omega
  cases h2 : h low with
  | false =>
   rw [clsF_out h1 h2] at he
   by_cases e : b = low
   ·
    rw [e]; exact h2
   ·
    exact cls_none h f (low + 1) (by omega) he b (by omega) g2
  | true =>
   exfalso
   rw [clsF_in h1 h2] at he
   obtain ⟨x, l, hx, -⟩ := wr_first spC fair_C (c := (low : Int)) (by omega) (by omega)
   unfold rowS at he
   rw [hx] at he; cases he
theorem not_close {x : UInt8} (h : isSp spC (x.toNat : Int) = false) : (x.toNat : Int) ≠ 93 := by
 intro e; rw [e] at h; revert h; decide +kernel
/-- The rest of the rows, as they are written, is read. -/
theorem cls_rows {U : ByteArray} (h : Nat → Bool) : ∀ f low x F k, 256 < f + low → At U k (clsF h f low ++ [93]) → U.size < F + k → clsF h f low ≠ [] → fits x → (∀ b, b < 256 → inS x b = (h b && decide (b < low))) →
  ∃ y, rwsF U F k x = some (y, k + (clsF h f low).length) ∧ fits y ∧ ∀ b, b < 256 → inS y b = h b
 | 0, low, x, F, k => fun hf hA hF hne => absurd rfl hne
 | f + 1, low, x, F, k => fun hf hA hF hne hx hin => by
  have h1 : low < 256 := by
   by_cases g : low < 256
   ·
    exact g
   ·
    exact absurd (clsF_end h _ g) hne
  cases h2 : h low with
  | false =>
   rw [clsF_out h1 h2] at hA hne ⊢
   refine cls_rows h f (low + 1) x F k (by omega) hA hF hne hx fun b hb => ?_
   rw [hin b hb]
   by_cases e : b = low
   ·
    subst e; rw [h2]; rfl
   ·
    congr 1; rw [decide_eq_decide]; omega
  | true =>
   rw [clsF_in h1 h2] at hA ⊢
   have hge := runTo_ge h 255 low
   have hle := runTo_le h 255 low (by omega)
   have hrun := runTo_in h 255 low
   generalize runTo h 255 low = hi at hA hge hle hrun ⊢
   have hy : fits (orR x low hi) := orR_fits hx low hi
   have hiny : ∀ b, b < 256 → inS (orR x low hi) b = (h b && decide (b < hi + 1)) := fun b hb => by
    rw [inS_orR x hb (by omega), hin b hb]
    by_cases g1 : b < low
    ·
     rw [decide_eq_true g1, decide_eq_true (by omega : b < hi + 1), decide_eq_false (by omega : ¬ low ≤ b)]; simp
    ·
     rw [decide_eq_false g1, decide_eq_true (by omega : low ≤ b)]
     by_cases g2 : b < hi + 1
     ·
      have hb2 : h b = true := by
       by_cases e : b = low
       ·
        rw [e]; exact h2
       ·
        exact hrun b (by omega) (by omega)
      rw [decide_eq_true g2, hb2]; rfl
     ·
      rw [decide_eq_false g2]; simp
   obtain ⟨z, r, hz, hsz, hcl⟩ := cls_soft h f (hi + 1)
   -- the row, or the two rows, that are read
   have key : ∀ F' k' x', U.size < F' + k' → At U k' (z :: r) → k' = k + (rowS low hi).length → x' = orR x low hi →
     (if standB U (k' : Int) 93 = true then some (x', k') else rwsF U F' k' x') = (if clsF h f (hi + 1) = [] then some (orR x low hi, k + (rowS low hi).length) else rwsF U F' (k + (rowS low hi).length) (orR x low hi)) := fun F' k' x' g1 g2 g3 g4 => by
    subst g3 g4
    obtain ⟨d1, d2, -⟩ := g2.cons
    by_cases e : clsF h f (hi + 1) = []
    ·
     rw [if_pos e]
     rw [e, List.nil_append] at hz
     injection hz with hz1 hz2
     subst hz1
     rw [if_pos (stand_iff.2 ⟨d1, (show byt U _ = 93 from d2)⟩)]
    ·
     rw [if_neg e]
     have hc := hcl.resolve_left e
     rw [if_neg]
     intro g
     rw [stand_iff, d2] at g
     exact not_close hc g.2
   have hend : At U (k + (rowS low hi).length) (z :: r) := by
    rw [List.append_assoc] at hA
    rw [← hz]; exact hA.app.2
   have main : ∃ F', U.size < F' + (k + (rowS low hi).length) ∧ rwsF U F k x = (if clsF h f (hi + 1) = [] then some (orR x low hi, k + (rowS low hi).length) else rwsF U F' (k + (rowS low hi).length) (orR x low hi)) := by
    obtain ⟨x1, l1, hx1, hs1⟩ := wr_first spC fair_C (c := (low : Int)) (by omega) (by omega)
    have hl1 : 1 ≤ (wrS spC low).data.toList.length := by rw [hx1]; simp
    by_cases e1 : low + 1 < hi
    ·
     have hA2 : At U k ((wrS spC low).data.toList ++ (45 :: ((wrS spC hi).data.toList ++ (z :: r)))) := by
      rw [List.append_assoc, hz] at hA
      unfold rowS at hA
      rw [if_pos e1, if_pos (by omega)] at hA
      simpa [List.append_assoc] using hA
     have hlen : k + (wrS spC low).data.toList.length + 1 + (wrS spC hi).data.toList.length = k + (rowS low hi).length := by
      unfold rowS; rw [if_pos e1, if_pos (by omega)]; simp only [List.length_append, List.length_cons, List.length_nil]; omega
     have hR := two_row (by omega) (by omega) hA2
     rw [hlen] at hR
     refine ⟨F - 1, by omega, ?_⟩
     rw [rwsF_go hF hR]
     exact key _ _ _ (by omega) hend rfl rfl
    ·
     by_cases e2 : low < hi
     ·
      obtain rfl : hi = low + 1 := by omega
      have hA2 : At U k ((wrS spC low).data.toList ++ ((wrS spC ((low + 1 : Nat) : Int)).data.toList ++ (z :: r))) := by
       rw [List.append_assoc, hz] at hA
       unfold rowS at hA
       rw [if_neg e1, if_pos e2] at hA
       simpa [List.append_assoc] using hA
      have hlen : k + (wrS spC low).data.toList.length + (wrS spC ((low + 1 : Nat) : Int)).data.toList.length = k + (rowS low (low + 1)).length := by
       unfold rowS; rw [if_neg e1, if_pos e2]; simp only [List.length_append, List.length_nil]; omega
      obtain ⟨x2, l2, hx2, hs2⟩ := wr_first spC fair_C (c := ((low + 1 : Nat) : Int)) (by omega) (by omega)
      have hl2 : 1 ≤ (wrS spC ((low + 1 : Nat) : Int)).data.toList.length := by rw [hx2]; simp
      have hR1 : rowO U k = some ((low, low), k + (wrS spC low).data.toList.length) := by
       have hA3 := hA2
       rw [hx2] at hA3
       exact one_row h1 hA3 (soft_dash (.inr hs2))
      have hB := hA2.app.2
      have hR2 := one_row (by omega) hB (soft_dash hsz)
      rw [hlen] at hR2
      refine ⟨F - 1 - 1, by omega, ?_⟩
      rw [rwsF_go hF hR1]
      have hB2 := hB
      rw [hx2] at hB2
      obtain ⟨d1, d2, -⟩ := (show At U _ (x2 :: (l2 ++ (z :: r))) from hB2).cons
      rw [if_neg (by rw [stand_iff, d2]; exact fun g => not_close hs2 g.2), rwsF_go (by omega) hR2]
      refine key _ _ _ (by omega) hend rfl ?_
      apply set_ext (orR_fits (orR_fits hx _ _) _ _) hy
      intro b hb
      rw [inS_orR _ hb (by omega), inS_orR _ hb (by omega), inS_orR _ hb (by omega), Bool.or_assoc]
      congr 1
      rw [Bool.eq_iff_iff]
      simp only [Bool.or_eq_true, Bool.and_eq_true, decide_eq_true_eq]
      omega
     ·
      obtain rfl : hi = low := by omega
      have hA2 : At U k ((wrS spC hi).data.toList ++ (z :: r)) := by
       rw [List.append_assoc, hz] at hA
       unfold rowS at hA
       rw [if_neg e1, if_neg e2] at hA
       simpa [List.append_assoc] using hA
      have hlen : k + (wrS spC hi).data.toList.length = k + (rowS hi hi).length := by
       unfold rowS; rw [if_neg e1, if_neg e2]; simp
      have hR := one_row h1 hA2 (soft_dash hsz)
      rw [hlen] at hR
      refine ⟨F - 1, by omega, ?_⟩
      rw [rwsF_go hF hR]
      exact key _ _ _ (by omega) hend rfl rfl
   obtain ⟨F', hF', hm⟩ := main
   by_cases e : clsF h f (hi + 1) = []
   ·
    rw [if_pos e] at hm
    refine ⟨orR x low hi, by rw [hm, e]; simp, hy, fun b hb => ?_⟩
    rw [hiny b hb]
    by_cases g : b < hi + 1
    ·
     rw [decide_eq_true g, Bool.and_true]
    ·
     rw [decide_eq_false g, Bool.and_false, cls_none h f (hi + 1) (by omega) e b (by omega) hb]
   ·
    rw [if_neg e] at hm
    obtain ⟨y, q1, q2, q3⟩ := cls_rows h f (hi + 1) (orR x low hi) F' (k + (rowS low hi).length) (by omega) (by rw [hz]; exact hend) hF' e hy hiny
    exact ⟨y, by rw [hm, q1, List.length_append, Nat.add_assoc], q2, q3⟩
end Go.Proofs.Ytonknapfndaalaa

namespace Go.Proofs.Ytonknapfndaalaa
set_option linter.unusedVariables false
set_option maxRecDepth 1000000
open Go.RowKit
abbrev set0 : Set4 := (0, 0, 0, 0)
def notR (x : Set4) : Set4 := (notW x.1, notW x.2.1, notW x.2.2.1, notW x.2.2.2)
def finR (o : Bool) (x : Set4) : Set4 := if o = true then notR x else x
theorem finR_fits {x : Set4} (h : fits x) (o : Bool) : fits (finR o x) := by
 cases o
 ·
  exact h
 ·
  exact ⟨notW_lt _, notW_lt _, notW_lt _, notW_lt _⟩
theorem rwsF_fits {s : ByteArray} : ∀ f k x y m, fits x → rwsF s f k x = some (y, m) → fits y ∧ k < m ∧ m < s.size ∧ byt s m = 93
 | 0, k, x, y, m => fun hx h => by cases h
 | f + 1, k, x, y, m => fun hx h => by
  rw [rwsF.eq_2] at h
  cases hr : rowO s k with
  | none => rw [hr] at h; cases h
  | some p =>
   obtain ⟨⟨lo, hi⟩, n⟩ := p
   rw [hr] at h
   simp only at h
   have hb := rowO_bd hr
   split at h
   ·
    rename_i g
    injection h with h; injection h with h1 h2
    subst h1 h2
    have := stand_iff.1 g
    exact ⟨orR_fits hx lo hi, by omega, this.1, this.2⟩
   ·
    have := rwsF_fits f n _ y m (orR_fits hx lo hi) h
    exact ⟨this.1, by omega, this.2.2⟩
def endR (o : Bool) : Option (Set4 × Nat) → Option (Set4 × Nat)
 | none => none
 | some (x, m) => if finR o x = set0 then none else some (finR o x, m + 1)
/-- The set that stands at a place. -/
def clsO (s : ByteArray) (i : Int) : Option (Set4 × Nat) :=
 if standB s i 91 = true then endR (standB s (i + 1) 94) (rwsF s (s.size + 1) (i.toNat + 1 + (if standB s (i + 1) 94 = true then 1 else 0)) set0) else none
def clsT : Option (Set4 × Nat) → Value
 | none => .tuple #[.agg #[.int .u64 0, .int .u64 0, .int .u64 0, .int .u64 0], .int .i64 0, .bool false]
 | some ((a, b, c, d), m) => .tuple #[.agg #[.int .u64 (a : Int), .int .u64 (b : Int), .int .u64 (c : Int), .int .u64 (d : Int)], .int .i64 (m : Int), .bool true]
theorem fits0 : fits set0 := ⟨by decide, by decide, by decide, by decide⟩
theorem clsO_res {s : ByteArray} {i : Nat} {x : Set4} {m : Nat} (h : clsO s (i : Int) = some (x, m)) : i < m ∧ m ≤ s.size ∧ byt s (m - 1) = 93 ∧ fits x ∧ x ≠ set0 := by
 unfold clsO at h
 split at h
 ·
  generalize standB s ((i : Int) + 1) 94 = o at h
  cases hr : rwsF s (s.size + 1) ((i : Int).toNat + 1 + (if o = true then 1 else 0)) set0 with
  | none => rw [hr] at h; cases h
  | some p =>
   obtain ⟨y, n⟩ := p
   rw [hr] at h
   have := rwsF_fits _ _ _ _ _ fits0 hr
   rw [Int.toNat_natCast] at this
   simp only [endR] at h
   split at h
   ·
    cases h
   ·
    rename_i g
    injection h with h; injection h with h1 h2
    subst h1 h2
    exact ⟨by omega, by omega, by rw [Nat.add_sub_cancel]; exact this.2.2.2, finR_fits this.1 o, g⟩
 ·
  cases h
theorem cls_data (h : Nat → Bool) : (classS h).data.toList = 91 :: (clsF h 257 0 ++ [93]) := by
 show ([91] ++ clsF h 257 0 ++ [93]).toArray.toList = _; simp
theorem cls_size (h : Nat → Bool) : (classS h).size = (clsF h 257 0).length + 2 := by
 have : (classS h).data.toList.length = (classS h).size := by simp
 rw [← this, cls_data, List.length_cons, List.length_append]; rfl
/-- A set, as it is written, is read as it was, unless it is empty. -/
theorem cls_back {U : ByteArray} {x : Set4} {a : Nat} (hx : fits x) (hA : At U a (classS (inS x)).data.toList) : clsO U (a : Int) = if x = set0 then none else some (x, a + (classS (inS x)).size) := by
 rw [cls_data] at hA
 obtain ⟨b1, b2, hB⟩ := hA.cons
 obtain ⟨z, r, hz, hs, hc⟩ := cls_soft (inS x) 257 0
 have hz1 := hB
 rw [hz] at hz1
 obtain ⟨c1, c2, -⟩ := hz1.cons
 have h94 : standB U ((a : Int) + 1) 94 = false := by
  rw [show ((a : Int) + 1) = ((a + 1 : Nat) : Int) by omega, stand_in c1, c2]
  rw [beq_eq_false_iff_ne]
  intro e
  rcases hs with g | g
  ·
   omega
  ·
   rw [e] at g; revert g; decide +kernel
 unfold clsO
 rw [if_pos (stand_iff.2 ⟨b1, (show byt U a = 91 from b2)⟩), h94, Int.toNat_natCast]
 simp only [Bool.false_eq_true, if_false, Nat.add_zero]
 have hzero : inS set0 = fun _ => false := by
  funext b
  show (word 0 0 0 0 b).testBit (b % 64) = false
  unfold word
  split <;> simp
 by_cases e : clsF (inS x) 257 0 = []
 ·
  have hn := cls_none (inS x) 257 0 (by omega) e
  have hx0 : x = set0 := set_ext hx fits0 fun b hb => by rw [hn b (by omega) hb, hzero]
  rw [if_pos hx0]
  rw [e, List.nil_append] at hB
  obtain ⟨d1, d2, -⟩ := hB.cons
  rw [rwsF_no (rowO_close (stand_iff.2 ⟨d1, (show byt U (a + 1) = 93 from d2)⟩))]; rfl
 ·
  obtain ⟨y, g1, g2, g3⟩ := cls_rows (U := U) (inS x) 257 0 set0 (U.size + 1) (a + 1) (by omega) hB (by omega) e fits0 (fun b hb => by rw [hzero]; simp)
  have hy : y = x := set_ext g2 hx g3
  subst hy
  have hne : y ≠ set0 := by
   rintro rfl
   apply e
   have hall : ∀ f low, clsF (inS set0) f low = [] := fun f => by
    induction f with
    | zero => intro low; rfl
    | succ f ih =>
     intro low
     by_cases g : low < 256
     ·
      rw [clsF_out g (by rw [hzero])]; exact ih _
     ·
      exact clsF_end _ _ g
   exact hall _ _
  rw [if_neg hne, g1]
  simp only [endR, finR, Bool.false_eq_true, if_false]
  rw [if_neg hne, cls_size]
  congr 2
  omega
end Go.Proofs.Ytonknapfndaalaa
