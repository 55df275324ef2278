/- The law SyntaxParts, walked. -/
import Derived.Test.YtinkgidncdjapacAwk06
namespace Go.Proofs.Ytinkgidncdjapac
set_option linter.unusedVariables false
open Go.RowKit Go.Sort

def exTwo (o : Int) (A B : Ex) : Ex := .mk o ⟨#[]⟩ 0 0 0 0 [A, B]
def exOne (o : Int) (A : Ex) : Ex := .mk o ⟨#[]⟩ 0 0 0 0 [A]
theorem grt_two {o : Int} {A B : Ex} (hA : grt 17 A = false) (hB : grt 17 B = false) : grt 18 (exTwo o A B) = false := by
  show (decide (8 < 2) || decide (60 < 0) || [A, B].any (grt 17)) = false
  simp [hA, hB]
theorem grt_one {o : Int} {A : Ex} (hA : grt 17 A = false) : grt 18 (exOne o A) = false := by
  show (decide (8 < 1) || decide (60 < 0) || [A].any (grt 17)) = false
  simp [hA]
theorem size_two (o : Int) (A B : Ex) : sizeX 18 (exTwo o A B) = 1 + sizeX 17 A + sizeX 17 B := rfl
theorem size_one (o : Int) (A : Ex) : sizeX 18 (exOne o A) = 1 + sizeX 17 A := rfl
theorem deep_two (o : Int) (A B : Ex) : deepX 18 (exTwo o A B) = max (max 0 (deepX 17 A)) (deepX 17 B) + 1 := rfl
theorem deep_one (o : Int) (A : Ex) : deepX 18 (exOne o A) = max 0 (deepX 17 A) + 1 := rfl
theorem own_two {o : Int} (ho : o = 4 ∨ o = 5) (A B : Ex) : ownX (exTwo o A B) = true := by
  show (textB o ⟨#[]⟩ && kidsB o 2 && !((o == 2) == zB 0 0 0 0)) = true
  rw [textB_plain (by omega)]
  rcases ho with rfl | rfl <;> decide +kernel
theorem own_one {o : Int} (ho : o = 6 ∨ o = 7 ∨ o = 8 ∨ o = 9 ∨ o = 10) (A : Ex) : ownX (exOne o A) = true := by
  show (textB o ⟨#[]⟩ && kidsB o 1 && !((o == 2) == zB 0 0 0 0)) = true
  rw [textB_plain (by omega)]
  rcases ho with rfl | rfl | rfl | rfl | rfl <;> decide +kernel
theorem right_two {o : Int} (ho : o = 4 ∨ o = 5) (A B : Ex) : rightX 18 (exTwo o A B) = ((rightX 17 A && rightX 17 B) && decide (max (deepX 17 A) (deepX 17 B) < 12)) := by
  have h1 : allX 18 (exTwo o A B) = (allX 17 A && allX 17 B) := by
    show (ownX (exTwo o A B) && [A, B].all (allX 17)) = _
    rw [own_two ho]; simp
  unfold rightX
  rw [h1, deep_two]
  have a0 := deepX_bd 17 A
  have b0 := deepX_bd 17 B
  generalize deepX 17 A = x at *
  generalize deepX 17 B = y at *
  cases allX 17 A <;> cases allX 17 B <;> simp <;> rw [Bool.eq_iff_iff] <;> simp <;> omega
theorem right_one {o : Int} (ho : o = 6 ∨ o = 7 ∨ o = 8 ∨ o = 9 ∨ o = 10) (A : Ex) : rightX 18 (exOne o A) = (rightX 17 A && decide (deepX 17 A < 12)) := by
  have h1 : allX 18 (exOne o A) = allX 17 A := by
    show (ownX (exOne o A) && [A].all (allX 17)) = _
    rw [own_one ho]; simp
  unfold rightX
  rw [h1, deep_one]
  have a0 := deepX_bd 17 A
  generalize deepX 17 A = x at *
  cases allX 17 A <;> simp <;> rw [Bool.eq_iff_iff] <;> simp <;> omega

set_option maxRecDepth 1000000 in
set_option maxHeartbeats 12800000 in
theorem parts_walk (A B : Ex) (ko lo : Option Addr) (kc lc n1 n2 : Nat) (q : Nat) (hq : q < 256) (w : World) (hm : Mx w) (hA : HasK w n1 ko A.kids) (hB : HasK w n2 lo B.kids) :
    Calls Try.prog 4 #[exv A ko kc, exv B lo lc, .int .u8 (q : Int)] w fun e w' => e = .returned (.bool true) ∧ Below w.heap.size w w' := by
  have HM := Lib.hid hm
  have HKA := Lib.hid hA
  have HKB := Lib.hid hB
  clear hm hA hB
  have hb0 : Below w.heap.size w ((w.alloc (.cells #[.int .i64 A.op, .string A.text, .int .u64 A.s0, .int .u64 A.s1, .int .u64 A.s2, .int .u64 A.s3, .slice ko A.kids.length kc] 27)).alloc (.cells #[.int .i64 B.op, .string B.text, .int .u64 B.s0, .int .u64 B.s1, .int .u64 B.s2, .int .u64 B.s3, .slice lo B.kids.length lc] 27)) := ((Below.refl _ _).alloc (Nat.le_refl _) _).alloc (by simp) _
  have h3 : Own ((w.alloc (.cells #[.int .i64 A.op, .string A.text, .int .u64 A.s0, .int .u64 A.s1, .int .u64 A.s2, .int .u64 A.s3, .slice ko A.kids.length kc] 27)).alloc (.cells #[.int .i64 B.op, .string B.text, .int .u64 B.s0, .int .u64 B.s1, .int .u64 B.s2, .int .u64 B.s3, .slice lo B.kids.length lc] 27)) w.heap.size 27 [.int .i64 A.op, .string A.text, .int .u64 A.s0, .int .u64 A.s1, .int .u64 A.s2, .int .u64 A.s3, .slice ko A.kids.length kc] := (Own.fresh w 27 [.int .i64 A.op, .string A.text, .int .u64 A.s0, .int .u64 A.s1, .int .u64 A.s2, .int .u64 A.s3, .slice ko A.kids.length kc]).on_alloc _
  have h4 : Own ((w.alloc (.cells #[.int .i64 A.op, .string A.text, .int .u64 A.s0, .int .u64 A.s1, .int .u64 A.s2, .int .u64 A.s3, .slice ko A.kids.length kc] 27)).alloc (.cells #[.int .i64 B.op, .string B.text, .int .u64 B.s0, .int .u64 B.s1, .int .u64 B.s2, .int .u64 B.s3, .slice lo B.kids.length lc] 27)) (w.heap.size + 1) 27 [.int .i64 B.op, .string B.text, .int .u64 B.s0, .int .u64 B.s1, .int .u64 B.s2, .int .u64 B.s3, .slice lo B.kids.length lc] := Own.fresh' (w := w.alloc (.cells #[.int .i64 A.op, .string A.text, .int .u64 A.s0, .int .u64 A.s1, .int .u64 A.s2, .int .u64 A.s3, .slice ko A.kids.length kc] 27)) (by simp) 27 [.int .i64 B.op, .string B.text, .int .u64 B.s0, .int .u64 B.s1, .int .u64 B.s2, .int .u64 B.s3, .slice lo B.kids.length lc]
  obtain ⟨ga, hga⟩ : ∃ ga, grt 17 A = ga := ⟨_, rfl⟩
  obtain ⟨gb, hgb⟩ : ∃ gb, grt 17 B = gb := ⟨_, rfl⟩
  have HGA := Lib.hid hga
  have HGB := Lib.hid hgb
  clear hga hgb
  unfold exv
  go_enter Try.func4, Try.ntmps4
  go_wp2_with fail
  generalize (w.alloc (.cells #[.int .i64 A.op, .string A.text, .int .u64 A.s0, .int .u64 A.s1, .int .u64 A.s2, .int .u64 A.s3, .slice ko A.kids.length kc] 27)).alloc (.cells #[.int .i64 B.op, .string B.text, .int .u64 B.s0, .int .u64 B.s1, .int .u64 B.s2, .int .u64 B.s3, .slice lo B.kids.length lc] 27) = w1 at *
  have HB1 := Lib.hid hb0
  have H31 := Lib.hid h3
  have H41 := Lib.hid h4
  clear hb0 h3 h4
  refine (great_any 17 0 ⟨by omega, by omega⟩ n1 A ko kc _ (HasK.below HB1.out HKA.out)).mono ?_
  rintro e w2 ⟨rfl, hb2⟩
  rw [HGA.out]
  have HB2 := Lib.hid (keepb HB1.out hb2)
  have H32 := Lib.hid (own_move H31.out hb2)
  have H42 := Lib.hid (own_move H41.out hb2)
  clear hb2 HB1 H31 H41
  cases ga
  · obtain ⟨b0, b1, b2, b3, b4, b5, b6⟩ := H42.out.seven
    go_wp2_with fail
    refine (great_any 17 0 ⟨by omega, by omega⟩ n2 B lo lc _ (HasK.below HB2.out HKB.out)).mono ?_
    rintro e w3 ⟨rfl, hb3⟩
    rw [HGB.out]
    have HB3 := Lib.hid (keepb HB2.out hb3)
    have H33 := Lib.hid (own_move H32.out hb3)
    have H43 := Lib.hid (own_move H42.out hb3)
    clear hb3 HB2 H32 H42 b0 b1 b2 b3 b4 b5 b6
    cases gb
    · obtain ⟨a0, a1, a2, a3, a4, a5, a6⟩ := H33.out.seven
      obtain ⟨b0, b1, b2, b3, b4, b5, b6⟩ := H43.out.seven
      have ho3 := H33.out.lt
      have ho4 := H43.out.lt
      have hb4 : Below w3.heap.size w3 ((((w3.alloc (.cells #[.int .i64 A.op, .string A.text, .int .u64 A.s0, .int .u64 A.s1, .int .u64 A.s2, .int .u64 A.s3, .slice ko A.kids.length kc, .int .i64 B.op, .string B.text, .int .u64 B.s0, .int .u64 B.s1, .int .u64 B.s2, .int .u64 B.s3, .slice lo B.kids.length lc] 27)).alloc (.cells #[.int .i64 (4 + (q : Int) % 2), .string ⟨#[]⟩, .int .u64 0, .int .u64 0, .int .u64 0, .int .u64 0, .slice (some ⟨w3.heap.size, 0, none⟩) 2 2] 27)).alloc (.cells #[.int .i64 A.op, .string A.text, .int .u64 A.s0, .int .u64 A.s1, .int .u64 A.s2, .int .u64 A.s3, .slice ko A.kids.length kc] 27)).alloc (.cells #[.int .i64 (6 + (q : Int) % 5), .string ⟨#[]⟩, .int .u64 0, .int .u64 0, .int .u64 0, .int .u64 0, .slice (some ⟨w3.heap.size + 1 + 1, 0, none⟩) 1 1] 27)) := ((((Below.refl _ _).alloc (Nat.le_refl _) _).alloc (by simp) _).alloc (by simp; omega) _).alloc (by simp; omega) _
      have hs2 : Own ((((w3.alloc (.cells #[.int .i64 A.op, .string A.text, .int .u64 A.s0, .int .u64 A.s1, .int .u64 A.s2, .int .u64 A.s3, .slice ko A.kids.length kc, .int .i64 B.op, .string B.text, .int .u64 B.s0, .int .u64 B.s1, .int .u64 B.s2, .int .u64 B.s3, .slice lo B.kids.length lc] 27)).alloc (.cells #[.int .i64 (4 + (q : Int) % 2), .string ⟨#[]⟩, .int .u64 0, .int .u64 0, .int .u64 0, .int .u64 0, .slice (some ⟨w3.heap.size, 0, none⟩) 2 2] 27)).alloc (.cells #[.int .i64 A.op, .string A.text, .int .u64 A.s0, .int .u64 A.s1, .int .u64 A.s2, .int .u64 A.s3, .slice ko A.kids.length kc] 27)).alloc (.cells #[.int .i64 (6 + (q : Int) % 5), .string ⟨#[]⟩, .int .u64 0, .int .u64 0, .int .u64 0, .int .u64 0, .slice (some ⟨w3.heap.size + 1 + 1, 0, none⟩) 1 1] 27)) (w3.heap.size) 27 ([.int .i64 A.op, .string A.text, .int .u64 A.s0, .int .u64 A.s1, .int .u64 A.s2, .int .u64 A.s3, .slice ko A.kids.length kc, .int .i64 B.op, .string B.text, .int .u64 B.s0, .int .u64 B.s1, .int .u64 B.s2, .int .u64 B.s3, .slice lo B.kids.length lc]) := (((Own.fresh w3 27 ([.int .i64 A.op, .string A.text, .int .u64 A.s0, .int .u64 A.s1, .int .u64 A.s2, .int .u64 A.s3, .slice ko A.kids.length kc, .int .i64 B.op, .string B.text, .int .u64 B.s0, .int .u64 B.s1, .int .u64 B.s2, .int .u64 B.s3, .slice lo B.kids.length lc])).on_alloc _).on_alloc _).on_alloc _
      have ht2 : Own ((((w3.alloc (.cells #[.int .i64 A.op, .string A.text, .int .u64 A.s0, .int .u64 A.s1, .int .u64 A.s2, .int .u64 A.s3, .slice ko A.kids.length kc, .int .i64 B.op, .string B.text, .int .u64 B.s0, .int .u64 B.s1, .int .u64 B.s2, .int .u64 B.s3, .slice lo B.kids.length lc] 27)).alloc (.cells #[.int .i64 (4 + (q : Int) % 2), .string ⟨#[]⟩, .int .u64 0, .int .u64 0, .int .u64 0, .int .u64 0, .slice (some ⟨w3.heap.size, 0, none⟩) 2 2] 27)).alloc (.cells #[.int .i64 A.op, .string A.text, .int .u64 A.s0, .int .u64 A.s1, .int .u64 A.s2, .int .u64 A.s3, .slice ko A.kids.length kc] 27)).alloc (.cells #[.int .i64 (6 + (q : Int) % 5), .string ⟨#[]⟩, .int .u64 0, .int .u64 0, .int .u64 0, .int .u64 0, .slice (some ⟨w3.heap.size + 1 + 1, 0, none⟩) 1 1] 27)) (w3.heap.size + 1) 27 ([.int .i64 (4 + (q : Int) % 2), .string ⟨#[]⟩, .int .u64 0, .int .u64 0, .int .u64 0, .int .u64 0, .slice (some ⟨w3.heap.size, 0, none⟩) 2 2]) := ((Own.fresh' (w := w3.alloc (.cells #[.int .i64 A.op, .string A.text, .int .u64 A.s0, .int .u64 A.s1, .int .u64 A.s2, .int .u64 A.s3, .slice ko A.kids.length kc, .int .i64 B.op, .string B.text, .int .u64 B.s0, .int .u64 B.s1, .int .u64 B.s2, .int .u64 B.s3, .slice lo B.kids.length lc] 27)) (by simp) 27 ([.int .i64 (4 + (q : Int) % 2), .string ⟨#[]⟩, .int .u64 0, .int .u64 0, .int .u64 0, .int .u64 0, .slice (some ⟨w3.heap.size, 0, none⟩) 2 2])).on_alloc _).on_alloc _
      have hs1 : Own ((((w3.alloc (.cells #[.int .i64 A.op, .string A.text, .int .u64 A.s0, .int .u64 A.s1, .int .u64 A.s2, .int .u64 A.s3, .slice ko A.kids.length kc, .int .i64 B.op, .string B.text, .int .u64 B.s0, .int .u64 B.s1, .int .u64 B.s2, .int .u64 B.s3, .slice lo B.kids.length lc] 27)).alloc (.cells #[.int .i64 (4 + (q : Int) % 2), .string ⟨#[]⟩, .int .u64 0, .int .u64 0, .int .u64 0, .int .u64 0, .slice (some ⟨w3.heap.size, 0, none⟩) 2 2] 27)).alloc (.cells #[.int .i64 A.op, .string A.text, .int .u64 A.s0, .int .u64 A.s1, .int .u64 A.s2, .int .u64 A.s3, .slice ko A.kids.length kc] 27)).alloc (.cells #[.int .i64 (6 + (q : Int) % 5), .string ⟨#[]⟩, .int .u64 0, .int .u64 0, .int .u64 0, .int .u64 0, .slice (some ⟨w3.heap.size + 1 + 1, 0, none⟩) 1 1] 27)) (w3.heap.size + 1 + 1) 27 ([.int .i64 A.op, .string A.text, .int .u64 A.s0, .int .u64 A.s1, .int .u64 A.s2, .int .u64 A.s3, .slice ko A.kids.length kc]) := (Own.fresh' (w := (w3.alloc (.cells #[.int .i64 A.op, .string A.text, .int .u64 A.s0, .int .u64 A.s1, .int .u64 A.s2, .int .u64 A.s3, .slice ko A.kids.length kc, .int .i64 B.op, .string B.text, .int .u64 B.s0, .int .u64 B.s1, .int .u64 B.s2, .int .u64 B.s3, .slice lo B.kids.length lc] 27)).alloc (.cells #[.int .i64 (4 + (q : Int) % 2), .string ⟨#[]⟩, .int .u64 0, .int .u64 0, .int .u64 0, .int .u64 0, .slice (some ⟨w3.heap.size, 0, none⟩) 2 2] 27)) (by simp) 27 ([.int .i64 A.op, .string A.text, .int .u64 A.s0, .int .u64 A.s1, .int .u64 A.s2, .int .u64 A.s3, .slice ko A.kids.length kc])).on_alloc _
      have ht1 : Own ((((w3.alloc (.cells #[.int .i64 A.op, .string A.text, .int .u64 A.s0, .int .u64 A.s1, .int .u64 A.s2, .int .u64 A.s3, .slice ko A.kids.length kc, .int .i64 B.op, .string B.text, .int .u64 B.s0, .int .u64 B.s1, .int .u64 B.s2, .int .u64 B.s3, .slice lo B.kids.length lc] 27)).alloc (.cells #[.int .i64 (4 + (q : Int) % 2), .string ⟨#[]⟩, .int .u64 0, .int .u64 0, .int .u64 0, .int .u64 0, .slice (some ⟨w3.heap.size, 0, none⟩) 2 2] 27)).alloc (.cells #[.int .i64 A.op, .string A.text, .int .u64 A.s0, .int .u64 A.s1, .int .u64 A.s2, .int .u64 A.s3, .slice ko A.kids.length kc] 27)).alloc (.cells #[.int .i64 (6 + (q : Int) % 5), .string ⟨#[]⟩, .int .u64 0, .int .u64 0, .int .u64 0, .int .u64 0, .slice (some ⟨w3.heap.size + 1 + 1, 0, none⟩) 1 1] 27)) (w3.heap.size + 1 + 1 + 1) 27 ([.int .i64 (6 + (q : Int) % 5), .string ⟨#[]⟩, .int .u64 0, .int .u64 0, .int .u64 0, .int .u64 0, .slice (some ⟨w3.heap.size + 1 + 1, 0, none⟩) 1 1]) := Own.fresh' (w := ((w3.alloc (.cells #[.int .i64 A.op, .string A.text, .int .u64 A.s0, .int .u64 A.s1, .int .u64 A.s2, .int .u64 A.s3, .slice ko A.kids.length kc, .int .i64 B.op, .string B.text, .int .u64 B.s0, .int .u64 B.s1, .int .u64 B.s2, .int .u64 B.s3, .slice lo B.kids.length lc] 27)).alloc (.cells #[.int .i64 (4 + (q : Int) % 2), .string ⟨#[]⟩, .int .u64 0, .int .u64 0, .int .u64 0, .int .u64 0, .slice (some ⟨w3.heap.size, 0, none⟩) 2 2] 27)).alloc (.cells #[.int .i64 A.op, .string A.text, .int .u64 A.s0, .int .u64 A.s1, .int .u64 A.s2, .int .u64 A.s3, .slice ko A.kids.length kc] 27)) (by simp) 27 ([.int .i64 (6 + (q : Int) % 5), .string ⟨#[]⟩, .int .u64 0, .int .u64 0, .int .u64 0, .int .u64 0, .slice (some ⟨w3.heap.size + 1 + 1, 0, none⟩) 1 1])
      go_wp2_with fail
      generalize (((w3.alloc (.cells #[.int .i64 A.op, .string A.text, .int .u64 A.s0, .int .u64 A.s1, .int .u64 A.s2, .int .u64 A.s3, .slice ko A.kids.length kc, .int .i64 B.op, .string B.text, .int .u64 B.s0, .int .u64 B.s1, .int .u64 B.s2, .int .u64 B.s3, .slice lo B.kids.length lc] 27)).alloc (.cells #[.int .i64 (4 + (q : Int) % 2), .string ⟨#[]⟩, .int .u64 0, .int .u64 0, .int .u64 0, .int .u64 0, .slice (some ⟨w3.heap.size, 0, none⟩) 2 2] 27)).alloc (.cells #[.int .i64 A.op, .string A.text, .int .u64 A.s0, .int .u64 A.s1, .int .u64 A.s2, .int .u64 A.s3, .slice ko A.kids.length kc] 27)).alloc (.cells #[.int .i64 (6 + (q : Int) % 5), .string ⟨#[]⟩, .int .u64 0, .int .u64 0, .int .u64 0, .int .u64 0, .slice (some ⟨w3.heap.size + 1 + 1, 0, none⟩) 1 1] 27) = w4 at *
      have HB4 := Lib.hid (keepb HB3.out hb4)
      have H34 := Lib.hid (own_move H33.out hb4)
      have H44 := Lib.hid (own_move H43.out hb4)
      have P24 := Lib.hid ht2
      have P14 := Lib.hid ht1
      have KA4 := Lib.hid (HasK.cut HGA.out (HasK.below HB4.out HKA.out))
      have KB4 := Lib.hid (HasK.cut HGB.out (HasK.below HB4.out HKB.out))
      have K24 := Lib.hid (show HasK w4 18 (some ⟨w3.heap.size, 0, none⟩) [A, B] from HasK.two (x := A) (y := B) (ko := ko) (kc := kc) (lo := lo) (lc := lc) hs2 KA4.out KB4.out)
      have K14 := Lib.hid (show HasK w4 18 (some ⟨w3.heap.size + 1 + 1, 0, none⟩) [A] from HasK.one (x := A) (ko := ko) (kc := kc) hs1 KA4.out)
      clear hb4 hs2 ht2 hs1 ht1 a0 a1 a2 a3 a4 a5 a6 b0 b1 b2 b3 b4 b5 b6 ho3 ho4 HB3 H33 H43 HKA HKB
      have GT := Lib.hid (grt_two (o := 4 + (q : Int) % 2) HGA.out HGB.out)
      have GO := Lib.hid (grt_one (o := 6 + (q : Int) % 5) HGA.out)
      have ho2 : 4 + (q : Int) % 2 = 4 ∨ 4 + (q : Int) % 2 = 5 := by omega
      have ho1 : 6 + (q : Int) % 5 = 6 ∨ 6 + (q : Int) % 5 = 7 ∨ 6 + (q : Int) % 5 = 8 ∨ 6 + (q : Int) % 5 = 9 ∨ 6 + (q : Int) % 5 = 10 := by omega
      have RT := Lib.hid (right_two ho2 A B)
      have RO := Lib.hid (right_one ho1 A)
      clear ho2 ho1
      have ST := Lib.hid (size_two (4 + (q : Int) % 2) A B)
      have SO := Lib.hid (size_one (6 + (q : Int) % 5) A)
      have DT := Lib.hid (deep_two (4 + (q : Int) % 2) A B)
      have DO := Lib.hid (deep_one (6 + (q : Int) % 5) A)
      have da := deepX_bd 17 A
      have db := deepX_bd 17 B
      have sa := sizeX_bd 17 A HGA.out
      have sb := sizeX_bd 17 B HGB.out
      have c17 := cap9_le (n := 17) (by decide)
      obtain ⟨da0, da1⟩ := da
      obtain ⟨db0, db1⟩ := db
      have sa1 : sizeX 17 A ≤ 150094635296999121 := by omega
      have sb1 : sizeX 17 B ≤ 150094635296999121 := by omega
      have sa0 := sa.1
      have sb0 := sb.1
      clear sa sb c17
      obtain ⟨vda, hvda⟩ : ∃ v, deepX 17 A = v := ⟨_, rfl⟩
      obtain ⟨vdb, hvdb⟩ : ∃ v, deepX 17 B = v := ⟨_, rfl⟩
      obtain ⟨vsa, hvsa⟩ : ∃ v, sizeX 17 A = v := ⟨_, rfl⟩
      obtain ⟨vsb, hvsb⟩ : ∃ v, sizeX 17 B = v := ⟨_, rfl⟩
      obtain ⟨vra, hvra⟩ : ∃ v, rightX 17 A = v := ⟨_, rfl⟩
      obtain ⟨vrb, hvrb⟩ : ∃ v, rightX 17 B = v := ⟨_, rfl⟩
      rw [hvda] at da0 da1 DT DO RT RO
      rw [hvdb] at db0 db1 DT RT
      rw [hvsa] at sa0 sa1 ST SO
      rw [hvsb] at sb0 sb1 ST
      rw [hvra] at RT RO
      rw [hvrb] at RT
      have HVDA := Lib.hid hvda
      have HVDB := Lib.hid hvdb
      have HVSA := Lib.hid hvsa
      have HVSB := Lib.hid hvsb
      have HVRA := Lib.hid hvra
      have HVRB := Lib.hid hvrb
      clear hvda hvdb hvsa hvsb hvra hvrb
      obtain ⟨vm, hvm⟩ : ∃ v, max vda vdb = v := ⟨_, rfl⟩
      have DT2 := Lib.hid (show deepX 18 (exTwo (4 + (q : Int) % 2) A B) = vm + 1 by rw [DT.out, ← hvm]; omega)
      have DO2 := Lib.hid (show deepX 18 (exOne (6 + (q : Int) % 5) A) = vda + 1 by rw [DO.out]; omega)
      have ST2 := Lib.hid (show sizeX 18 (exTwo (4 + (q : Int) % 2) A B) = vsa + vsb + 1 by rw [ST.out]; omega)
      have SO2 := Lib.hid (show sizeX 18 (exOne (6 + (q : Int) % 5) A) = vsa + 1 by rw [SO.out]; omega)
      have hvm0 : 0 ≤ vm := by omega
      have hvm1 : vm ≤ 17 := by omega
      rw [hvm] at RT
      have HVM := Lib.hid hvm
      clear DT DO ST SO hvm
      have CDA := Lib.hid (fun (dq : Nat) (os : Array Obj) => show Calls Try.prog 12 #[.agg #[.int .i64 A.op, .string A.text, .int .u64 A.s0, .int .u64 A.s1, .int .u64 A.s2, .int .u64 A.s3, .slice ko A.kids.length kc]] (grow (redrawn w4 dq) os) fun e w' => e = .returned (.int .i64 vda) ∧ Below (grow (redrawn w4 dq) os).heap.size (grow (redrawn w4 dq) os) w' from by have h := deep_any 17 (by decide) A ko kc _ HGA.out (HasK.below (below_regrown w4 dq os) KA4.out); rw [HVDA.out] at h; exact h)
      have CDB := Lib.hid (fun (dq : Nat) (os : Array Obj) => show Calls Try.prog 12 #[.agg #[.int .i64 B.op, .string B.text, .int .u64 B.s0, .int .u64 B.s1, .int .u64 B.s2, .int .u64 B.s3, .slice lo B.kids.length lc]] (grow (redrawn w4 dq) os) fun e w' => e = .returned (.int .i64 vdb) ∧ Below (grow (redrawn w4 dq) os).heap.size (grow (redrawn w4 dq) os) w' from by have h := deep_any 17 (by decide) B lo lc _ HGB.out (HasK.below (below_regrown w4 dq os) KB4.out); rw [HVDB.out] at h; exact h)
      obtain ⟨a0, a1, a2, a3, a4, a5, a6⟩ := H34.out.seven
      have hoa := H34.out.lt
      have a0' := cell_regrown a0
      have a1' := cell_regrown a1
      have a2' := cell_regrown a2
      have a3' := cell_regrown a3
      have a4' := cell_regrown a4
      have a5' := cell_regrown a5
      have a6' := cell_regrown a6
      obtain ⟨b0, b1, b2, b3, b4, b5, b6⟩ := H44.out.seven
      have hob := H44.out.lt
      have b0' := cell_regrown b0
      have b1' := cell_regrown b1
      have b2' := cell_regrown b2
      have b3' := cell_regrown b3
      have b4' := cell_regrown b4
      have b5' := cell_regrown b5
      have b6' := cell_regrown b6
      refine wp_region_quiet_below (by kernel_rfl) (by kernel_rfl) ?_
      repeat (go_big_quiet_step (first
        | (go_at_call 12; with_reducible exact Calls.regrown_of (CDA.out _ _))
        | (go_at_call 12; with_reducible exact Calls.regrown_of (CDB.out _ _))))
      refine wpQuiet_nil ?_
      intro _ hw'
      obtain ⟨⟨dq, osq⟩, hw''⟩ := hw'
      subst hw''
      clear a0 a0' a1 a1' a2 a2' a3 a3' a4 a4' a5 a5' a6 a6' b0 b0' b1 b1' b2 b2' b3 b3' b4 b4' b5 b5' b6 b6' hoa hob
      have hbr := below_regrown w4 dq osq
      generalize grow (redrawn w4 dq) osq = w5 at *
      have HB5 := Lib.hid (keepb HB4.out hbr)
      have H35 := Lib.hid (own_move H34.out hbr)
      have H45 := Lib.hid (own_move H44.out hbr)
      have P25 := Lib.hid (own_move P24.out hbr)
      have P15 := Lib.hid (own_move P14.out hbr)
      have KA5 := Lib.hid (HasK.below hbr KA4.out)
      have KB5 := Lib.hid (HasK.below hbr KB4.out)
      have K25 := Lib.hid (HasK.below hbr K24.out)
      have K15 := Lib.hid (HasK.below hbr K14.out)
      clear hbr HB4 H34 H44 P24 P14 KA4 KB4 K24 K14 CDA CDB
      rw [HVM.out]
      go_wp2_with fail
      have CSA := Lib.hid (fun (dq : Nat) (os : Array Obj) => show Calls Try.prog 14 #[.agg #[.int .i64 A.op, .string A.text, .int .u64 A.s0, .int .u64 A.s1, .int .u64 A.s2, .int .u64 A.s3, .slice ko A.kids.length kc]] (grow (redrawn w5 dq) os) fun e w' => e = .returned (.int .i64 vsa) ∧ Below (grow (redrawn w5 dq) os).heap.size (grow (redrawn w5 dq) os) w' from by have h := size_any 17 (by decide) A ko kc _ HGA.out (HasK.below (below_regrown w5 dq os) KA5.out); rw [HVSA.out] at h; exact h)
      have CSB := Lib.hid (fun (dq : Nat) (os : Array Obj) => show Calls Try.prog 14 #[.agg #[.int .i64 B.op, .string B.text, .int .u64 B.s0, .int .u64 B.s1, .int .u64 B.s2, .int .u64 B.s3, .slice lo B.kids.length lc]] (grow (redrawn w5 dq) os) fun e w' => e = .returned (.int .i64 vsb) ∧ Below (grow (redrawn w5 dq) os).heap.size (grow (redrawn w5 dq) os) w' from by have h := size_any 17 (by decide) B lo lc _ HGB.out (HasK.below (below_regrown w5 dq os) KB5.out); rw [HVSB.out] at h; exact h)
      have CS2 := Lib.hid (fun (dq : Nat) (os : Array Obj) => show Calls Try.prog 14 #[.agg #[.int .i64 (4 + (q : Int) % 2), .string ⟨#[]⟩, .int .u64 0, .int .u64 0, .int .u64 0, .int .u64 0, .slice (some ⟨w3.heap.size, 0, none⟩) 2 2]] (grow (redrawn w5 dq) os) fun e w' => e = .returned (.int .i64 (vsa + vsb + 1)) ∧ Below (grow (redrawn w5 dq) os).heap.size (grow (redrawn w5 dq) os) w' from by have h := size_any 18 (by decide) (exTwo (4 + (q : Int) % 2) A B) (some ⟨w3.heap.size, 0, none⟩) 2 _ GT.out (HasK.below (below_regrown w5 dq os) K25.out); rw [ST2.out] at h; exact h)
      have CS1 := Lib.hid (fun (dq : Nat) (os : Array Obj) => show Calls Try.prog 14 #[.agg #[.int .i64 (6 + (q : Int) % 5), .string ⟨#[]⟩, .int .u64 0, .int .u64 0, .int .u64 0, .int .u64 0, .slice (some ⟨w3.heap.size + 1 + 1, 0, none⟩) 1 1]] (grow (redrawn w5 dq) os) fun e w' => e = .returned (.int .i64 (vsa + 1)) ∧ Below (grow (redrawn w5 dq) os).heap.size (grow (redrawn w5 dq) os) w' from by have h := size_any 18 (by decide) (exOne (6 + (q : Int) % 5) A) (some ⟨w3.heap.size + 1 + 1, 0, none⟩) 1 _ GO.out (HasK.below (below_regrown w5 dq os) K15.out); rw [SO2.out] at h; exact h)
      have CD2 := Lib.hid (fun (dq : Nat) (os : Array Obj) => show Calls Try.prog 12 #[.agg #[.int .i64 (4 + (q : Int) % 2), .string ⟨#[]⟩, .int .u64 0, .int .u64 0, .int .u64 0, .int .u64 0, .slice (some ⟨w3.heap.size, 0, none⟩) 2 2]] (grow (redrawn w5 dq) os) fun e w' => e = .returned (.int .i64 (vm + 1)) ∧ Below (grow (redrawn w5 dq) os).heap.size (grow (redrawn w5 dq) os) w' from by have h := deep_any 18 (by decide) (exTwo (4 + (q : Int) % 2) A B) (some ⟨w3.heap.size, 0, none⟩) 2 _ GT.out (HasK.below (below_regrown w5 dq os) K25.out); rw [DT2.out] at h; exact h)
      have CD1 := Lib.hid (fun (dq : Nat) (os : Array Obj) => show Calls Try.prog 12 #[.agg #[.int .i64 (6 + (q : Int) % 5), .string ⟨#[]⟩, .int .u64 0, .int .u64 0, .int .u64 0, .int .u64 0, .slice (some ⟨w3.heap.size + 1 + 1, 0, none⟩) 1 1]] (grow (redrawn w5 dq) os) fun e w' => e = .returned (.int .i64 (vda + 1)) ∧ Below (grow (redrawn w5 dq) os).heap.size (grow (redrawn w5 dq) os) w' from by have h := deep_any 18 (by decide) (exOne (6 + (q : Int) % 5) A) (some ⟨w3.heap.size + 1 + 1, 0, none⟩) 1 _ GO.out (HasK.below (below_regrown w5 dq os) K15.out); rw [DO2.out] at h; exact h)
      have CDA := Lib.hid (fun (dq : Nat) (os : Array Obj) => show Calls Try.prog 12 #[.agg #[.int .i64 A.op, .string A.text, .int .u64 A.s0, .int .u64 A.s1, .int .u64 A.s2, .int .u64 A.s3, .slice ko A.kids.length kc]] (grow (redrawn w5 dq) os) fun e w' => e = .returned (.int .i64 vda) ∧ Below (grow (redrawn w5 dq) os).heap.size (grow (redrawn w5 dq) os) w' from by have h := deep_any 17 (by decide) A ko kc _ HGA.out (HasK.below (below_regrown w5 dq os) KA5.out); rw [HVDA.out] at h; exact h)
      have hw1 : IntKind.i64.wrap (vsa + vsb) = vsa + vsb := by rw [IntKind.wrap_i64]; omega
      have hw2 : IntKind.i64.wrap (vsa + vsb + 1) = vsa + vsb + 1 := by rw [IntKind.wrap_i64]; omega
      have hw3 : IntKind.i64.wrap (vsa + 1) = vsa + 1 := by rw [IntKind.wrap_i64]; omega
      have hw4 : IntKind.i64.wrap (vm + 1) = vm + 1 := by rw [IntKind.wrap_i64]; omega
      have hw5 : IntKind.i64.wrap (vda + 1) = vda + 1 := by rw [IntKind.wrap_i64]; omega
      obtain ⟨a0, a1, a2, a3, a4, a5, a6⟩ := H35.out.seven
      have hoa := H35.out.lt
      have a0' := cell_regrown a0
      have a1' := cell_regrown a1
      have a2' := cell_regrown a2
      have a3' := cell_regrown a3
      have a4' := cell_regrown a4
      have a5' := cell_regrown a5
      have a6' := cell_regrown a6
      obtain ⟨b0, b1, b2, b3, b4, b5, b6⟩ := H45.out.seven
      have hob := H45.out.lt
      have b0' := cell_regrown b0
      have b1' := cell_regrown b1
      have b2' := cell_regrown b2
      have b3' := cell_regrown b3
      have b4' := cell_regrown b4
      have b5' := cell_regrown b5
      have b6' := cell_regrown b6
      obtain ⟨t0, t1, t2, t3, t4, t5, t6⟩ := P25.out.seven
      have hot := P25.out.lt
      have t0' := cell_regrown t0
      have t1' := cell_regrown t1
      have t2' := cell_regrown t2
      have t3' := cell_regrown t3
      have t4' := cell_regrown t4
      have t5' := cell_regrown t5
      have t6' := cell_regrown t6
      obtain ⟨u0, u1, u2, u3, u4, u5, u6⟩ := P15.out.seven
      have hou := P15.out.lt
      have u0' := cell_regrown u0
      have u1' := cell_regrown u1
      have u2' := cell_regrown u2
      have u3' := cell_regrown u3
      have u4' := cell_regrown u4
      have u5' := cell_regrown u5
      have u6' := cell_regrown u6
      refine wp_region_quiet_below (by kernel_rfl) (by kernel_rfl) ?_
      repeat (go_big_quiet_step (first
        | (go_at_call 14; with_reducible exact Calls.regrown_of (CSA.out _ _))
        | (go_at_call 14; with_reducible exact Calls.regrown_of (CSB.out _ _))
        | (go_at_call 14; with_reducible exact Calls.regrown_of (CS2.out _ _))
        | (go_at_call 14; with_reducible exact Calls.regrown_of (CS1.out _ _))
        | (go_at_call 12; with_reducible exact Calls.regrown_of (CD2.out _ _))
        | (go_at_call 12; with_reducible exact Calls.regrown_of (CD1.out _ _))
        | (go_at_call 12; with_reducible exact Calls.regrown_of (CDA.out _ _))))
      refine wpQuiet_nil ?_
      intro _ hw'
      obtain ⟨⟨dq, osq⟩, hw''⟩ := hw'
      subst hw''
      clear a0 a0' a1 a1' a2 a2' a3 a3' a4 a4' a5 a5' a6 a6' b0 b0' b1 b1' b2 b2' b3 b3' b4 b4' b5 b5' b6 b6' t0 t0' t1 t1' t2 t2' t3 t3' t4 t4' t5 t5' t6 t6' u0 u0' u1 u1' u2 u2' u3 u3' u4 u4' u5 u5' u6 u6' hoa hob hot hou
      have hbr := below_regrown w5 dq osq
      generalize grow (redrawn w5 dq) osq = w6 at *
      have HB6 := Lib.hid (keepb HB5.out hbr)
      have H36 := Lib.hid (own_move H35.out hbr)
      have H46 := Lib.hid (own_move H45.out hbr)
      have P26 := Lib.hid (own_move P25.out hbr)
      have P16 := Lib.hid (own_move P15.out hbr)
      have KA6 := Lib.hid (HasK.below hbr KA5.out)
      have KB6 := Lib.hid (HasK.below hbr KB5.out)
      have K26 := Lib.hid (HasK.below hbr K25.out)
      have K16 := Lib.hid (HasK.below hbr K15.out)
      clear hbr HB5 H35 H45 P25 P15 KA5 KB5 K25 K15 CD1 CD2 CDA CS1 CS2 CSA CSB
      clear hw1 hw2 hw3 hw4 hw5
      obtain ⟨a0, a1, a2, a3, a4, a5, a6⟩ := H36.out.seven
      go_wp2_with fail
      refine (right_any 17 (by decide) A ko kc _ HGA.out KA6.out (HM.out.below HB6.out)).mono ?_
      rintro e w7 ⟨rfl, hb7⟩
      rw [HVRA.out]
      clear a0 a1 a2 a3 a4 a5 a6
      have HB7 := Lib.hid (keepb HB6.out hb7)
      have H37 := Lib.hid (own_move H36.out hb7)
      have H47 := Lib.hid (own_move H46.out hb7)
      have P27 := Lib.hid (own_move P26.out hb7)
      have P17 := Lib.hid (own_move P16.out hb7)
      have KA7 := Lib.hid (HasK.below hb7 KA6.out)
      have KB7 := Lib.hid (HasK.below hb7 KB6.out)
      have K27 := Lib.hid (HasK.below hb7 K26.out)
      have K17 := Lib.hid (HasK.below hb7 K16.out)
      clear hb7 HB6 H36 H46 P26 P16 KA6 KB6 K26 K16
      obtain ⟨v2, hv2⟩ : ∃ v, (vra && vrb && decide (vm < 12)) = v := ⟨_, rfl⟩
      obtain ⟨v1, hv1⟩ : ∃ v, (vra && decide (vda < 12)) = v := ⟨_, rfl⟩
      have HV2 := Lib.hid hv2
      have HV1 := Lib.hid hv1
      clear hv2 hv1
      cases vra
      · go_wp2_with fail
        have CAW := Lib.hid (fun (dq : Nat) (os : Array Obj) => show Calls Try.prog 7 #[] (grow (redrawn w7 dq) os) fun e w' => e = .returned (.bool true) ∧ Below (grow (redrawn w7 dq) os).heap.size (grow (redrawn w7 dq) os) w' from by exact awake_any _ (HM.out.below (HB7.out.trans ((below_regrown w7 dq os).mono HB7.out.size))))
        have CR2 := Lib.hid (fun (dq : Nat) (os : Array Obj) => show Calls Try.prog 16 #[.agg #[.int .i64 (4 + (q : Int) % 2), .string ⟨#[]⟩, .int .u64 0, .int .u64 0, .int .u64 0, .int .u64 0, .slice (some ⟨w3.heap.size, 0, none⟩) 2 2]] (grow (redrawn w7 dq) os) fun e w' => e = .returned (.bool v2) ∧ Below (grow (redrawn w7 dq) os).heap.size (grow (redrawn w7 dq) os) w' from by have h := right_any 18 (by decide) (exTwo (4 + (q : Int) % 2) A B) (some ⟨w3.heap.size, 0, none⟩) 2 _ GT.out (HasK.below (below_regrown w7 dq os) K27.out) (HM.out.below (HB7.out.trans ((below_regrown w7 dq os).mono HB7.out.size))); rw [RT.out, HV2.out] at h; exact h)
        have CR1 := Lib.hid (fun (dq : Nat) (os : Array Obj) => show Calls Try.prog 16 #[.agg #[.int .i64 (6 + (q : Int) % 5), .string ⟨#[]⟩, .int .u64 0, .int .u64 0, .int .u64 0, .int .u64 0, .slice (some ⟨w3.heap.size + 1 + 1, 0, none⟩) 1 1]] (grow (redrawn w7 dq) os) fun e w' => e = .returned (.bool v1) ∧ Below (grow (redrawn w7 dq) os).heap.size (grow (redrawn w7 dq) os) w' from by have h := right_any 18 (by decide) (exOne (6 + (q : Int) % 5) A) (some ⟨w3.heap.size + 1 + 1, 0, none⟩) 1 _ GO.out (HasK.below (below_regrown w7 dq os) K17.out) (HM.out.below (HB7.out.trans ((below_regrown w7 dq os).mono HB7.out.size))); rw [RO.out, HV1.out] at h; exact h)
        have CRA := Lib.hid (fun (dq : Nat) (os : Array Obj) => show Calls Try.prog 16 #[.agg #[.int .i64 A.op, .string A.text, .int .u64 A.s0, .int .u64 A.s1, .int .u64 A.s2, .int .u64 A.s3, .slice ko A.kids.length kc]] (grow (redrawn w7 dq) os) fun e w' => e = .returned (.bool false) ∧ Below (grow (redrawn w7 dq) os).heap.size (grow (redrawn w7 dq) os) w' from by have h := right_any 17 (by decide) A ko kc _ HGA.out (HasK.below (below_regrown w7 dq os) KA7.out) (HM.out.below (HB7.out.trans ((below_regrown w7 dq os).mono HB7.out.size))); rw [HVRA.out] at h; exact h)
        have CDA := Lib.hid (fun (dq : Nat) (os : Array Obj) => show Calls Try.prog 12 #[.agg #[.int .i64 A.op, .string A.text, .int .u64 A.s0, .int .u64 A.s1, .int .u64 A.s2, .int .u64 A.s3, .slice ko A.kids.length kc]] (grow (redrawn w7 dq) os) fun e w' => e = .returned (.int .i64 vda) ∧ Below (grow (redrawn w7 dq) os).heap.size (grow (redrawn w7 dq) os) w' from by have h := deep_any 17 (by decide) A ko kc _ HGA.out (HasK.below (below_regrown w7 dq os) KA7.out); rw [HVDA.out] at h; exact h)
        by_cases c1 : vm < 12 <;> by_cases c2 : vda < 12
        all_goals
          have hv2 := HV2.out
          have hv1 := HV1.out
          simp [c1, c2] at hv2 hv1
          subst hv2 hv1
          obtain ⟨a0, a1, a2, a3, a4, a5, a6⟩ := H37.out.seven
          have hoa := H37.out.lt
          have a0' := cell_regrown a0
          have a1' := cell_regrown a1
          have a2' := cell_regrown a2
          have a3' := cell_regrown a3
          have a4' := cell_regrown a4
          have a5' := cell_regrown a5
          have a6' := cell_regrown a6
          obtain ⟨t0, t1, t2, t3, t4, t5, t6⟩ := P27.out.seven
          have hot := P27.out.lt
          have t0' := cell_regrown t0
          have t1' := cell_regrown t1
          have t2' := cell_regrown t2
          have t3' := cell_regrown t3
          have t4' := cell_regrown t4
          have t5' := cell_regrown t5
          have t6' := cell_regrown t6
          obtain ⟨u0, u1, u2, u3, u4, u5, u6⟩ := P17.out.seven
          have hou := P17.out.lt
          have u0' := cell_regrown u0
          have u1' := cell_regrown u1
          have u2' := cell_regrown u2
          have u3' := cell_regrown u3
          have u4' := cell_regrown u4
          have u5' := cell_regrown u5
          have u6' := cell_regrown u6
          refine wp_region_quiet_below (by kernel_rfl) (by kernel_rfl) ?_
          repeat (go_big_quiet_step (first
            | (go_at_call 7; with_reducible exact Calls.regrown_of (CAW.out _ _))
            | (go_at_call 16; with_reducible exact Calls.regrown_of (CR2.out _ _))
            | (go_at_call 16; with_reducible exact Calls.regrown_of (CR1.out _ _))
            | (go_at_call 16; with_reducible exact Calls.regrown_of (CRA.out _ _))
            | (go_at_call 12; with_reducible exact Calls.regrown_of (CDA.out _ _))))
          refine wpQuiet_nil ?_
          intro _ hw'
          obtain ⟨⟨dq, osq⟩, hw''⟩ := hw'
          subst hw''
          clear a0 a0' a1 a1' a2 a2' a3 a3' a4 a4' a5 a5' a6 a6' t0 t0' t1 t1' t2 t2' t3 t3' t4 t4' t5 t5' t6 t6' u0 u0' u1 u1' u2 u2' u3 u3' u4 u4' u5 u5' u6 u6' hoa hot hou
          have hbr := below_regrown w7 dq osq
          generalize grow (redrawn w7 dq) osq = w8 at *
          have HB8 := Lib.hid (keepb HB7.out hbr)
          have H38 := Lib.hid (own_move H37.out hbr)
          have H48 := Lib.hid (own_move H47.out hbr)
          have P28 := Lib.hid (own_move P27.out hbr)
          have P18 := Lib.hid (own_move P17.out hbr)
          have KA8 := Lib.hid (HasK.below hbr KA7.out)
          have KB8 := Lib.hid (HasK.below hbr KB7.out)
          have K28 := Lib.hid (HasK.below hbr K27.out)
          have K18 := Lib.hid (HasK.below hbr K17.out)
          clear hbr HB7 H37 H47 P27 P17 KA7 KB7 K27 K17 CAW CDA CR1 CR2 CRA
          go_wp2
          go_ret
          exact ⟨rfl, HB8.out⟩
      · obtain ⟨b0, b1, b2, b3, b4, b5, b6⟩ := H47.out.seven
        go_wp2_with fail
        refine (right_any 17 (by decide) B lo lc _ HGB.out KB7.out (HM.out.below HB7.out)).mono ?_
        rintro e w8 ⟨rfl, hb8⟩
        rw [HVRB.out]
        clear b0 b1 b2 b3 b4 b5 b6
        have HB8 := Lib.hid (keepb HB7.out hb8)
        have H38 := Lib.hid (own_move H37.out hb8)
        have H48 := Lib.hid (own_move H47.out hb8)
        have P28 := Lib.hid (own_move P27.out hb8)
        have P18 := Lib.hid (own_move P17.out hb8)
        have KA8 := Lib.hid (HasK.below hb8 KA7.out)
        have KB8 := Lib.hid (HasK.below hb8 KB7.out)
        have K28 := Lib.hid (HasK.below hb8 K27.out)
        have K18 := Lib.hid (HasK.below hb8 K17.out)
        clear hb8 HB7 H37 H47 P27 P17 KA7 KB7 K27 K17
        cases vrb
        all_goals
          go_wp2_with fail
          have CAW := Lib.hid (fun (dq : Nat) (os : Array Obj) => show Calls Try.prog 7 #[] (grow (redrawn w8 dq) os) fun e w' => e = .returned (.bool true) ∧ Below (grow (redrawn w8 dq) os).heap.size (grow (redrawn w8 dq) os) w' from by exact awake_any _ (HM.out.below (HB8.out.trans ((below_regrown w8 dq os).mono HB8.out.size))))
          have CR2 := Lib.hid (fun (dq : Nat) (os : Array Obj) => show Calls Try.prog 16 #[.agg #[.int .i64 (4 + (q : Int) % 2), .string ⟨#[]⟩, .int .u64 0, .int .u64 0, .int .u64 0, .int .u64 0, .slice (some ⟨w3.heap.size, 0, none⟩) 2 2]] (grow (redrawn w8 dq) os) fun e w' => e = .returned (.bool v2) ∧ Below (grow (redrawn w8 dq) os).heap.size (grow (redrawn w8 dq) os) w' from by have h := right_any 18 (by decide) (exTwo (4 + (q : Int) % 2) A B) (some ⟨w3.heap.size, 0, none⟩) 2 _ GT.out (HasK.below (below_regrown w8 dq os) K28.out) (HM.out.below (HB8.out.trans ((below_regrown w8 dq os).mono HB8.out.size))); rw [RT.out, HV2.out] at h; exact h)
          have CR1 := Lib.hid (fun (dq : Nat) (os : Array Obj) => show Calls Try.prog 16 #[.agg #[.int .i64 (6 + (q : Int) % 5), .string ⟨#[]⟩, .int .u64 0, .int .u64 0, .int .u64 0, .int .u64 0, .slice (some ⟨w3.heap.size + 1 + 1, 0, none⟩) 1 1]] (grow (redrawn w8 dq) os) fun e w' => e = .returned (.bool v1) ∧ Below (grow (redrawn w8 dq) os).heap.size (grow (redrawn w8 dq) os) w' from by have h := right_any 18 (by decide) (exOne (6 + (q : Int) % 5) A) (some ⟨w3.heap.size + 1 + 1, 0, none⟩) 1 _ GO.out (HasK.below (below_regrown w8 dq os) K18.out) (HM.out.below (HB8.out.trans ((below_regrown w8 dq os).mono HB8.out.size))); rw [RO.out, HV1.out] at h; exact h)
          have CRA := Lib.hid (fun (dq : Nat) (os : Array Obj) => show Calls Try.prog 16 #[.agg #[.int .i64 A.op, .string A.text, .int .u64 A.s0, .int .u64 A.s1, .int .u64 A.s2, .int .u64 A.s3, .slice ko A.kids.length kc]] (grow (redrawn w8 dq) os) fun e w' => e = .returned (.bool true) ∧ Below (grow (redrawn w8 dq) os).heap.size (grow (redrawn w8 dq) os) w' from by have h := right_any 17 (by decide) A ko kc _ HGA.out (HasK.below (below_regrown w8 dq os) KA8.out) (HM.out.below (HB8.out.trans ((below_regrown w8 dq os).mono HB8.out.size))); rw [HVRA.out] at h; exact h)
          have CDA := Lib.hid (fun (dq : Nat) (os : Array Obj) => show Calls Try.prog 12 #[.agg #[.int .i64 A.op, .string A.text, .int .u64 A.s0, .int .u64 A.s1, .int .u64 A.s2, .int .u64 A.s3, .slice ko A.kids.length kc]] (grow (redrawn w8 dq) os) fun e w' => e = .returned (.int .i64 vda) ∧ Below (grow (redrawn w8 dq) os).heap.size (grow (redrawn w8 dq) os) w' from by have h := deep_any 17 (by decide) A ko kc _ HGA.out (HasK.below (below_regrown w8 dq os) KA8.out); rw [HVDA.out] at h; exact h)
          by_cases c1 : vm < 12 <;> by_cases c2 : vda < 12
          all_goals
            have hv2 := HV2.out
            have hv1 := HV1.out
            simp [c1, c2] at hv2 hv1
            subst hv2 hv1
            obtain ⟨a0, a1, a2, a3, a4, a5, a6⟩ := H38.out.seven
            have hoa := H38.out.lt
            have a0' := cell_regrown a0
            have a1' := cell_regrown a1
            have a2' := cell_regrown a2
            have a3' := cell_regrown a3
            have a4' := cell_regrown a4
            have a5' := cell_regrown a5
            have a6' := cell_regrown a6
            obtain ⟨t0, t1, t2, t3, t4, t5, t6⟩ := P28.out.seven
            have hot := P28.out.lt
            have t0' := cell_regrown t0
            have t1' := cell_regrown t1
            have t2' := cell_regrown t2
            have t3' := cell_regrown t3
            have t4' := cell_regrown t4
            have t5' := cell_regrown t5
            have t6' := cell_regrown t6
            obtain ⟨u0, u1, u2, u3, u4, u5, u6⟩ := P18.out.seven
            have hou := P18.out.lt
            have u0' := cell_regrown u0
            have u1' := cell_regrown u1
            have u2' := cell_regrown u2
            have u3' := cell_regrown u3
            have u4' := cell_regrown u4
            have u5' := cell_regrown u5
            have u6' := cell_regrown u6
            refine wp_region_quiet_below (by kernel_rfl) (by kernel_rfl) ?_
            repeat (go_big_quiet_step (first
              | (go_at_call 7; with_reducible exact Calls.regrown_of (CAW.out _ _))
              | (go_at_call 16; with_reducible exact Calls.regrown_of (CR2.out _ _))
              | (go_at_call 16; with_reducible exact Calls.regrown_of (CR1.out _ _))
              | (go_at_call 16; with_reducible exact Calls.regrown_of (CRA.out _ _))
              | (go_at_call 12; with_reducible exact Calls.regrown_of (CDA.out _ _))))
            refine wpQuiet_nil ?_
            intro _ hw'
            obtain ⟨⟨dq, osq⟩, hw''⟩ := hw'
            subst hw''
            clear a0 a0' a1 a1' a2 a2' a3 a3' a4 a4' a5 a5' a6 a6' t0 t0' t1 t1' t2 t2' t3 t3' t4 t4' t5 t5' t6 t6' u0 u0' u1 u1' u2 u2' u3 u3' u4 u4' u5 u5' u6 u6' hoa hot hou
            have hbr := below_regrown w8 dq osq
            generalize grow (redrawn w8 dq) osq = w9 at *
            have HB9 := Lib.hid (keepb HB8.out hbr)
            have H39 := Lib.hid (own_move H38.out hbr)
            have H49 := Lib.hid (own_move H48.out hbr)
            have P29 := Lib.hid (own_move P28.out hbr)
            have P19 := Lib.hid (own_move P18.out hbr)
            have KA9 := Lib.hid (HasK.below hbr KA8.out)
            have KB9 := Lib.hid (HasK.below hbr KB8.out)
            have K29 := Lib.hid (HasK.below hbr K28.out)
            have K19 := Lib.hid (HasK.below hbr K18.out)
            clear hbr HB8 H38 H48 P28 P18 KA8 KB8 K28 K18 CAW CDA CR1 CR2 CRA
            go_wp2
            go_ret
            exact ⟨rfl, HB9.out⟩
    · skip
      go_wp2_with fail
      refine (awake_any _ (HM.out.below HB3.out)).mono ?_
      rintro e w9 ⟨rfl, hb9⟩
      go_wp2
      go_ret
      exact ⟨rfl, keepb HB3.out hb9⟩
  · skip
    go_wp2_with fail
    refine (awake_any _ (HM.out.below HB2.out)).mono ?_
    rintro e w9 ⟨rfl, hb9⟩
    go_wp2
    go_ret
    exact ⟨rfl, keepb HB2.out hb9⟩
end Go.Proofs.Ytinkgidncdjapac
