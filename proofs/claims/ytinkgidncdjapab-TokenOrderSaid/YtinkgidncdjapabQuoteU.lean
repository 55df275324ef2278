/- What is written is read: a class. Math alone. -/
import Derived.Test.YtinkgidncdjapabQuoteS
import Derived.Test.YtinkgidncdjapabSetFacts
namespace Go.Proofs.Ytinkgidncdjapab
set_option linter.unusedVariables false
open Go.RowKit

def fits (x : Set4) : Prop := x.1 < P64 ∧ x.2.1 < P64 ∧ x.2.2.1 < P64 ∧ x.2.2.2 < P64
def inS (x : Set4) (b : Nat) : Bool := inSet x.1 x.2.1 x.2.2.1 x.2.2.2 b
theorem or_lt {a b : Nat} (ha : a < P64) (hb : b < P64) : a ||| b < P64 := Nat.or_lt_two_pow (n := 64) ha hb
theorem orR_fits {x : Set4} (h : fits x) (lo hi : Nat) : fits (orR x lo hi) :=
  ⟨or_lt h.1 (rowW_lt ..), or_lt h.2.1 (rowW_lt ..), or_lt h.2.2.1 (rowW_lt ..), or_lt h.2.2.2 (rowW_lt ..)⟩
theorem inS_orR (x : Set4) {lo hi b : Nat} (hb : b < 256) (hh : hi < 256) : inS (orR x lo hi) b = (inS x b || (decide (lo ≤ b) && decide (b < hi + 1))) := by
  unfold inS orR
  rw [inSet_or _ _ _ _ _ _ _ _ _ hb, inSet_row lo (hi + 1) b hb (by omega)]
theorem word_ext {a b : Nat} (ha : a < P64) (hb : b < P64) (h : ∀ i, i < 64 → a.testBit i = b.testBit i) : a = b := by
  apply Nat.eq_of_testBit_eq
  intro i
  by_cases hi : i < 64
  · exact h i hi
  · have key : ∀ y, y < P64 → y.testBit i = false := fun y hy => by
      apply Nat.testBit_lt_two_pow
      exact Nat.lt_of_lt_of_le (show y < 2 ^ 64 from hy) (Nat.pow_le_pow_right (by decide) (by omega))
    rw [key a ha, key b hb]
theorem set_ext {x y : Set4} (hx : fits x) (hy : fits y) (h : ∀ b, b < 256 → inS x b = inS y b) : x = y := by
  obtain ⟨a, b, c, d⟩ := x
  obtain ⟨a', b', c', d'⟩ := y
  have e1 : a = a' := word_ext hx.1 hy.1 fun i hi => by have := h (0 + i) (by omega); unfold inS at this; rw [word0 _ _ _ _ _ hi, word0 _ _ _ _ _ hi] at this; exact this
  have e2 : b = b' := word_ext hx.2.1 hy.2.1 fun i hi => by have := h (64 + i) (by omega); unfold inS at this; rw [word1 _ _ _ _ _ hi, word1 _ _ _ _ _ hi] at this; exact this
  have e3 : c = c' := word_ext hx.2.2.1 hy.2.2.1 fun i hi => by have := h (128 + i) (by omega); unfold inS at this; rw [word2 _ _ _ _ _ hi, word2 _ _ _ _ _ hi] at this; exact this
  have e4 : d = d' := word_ext hx.2.2.2 hy.2.2.2 fun i hi => by have := h (192 + i) (by omega); unfold inS at this; rw [word3 _ _ _ _ _ hi, word3 _ _ _ _ _ hi] at this; exact this
  rw [e1, e2, e3, e4]
theorem runTo_in (h : Nat → Bool) : ∀ f k b, k < b → b ≤ runTo h f k → h b = true
  | 0, k, b => fun h1 h2 => by unfold runTo at h2; omega
  | f + 1, k, b => fun h1 h2 => by
    by_cases g : k < 255 ∧ h (k + 1) = true
    · rw [runTo_step g.1 g.2] at h2
      by_cases e : b = k + 1
      · rw [e]; exact g.2
      · exact runTo_in h f (k + 1) b (by omega) h2
    · rw [runTo_stop _ g] at h2; omega
/-- A byte that ends a row. -/
def Soft (x : UInt8) : Prop := x.toNat = 93 ∨ isSp spC (x.toNat : Int) = false
theorem soft_dash {x : UInt8} (h : Soft x) : (x.toNat : Int) ≠ 45 := by
  intro e
  rcases h with h | h
  · omega
  · rw [e] at h; revert h; decide +kernel
theorem one_row {U : ByteArray} {k lo : Nat} {x : UInt8} {r : List UInt8} (hl : lo < 256) (hA : At U k ((wrS spC lo).data.toList ++ (x :: r))) (hx : (x.toNat : Int) ≠ 45) :
    rowO U k = some ((lo, lo), k + (wrS spC lo).data.toList.length) := by
  have h1 := wr_read fair_C (by omega) (by omega) hA.app.1
  obtain ⟨d1, d2, -⟩ := hA.app.2.cons
  have h2 : sglO U k = some ((lo : Int), k + (wrS spC lo).data.toList.length) := by
    rw [sglO_some h1, if_pos (show (strOfNums [(lo : Int)]).size = 1 from rfl)]
    have : byt (strOfNums [(lo : Int)]) 0 = lo := nb_of (by omega) (by omega)
    rw [this]
  rw [rowO_one h2 (by rw [stand_in d1, d2]; exact beq_eq_false_iff_ne.2 hx), Int.toNat_natCast]
theorem two_row {U : ByteArray} {k lo hi : Nat} {r : List UInt8} (hl : lo ≤ hi) (hh : hi < 256) (hA : At U k ((wrS spC lo).data.toList ++ (45 :: ((wrS spC hi).data.toList ++ r)))) :
    rowO U k = some ((lo, hi), k + (wrS spC lo).data.toList.length + 1 + (wrS spC hi).data.toList.length) := by
  have h1 := wr_read fair_C (by omega) (by omega) hA.app.1
  obtain ⟨d1, d2, hB⟩ := hA.app.2.cons
  have h2 : sglO U k = some ((lo : Int), k + (wrS spC lo).data.toList.length) := by
    rw [sglO_some h1, if_pos (show (strOfNums [(lo : Int)]).size = 1 from rfl)]
    have : byt (strOfNums [(lo : Int)]) 0 = lo := nb_of (by omega) (by omega)
    rw [this]
  have h3 := wr_read fair_C (by omega) (by omega) hB.app.1
  have h4 : sglO U (k + (wrS spC lo).data.toList.length + 1) = some ((hi : Int), k + (wrS spC lo).data.toList.length + 1 + (wrS spC hi).data.toList.length) := by
    rw [sglO_some h3, if_pos (show (strOfNums [(hi : Int)]).size = 1 from rfl)]
    have : byt (strOfNums [(hi : Int)]) 0 = hi := nb_of (by omega) (by omega)
    rw [this]
  rw [rowO_two h2 (by rw [stand_in d1, d2]; rfl), h4]
  simp only
  rw [if_neg (by omega), Int.toNat_natCast, Int.toNat_natCast]
/-- What stands from a row's end on: it begins with a byte that ends a row. -/
theorem cls_soft (h : Nat → Bool) : ∀ f low, ∃ x r, clsF h f low ++ [93] = x :: r ∧ Soft x ∧ (clsF h f low = [] ∨ isSp spC (x.toNat : Int) = false)
  | 0, low => ⟨93, [], rfl, .inl rfl, .inl rfl⟩
  | f + 1, low => by
    by_cases h1 : low < 256
    · cases h2 : h low with
      | false => rw [clsF_out h1 h2]; exact cls_soft h f (low + 1)
      | true =>
        rw [clsF_in h1 h2]
        obtain ⟨x, l, hx, hs⟩ := wr_first spC fair_C (c := (low : Int)) (by omega) (by omega)
        refine ⟨x, _, by unfold rowS; rw [hx]; rfl, .inr hs, .inr hs⟩
    · rw [clsF_end h _ h1]; exact ⟨93, [], rfl, .inl rfl, .inl rfl⟩
theorem cls_none (h : Nat → Bool) : ∀ f low, 256 < f + low → clsF h f low = [] → ∀ b, low ≤ b → b < 256 → h b = false
  | 0, low => fun hf _ b g1 g2 => by omega
  | f + 1, low => fun hf he b g1 g2 => by
    have h1 : low < 256 := by omega
    cases h2 : h low with
    | false =>
      rw [clsF_out h1 h2] at he
      by_cases e : b = low
      · rw [e]; exact h2
      · exact cls_none h f (low + 1) (by omega) he b (by omega) g2
    | true =>
      exfalso
      rw [clsF_in h1 h2] at he
      obtain ⟨x, l, hx, -⟩ := wr_first spC fair_C (c := (low : Int)) (by omega) (by omega)
      unfold rowS at he
      rw [hx] at he; cases he
theorem not_close {x : UInt8} (h : isSp spC (x.toNat : Int) = false) : (x.toNat : Int) ≠ 93 := by
  intro e; rw [e] at h; revert h; decide +kernel
/-- The rest of the rows, as they are written, is read. -/
theorem cls_rows {U : ByteArray} (h : Nat → Bool) : ∀ f low x F k, 256 < f + low → At U k (clsF h f low ++ [93]) → U.size < F + k → clsF h f low ≠ [] → fits x → (∀ b, b < 256 → inS x b = (h b && decide (b < low))) →
    ∃ y, rwsF U F k x = some (y, k + (clsF h f low).length) ∧ fits y ∧ ∀ b, b < 256 → inS y b = h b
  | 0, low, x, F, k => fun hf hA hF hne => absurd rfl hne
  | f + 1, low, x, F, k => fun hf hA hF hne hx hin => by
    have h1 : low < 256 := by
      by_cases g : low < 256
      · exact g
      · exact absurd (clsF_end h _ g) hne
    cases h2 : h low with
    | false =>
      rw [clsF_out h1 h2] at hA hne ⊢
      refine cls_rows h f (low + 1) x F k (by omega) hA hF hne hx fun b hb => ?_
      rw [hin b hb]
      by_cases e : b = low
      · subst e; rw [h2]; rfl
      · congr 1; rw [decide_eq_decide]; omega
    | true =>
      rw [clsF_in h1 h2] at hA ⊢
      have hge := runTo_ge h 255 low
      have hle := runTo_le h 255 low (by omega)
      have hrun := runTo_in h 255 low
      generalize runTo h 255 low = hi at hA hge hle hrun ⊢
      have hy : fits (orR x low hi) := orR_fits hx low hi
      have hiny : ∀ b, b < 256 → inS (orR x low hi) b = (h b && decide (b < hi + 1)) := fun b hb => by
        rw [inS_orR x hb (by omega), hin b hb]
        by_cases g1 : b < low
        · rw [decide_eq_true g1, decide_eq_true (by omega : b < hi + 1), decide_eq_false (by omega : ¬ low ≤ b)]; simp
        · rw [decide_eq_false g1, decide_eq_true (by omega : low ≤ b)]
          by_cases g2 : b < hi + 1
          · have hb2 : h b = true := by
              by_cases e : b = low
              · rw [e]; exact h2
              · exact hrun b (by omega) (by omega)
            rw [decide_eq_true g2, hb2]; rfl
          · rw [decide_eq_false g2]; simp
      obtain ⟨z, r, hz, hsz, hcl⟩ := cls_soft h f (hi + 1)
      -- the row, or the two rows, that are read
      have key : ∀ F' k' x', U.size < F' + k' → At U k' (z :: r) → k' = k + (rowS low hi).length → x' = orR x low hi →
          (if standB U (k' : Int) 93 = true then some (x', k') else rwsF U F' k' x') = (if clsF h f (hi + 1) = [] then some (orR x low hi, k + (rowS low hi).length) else rwsF U F' (k + (rowS low hi).length) (orR x low hi)) := fun F' k' x' g1 g2 g3 g4 => by
        subst g3 g4
        obtain ⟨d1, d2, -⟩ := g2.cons
        by_cases e : clsF h f (hi + 1) = []
        · rw [if_pos e]
          rw [e, List.nil_append] at hz
          injection hz with hz1 hz2
          subst hz1
          rw [if_pos (stand_iff.2 ⟨d1, (show byt U _ = 93 from d2)⟩)]
        · rw [if_neg e]
          have hc := hcl.resolve_left e
          rw [if_neg]
          intro g
          rw [stand_iff, d2] at g
          exact not_close hc g.2
      have hend : At U (k + (rowS low hi).length) (z :: r) := by
        rw [List.append_assoc] at hA
        rw [← hz]; exact hA.app.2
      have main : ∃ F', U.size < F' + (k + (rowS low hi).length) ∧ rwsF U F k x = (if clsF h f (hi + 1) = [] then some (orR x low hi, k + (rowS low hi).length) else rwsF U F' (k + (rowS low hi).length) (orR x low hi)) := by
        obtain ⟨x1, l1, hx1, hs1⟩ := wr_first spC fair_C (c := (low : Int)) (by omega) (by omega)
        have hl1 : 1 ≤ (wrS spC low).data.toList.length := by rw [hx1]; simp
        by_cases e1 : low + 1 < hi
        · have hA2 : At U k ((wrS spC low).data.toList ++ (45 :: ((wrS spC hi).data.toList ++ (z :: r)))) := by
            rw [List.append_assoc, hz] at hA
            unfold rowS at hA
            rw [if_pos e1, if_pos (by omega)] at hA
            simpa [List.append_assoc] using hA
          have hlen : k + (wrS spC low).data.toList.length + 1 + (wrS spC hi).data.toList.length = k + (rowS low hi).length := by
            unfold rowS; rw [if_pos e1, if_pos (by omega)]; simp only [List.length_append, List.length_cons, List.length_nil]; omega
          have hR := two_row (by omega) (by omega) hA2
          rw [hlen] at hR
          refine ⟨F - 1, by omega, ?_⟩
          rw [rwsF_go hF hR]
          exact key _ _ _ (by omega) hend rfl rfl
        · by_cases e2 : low < hi
          · obtain rfl : hi = low + 1 := by omega
            have hA2 : At U k ((wrS spC low).data.toList ++ ((wrS spC ((low + 1 : Nat) : Int)).data.toList ++ (z :: r))) := by
              rw [List.append_assoc, hz] at hA
              unfold rowS at hA
              rw [if_neg e1, if_pos e2] at hA
              simpa [List.append_assoc] using hA
            have hlen : k + (wrS spC low).data.toList.length + (wrS spC ((low + 1 : Nat) : Int)).data.toList.length = k + (rowS low (low + 1)).length := by
              unfold rowS; rw [if_neg e1, if_pos e2]; simp only [List.length_append, List.length_nil]; omega
            obtain ⟨x2, l2, hx2, hs2⟩ := wr_first spC fair_C (c := ((low + 1 : Nat) : Int)) (by omega) (by omega)
            have hl2 : 1 ≤ (wrS spC ((low + 1 : Nat) : Int)).data.toList.length := by rw [hx2]; simp
            have hR1 : rowO U k = some ((low, low), k + (wrS spC low).data.toList.length) := by
              have hA3 := hA2
              rw [hx2] at hA3
              exact one_row h1 hA3 (soft_dash (.inr hs2))
            have hB := hA2.app.2
            have hR2 := one_row (by omega) hB (soft_dash hsz)
            rw [hlen] at hR2
            refine ⟨F - 1 - 1, by omega, ?_⟩
            rw [rwsF_go hF hR1]
            have hB2 := hB
            rw [hx2] at hB2
            obtain ⟨d1, d2, -⟩ := (show At U _ (x2 :: (l2 ++ (z :: r))) from hB2).cons
            rw [if_neg (by rw [stand_iff, d2]; exact fun g => not_close hs2 g.2), rwsF_go (by omega) hR2]
            refine key _ _ _ (by omega) hend rfl ?_
            apply set_ext (orR_fits (orR_fits hx _ _) _ _) hy
            intro b hb
            rw [inS_orR _ hb (by omega), inS_orR _ hb (by omega), inS_orR _ hb (by omega), Bool.or_assoc]
            congr 1
            rw [Bool.eq_iff_iff]
            simp only [Bool.or_eq_true, Bool.and_eq_true, decide_eq_true_eq]
            omega
          · obtain rfl : hi = low := by omega
            have hA2 : At U k ((wrS spC hi).data.toList ++ (z :: r)) := by
              rw [List.append_assoc, hz] at hA
              unfold rowS at hA
              rw [if_neg e1, if_neg e2] at hA
              simpa [List.append_assoc] using hA
            have hlen : k + (wrS spC hi).data.toList.length = k + (rowS hi hi).length := by
              unfold rowS; rw [if_neg e1, if_neg e2]; simp
            have hR := one_row h1 hA2 (soft_dash hsz)
            rw [hlen] at hR
            refine ⟨F - 1, by omega, ?_⟩
            rw [rwsF_go hF hR]
            exact key _ _ _ (by omega) hend rfl rfl
      obtain ⟨F', hF', hm⟩ := main
      by_cases e : clsF h f (hi + 1) = []
      · rw [if_pos e] at hm
        refine ⟨orR x low hi, by rw [hm, e]; simp, hy, fun b hb => ?_⟩
        rw [hiny b hb]
        by_cases g : b < hi + 1
        · rw [decide_eq_true g, Bool.and_true]
        · rw [decide_eq_false g, Bool.and_false, cls_none h f (hi + 1) (by omega) e b (by omega) hb]
      · rw [if_neg e] at hm
        obtain ⟨y, q1, q2, q3⟩ := cls_rows h f (hi + 1) (orR x low hi) F' (k + (rowS low hi).length) (by omega) (by rw [hz]; exact hend) hF' e hy hiny
        exact ⟨y, by rw [hm, q1, List.length_append, Nat.add_assoc], q2, q3⟩
end Go.Proofs.Ytinkgidncdjapab
