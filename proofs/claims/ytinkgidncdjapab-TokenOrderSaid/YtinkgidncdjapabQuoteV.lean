/- A class that stands at a place: what it is, and that what is written is read. Math alone. -/
import Derived.Test.YtinkgidncdjapabQuoteU
namespace Go.Proofs.Ytinkgidncdjapab
set_option linter.unusedVariables false
open Go.RowKit

abbrev set0 : Set4 := (0, 0, 0, 0)
def notR (x : Set4) : Set4 := (notW x.1, notW x.2.1, notW x.2.2.1, notW x.2.2.2)
def finR (o : Bool) (x : Set4) : Set4 := if o = true then notR x else x
theorem finR_fits {x : Set4} (h : fits x) (o : Bool) : fits (finR o x) := by
  cases o
  · exact h
  · exact ⟨notW_lt _, notW_lt _, notW_lt _, notW_lt _⟩
theorem rwsF_fits {s : ByteArray} : ∀ f k x y m, fits x → rwsF s f k x = some (y, m) → fits y ∧ k < m ∧ m < s.size ∧ byt s m = 93
  | 0, k, x, y, m => fun hx h => by cases h
  | f + 1, k, x, y, m => fun hx h => by
    rw [rwsF.eq_2] at h
    cases hr : rowO s k with
    | none => rw [hr] at h; cases h
    | some p =>
      obtain ⟨⟨lo, hi⟩, n⟩ := p
      rw [hr] at h
      simp only at h
      have hb := rowO_bd hr
      split at h
      · rename_i g
        injection h with h; injection h with h1 h2
        subst h1 h2
        have := stand_iff.1 g
        exact ⟨orR_fits hx lo hi, by omega, this.1, this.2⟩
      · have := rwsF_fits f n _ y m (orR_fits hx lo hi) h
        exact ⟨this.1, by omega, this.2.2⟩
def endR (o : Bool) : Option (Set4 × Nat) → Option (Set4 × Nat)
  | none => none
  | some (x, m) => if finR o x = set0 then none else some (finR o x, m + 1)
/-- The set that stands at a place. -/
def clsO (s : ByteArray) (i : Int) : Option (Set4 × Nat) :=
  if standB s i 91 = true then endR (standB s (i + 1) 94) (rwsF s (s.size + 1) (i.toNat + 1 + (if standB s (i + 1) 94 = true then 1 else 0)) set0) else none
def clsT : Option (Set4 × Nat) → Value
  | none => .tuple #[.agg #[.int .u64 0, .int .u64 0, .int .u64 0, .int .u64 0], .int .i64 0, .bool false]
  | some ((a, b, c, d), m) => .tuple #[.agg #[.int .u64 (a : Int), .int .u64 (b : Int), .int .u64 (c : Int), .int .u64 (d : Int)], .int .i64 (m : Int), .bool true]
theorem fits0 : fits set0 := ⟨by decide, by decide, by decide, by decide⟩
theorem clsO_res {s : ByteArray} {i : Nat} {x : Set4} {m : Nat} (h : clsO s (i : Int) = some (x, m)) : i < m ∧ m ≤ s.size ∧ byt s (m - 1) = 93 ∧ fits x ∧ x ≠ set0 := by
  unfold clsO at h
  split at h
  · generalize standB s ((i : Int) + 1) 94 = o at h
    cases hr : rwsF s (s.size + 1) ((i : Int).toNat + 1 + (if o = true then 1 else 0)) set0 with
    | none => rw [hr] at h; cases h
    | some p =>
      obtain ⟨y, n⟩ := p
      rw [hr] at h
      have := rwsF_fits _ _ _ _ _ fits0 hr
      rw [Int.toNat_natCast] at this
      simp only [endR] at h
      split at h
      · cases h
      · rename_i g
        injection h with h; injection h with h1 h2
        subst h1 h2
        exact ⟨by omega, by omega, by rw [Nat.add_sub_cancel]; exact this.2.2.2, finR_fits this.1 o, g⟩
  · cases h
theorem cls_data (h : Nat → Bool) : (classS h).data.toList = 91 :: (clsF h 257 0 ++ [93]) := by
  show ([91] ++ clsF h 257 0 ++ [93]).toArray.toList = _; simp
theorem cls_size (h : Nat → Bool) : (classS h).size = (clsF h 257 0).length + 2 := by
  have : (classS h).data.toList.length = (classS h).size := by simp
  rw [← this, cls_data, List.length_cons, List.length_append]; rfl
/-- A set, as it is written, is read as it was, unless it is empty. -/
theorem cls_back {U : ByteArray} {x : Set4} {a : Nat} (hx : fits x) (hA : At U a (classS (inS x)).data.toList) : clsO U (a : Int) = if x = set0 then none else some (x, a + (classS (inS x)).size) := by
  rw [cls_data] at hA
  obtain ⟨b1, b2, hB⟩ := hA.cons
  obtain ⟨z, r, hz, hs, hc⟩ := cls_soft (inS x) 257 0
  have hz1 := hB
  rw [hz] at hz1
  obtain ⟨c1, c2, -⟩ := hz1.cons
  have h94 : standB U ((a : Int) + 1) 94 = false := by
    rw [show ((a : Int) + 1) = ((a + 1 : Nat) : Int) by omega, stand_in c1, c2]
    rw [beq_eq_false_iff_ne]
    intro e
    rcases hs with g | g
    · omega
    · rw [e] at g; revert g; decide +kernel
  unfold clsO
  rw [if_pos (stand_iff.2 ⟨b1, (show byt U a = 91 from b2)⟩), h94, Int.toNat_natCast]
  simp only [Bool.false_eq_true, if_false, Nat.add_zero]
  have hzero : inS set0 = fun _ => false := by
    funext b
    show (word 0 0 0 0 b).testBit (b % 64) = false
    unfold word
    split <;> simp
  by_cases e : clsF (inS x) 257 0 = []
  · have hn := cls_none (inS x) 257 0 (by omega) e
    have hx0 : x = set0 := set_ext hx fits0 fun b hb => by rw [hn b (by omega) hb, hzero]
    rw [if_pos hx0]
    rw [e, List.nil_append] at hB
    obtain ⟨d1, d2, -⟩ := hB.cons
    rw [rwsF_no (rowO_close (stand_iff.2 ⟨d1, (show byt U (a + 1) = 93 from d2)⟩))]; rfl
  · obtain ⟨y, g1, g2, g3⟩ := cls_rows (U := U) (inS x) 257 0 set0 (U.size + 1) (a + 1) (by omega) hB (by omega) e fits0 (fun b hb => by rw [hzero]; simp)
    have hy : y = x := set_ext g2 hx g3
    subst hy
    have hne : y ≠ set0 := by
      rintro rfl
      apply e
      have hall : ∀ f low, clsF (inS set0) f low = [] := fun f => by
        induction f with
        | zero => intro low; rfl
        | succ f ih =>
          intro low
          by_cases g : low < 256
          · rw [clsF_out g (by rw [hzero])]; exact ih _
          · exact clsF_end _ _ g
      exact hall _ _
    rw [if_neg hne, g1]
    simp only [endR, finR, Bool.false_eq_true, if_false]
    rw [if_neg hne, cls_size]
    congr 2
    omega
theorem cls_bytes (h : Nat → Bool) : ∀ x ∈ (classS h).data.toList, 32 ≤ x.toNat ∧ x.toNat ≤ 126 := by
  rw [cls_data]
  have keyw : ∀ k : Nat, k < 256 → ∀ x ∈ (wrS spC (k : Int)).data.toList, 32 ≤ x.toNat ∧ x.toNat ≤ 126 := fun k hk x hx => wr_bytes (fun c g0 g1 g => spC_in g0 g1 g) (by omega) (by omega) x hx
  have keyr : ∀ lo hi : Nat, lo < 256 → hi < 256 → ∀ x ∈ rowS lo hi, 32 ≤ x.toNat ∧ x.toNat ≤ 126 := fun lo hi h1 h2 x hx => by
    unfold rowS at hx
    rcases List.mem_append.1 hx with g | g
    · exact keyw lo h1 x g
    · rcases List.mem_append.1 g with g | g
      · split at g
        · rw [List.mem_singleton.1 g]; decide
        · cases g
      · split at g
        · exact keyw hi h2 x g
        · cases g
  have key : ∀ f low, ∀ x ∈ clsF h f low, 32 ≤ x.toNat ∧ x.toNat ≤ 126 := fun f => by
    induction f with
    | zero => intro low x hx; cases hx
    | succ f ih =>
      intro low x hx
      by_cases h1 : low < 256
      · cases h2 : h low with
        | false => rw [clsF_out h1 h2] at hx; exact ih _ x hx
        | true =>
          rw [clsF_in h1 h2] at hx
          rcases List.mem_append.1 hx with g | g
          · exact keyr _ _ h1 (by have := runTo_le h 255 low (by omega); omega) x g
          · exact ih _ x g
      · rw [clsF_end _ _ h1] at hx; cases hx
  intro x hx
  rcases List.mem_cons.1 hx with rfl | g
  · decide
  · rcases List.mem_append.1 g with g | g
    · exact key _ _ x g
    · rw [List.mem_singleton.1 g]; decide
end Go.Proofs.Ytinkgidncdjapab
