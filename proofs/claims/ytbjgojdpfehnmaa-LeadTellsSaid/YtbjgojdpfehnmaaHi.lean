/- A literal that stands at a place: the walk of the program's ReadText. A byte of a class: the walks of the program's single and the reference's byteAt. The walk of alphabet.Range. A row of a class: the walk of the program's row. A class that stands at a place: what it is. What is written is read: one byte. Math alone. What is written is read: a text. Math alone. Plain facts on sets: what is in which, and how many are. No program in sight. What is written is read: a class. Math alone. A class that stands at a place: what it is, and that what is written is read. Math alone. Letters, blanks, signs: what they are; the walks of the small functions. How long a name is, where a line ends, where blanks end, of the program and of the reference, walked. Where blanks and notes end: the walks of Skip, of the program's and the reference's. Signs: the walks of the program's signLength and the reference's sign. -/
import Derived.Test.YtbjgojdpfehnmaaHh
import Derived.Test.YtbjgojdpfehnmaaHf
namespace Go.Proofs.Ytbjgojdpfehnmaa
set_option linter.unusedVariables false
open Go.RowKit
theorem stand_iff {s : ByteArray} {k : Nat} {c : Int} : standB s (k : Int) c = true ↔ k < s.size ∧ byt s k = c := by
 by_cases h : k < s.size
 ·
  rw [stand_in h, beq_iff_eq]; exact ⟨fun g => ⟨h, g⟩, fun g => g.2⟩
 ·
  rw [stand_out h]; exact ⟨fun g => (by cases g), fun g => absurd g.1 h⟩
end Go.Proofs.Ytbjgojdpfehnmaa

namespace Go.Proofs.Ytbjgojdpfehnmaa
set_option linter.unusedVariables false
open Go.RowKit
/-- The byte of a class that stands at a place. -/
def sglO (s : ByteArray) (k : Nat) : Option (Int × Nat) :=
 match readO s k spC with
 | none => none
 | some (u, m) => if u.size = 1 then some (byt u 0, m) else none
def sglT : Option (Int × Nat) → Value
 | none => .tuple #[.int .u8 0, .int .i64 0, .bool false]
 | some (c, m) => .tuple #[.int .u8 c, .int .i64 (m : Int), .bool true]
theorem sglO_none {s : ByteArray} {k : Nat} (h : readO s k spC = none) : sglO s k = none := by unfold sglO; rw [h]
theorem sglO_some {s : ByteArray} {k m : Nat} {u : ByteArray} (h : readO s k spC = some (u, m)) : sglO s k = if u.size = 1 then some (byt u 0, m) else none := by unfold sglO; rw [h]
theorem sglO_bd {s : ByteArray} {k m : Nat} {c : Int} (h : sglO s k = some (c, m)) : k < s.size ∧ k < m ∧ m ≤ k + 10 ∧ 0 ≤ c ∧ c ≤ 255 := by
 cases hq : readO s k spC with
 | none => rw [sglO_none hq] at h; cases h
 | some p =>
  obtain ⟨u, m'⟩ := p
  rw [sglO_some hq] at h
  split at h
  ·
   injection h with h; injection h with h1 h2
   subst h1 h2
   have := readO_bd hq
   exact ⟨this.1, this.2.1, this.2.2.1, byt_lt u 0⟩
  ·
   cases h
set_option maxHeartbeats 1600000 in
theorem byteat_any (s : ByteArray) (hs : s.size ≤ 1000000) (k : Nat) (hk : k ≤ 2000000) (w : World) :
  Calls Try.prog 110 #[.string s, .int .i64 (k : Int)] w fun e w' => e = .returned (sglT (sglO s k)) ∧ Below w.heap.size w w' := by
 have HR := Lib.hid (fun W => one_any s hs k hk spC (by decide) (fun c h0 h1 h => spC_in h0 h1 h) W)
 cases hq : readO s k spC with
 | none =>
  have HE := Lib.hid (show sglT (sglO s k) = .tuple #[.int .u8 0, .int .i64 0, .bool false] by rw [sglO_none hq]; rfl)
  rw [hq] at HR
  clear hq
  go_enter Try.func110, Try.ntmps110
  go_wp2_with fail
  refine (HR.out _).mono ?_
  rintro e w3 ⟨he, hb3⟩
  obtain ⟨t, n, rfl⟩ := ends_none he
  clear he
  go_wp2
  go_ret3
  exact ⟨by rw [HE.out]; rfl, hb3⟩
 | some p =>
  obtain ⟨u, m⟩ := p
  have hm := (readO_bd hq).2.2.1
  have hE := sglO_some hq
  rw [hq] at HR
  clear hq
  by_cases g : u.size = 1
  ·
   obtain ⟨x, hx⟩ : ∃ x : Int, ((u[0]'(by omega)).toNat : Int) = x := ⟨_, rfl⟩
   have HE := Lib.hid (show sglT (sglO s k) = .tuple #[.int .u8 x, .int .i64 (m : Int), .bool true] by rw [hE, if_pos g, byt_get (by omega), hx]; rfl)
   clear hE
   go_enter Try.func110, Try.ntmps110
   go_wp2_with fail
   refine (HR.out _).mono ?_
   rintro e w3 ⟨he, hb3⟩
   obtain rfl := ends_some he
   clear he
   have g' : (u.size : Int) = 1 := by omega
   go_wp2
   go_ret3
   exact ⟨by rw [HE.out]; rfl, hb3⟩
  ·
   have HE := Lib.hid (show sglT (sglO s k) = .tuple #[.int .u8 0, .int .i64 0, .bool false] by rw [hE, if_neg g]; rfl)
   have g' : ((u.size : Int) == 1) = false := by rw [beq_eq_false_iff_ne]; omega
   have g'' : ((u.size : Int) != 1) = true := by simp; omega
   clear hE
   go_enter Try.func110, Try.ntmps110
   go_wp2_with fail
   refine (HR.out _).mono ?_
   rintro e w3 ⟨he, hb3⟩
   obtain rfl := ends_some he
   clear he
   go_wp2
   go_ret3
   exact ⟨by rw [HE.out]; rfl, hb3⟩
end Go.Proofs.Ytbjgojdpfehnmaa

namespace Go.Proofs.Ytbjgojdpfehnmaa
set_option linter.unusedVariables false
open Go.RowKit
set_option maxHeartbeats 1000000 in
theorem range_any (lo hi : Nat) (hl : lo < 256) (hh : hi < 256) (w : World) :
  Calls Try.prog 62 #[.int .u8 (lo : Int), .int .u8 (hi : Int)] w
   fun e w' => e = .returned (.agg #[.int .u64 (rowW 0 lo (hi + 1) : Int), .int .u64 (rowW 1 lo (hi + 1) : Int), .int .u64 (rowW 2 lo (hi + 1) : Int), .int .u64 (rowW 3 lo (hi + 1) : Int)]) ∧ Below w.heap.size w w' := by
 go_enter Try.func62, Try.ntmps62
 go_wp2
 go_loopw [6] (fun b wr => ∃ m : Nat, lo ≤ m ∧ (m ≤ hi + 1 ∨ m = lo) ∧ b = .int .i64 (m : Int) ∧ Own wr w.heap.size 40 [.int .u64 0, .int .u64 0, .int .u64 0, .int .u64 0] ∧
   Own wr (w.heap.size + 1) 40 [.int .u64 (rowW 0 lo m : Int), .int .u64 (rowW 1 lo m : Int), .int .u64 (rowW 2 lo m : Int), .int .u64 (rowW 3 lo m : Int)] ∧ Below w.heap.size w wr)
  (fun b _ => hi + 1 - (intOf b).toNat)
 case atStart => 
  refine ⟨lo, Nat.le_refl _, .inr rfl, rfl, (Own.fresh w _ _).on_alloc _, ?_, by go_grown⟩
  simp only [rowW_start]
  exact Own.fresh' (by simp) _ _
 case round =>
  obtain ⟨m, hm1, hm2, rfl, ho, hs, hb⟩ := hrel
  obtain ⟨o0, o1, o2, o3, q0, q1, q2, q3⟩ := ho.four
  obtain ⟨s0, s1, s2, s3, r0, r1, r2, r3⟩ := hs.four
  by_cases hlt : m ≤ hi
  ·
   go_wp2_with fail
   refine (with_any _ _ _ _ _ (by omega) (rowW_lt ..) (rowW_lt ..) (rowW_lt ..) (rowW_lt ..) _).mono ?_
   rintro e w1 ⟨rfl, hb1⟩
   have ho1 := ho.under hb1 ho.lt
   have hs1 := hs.under hb1 hs.lt
   clear o0 o1 o2 o3 q0 q1 q2 q3 s0 s1 s2 s3 r0 r1 r2 r3
   obtain ⟨s0, s1, s2, s3, r0, r1, r2, r3⟩ := hs1.four
   go_wp2
   go_roundw
   case rel =>
    refine ⟨m + 1, by omega, by omega, by go_num, ho1.off4 (by omega) _ _ _ _, ?_, below_put4 (hb.trans (hb1.mono hb.size)) (by omega) _ _ _ _⟩
    simp only [rowW_step hm1]
    exact hs1.put4
   case measure => simp [intOf]; omega
  ·
   have E (i : Nat) := rowW_end (i := i) hlt hm2
   have H := Lib.hid E
   clear E
   go_wp2
   rw [set4_fold]
   have hF := ho.put4 (u0 := .int .u64 (rowW 0 lo m : Int)) (u1 := .int .u64 (rowW 1 lo m : Int)) (u2 := .int .u64 (rowW 2 lo m : Int)) (u3 := .int .u64 (rowW 3 lo m : Int))
   have hB := below_put4 hb (Nat.le_refl _) (.int .u64 (rowW 0 lo m : Int)) (.int .u64 (rowW 1 lo m : Int)) (.int .u64 (rowW 2 lo m : Int)) (.int .u64 (rowW 3 lo m : Int))
   obtain ⟨z0, z1, z2, z3, -⟩ := hF.four
   refine bodyPost_ret (by simp [results, Try.results62, go_sem, z0, z1, z2, z3]; rfl) rfl ?_
   exact ⟨ret_set (by rw [H.out]) (by rw [H.out]) (by rw [H.out]) (by rw [H.out]), hB⟩
end Go.Proofs.Ytbjgojdpfehnmaa

namespace Go.Proofs.Ytbjgojdpfehnmaa
set_option linter.unusedVariables false
open Go.RowKit
/-- The row of a class that stands at a place: its first byte, its last, and the place behind it. -/
def rowO (s : ByteArray) (k : Nat) : Option ((Nat × Nat) × Nat) :=
 match sglO s k with
 | none => none
 | some (lo, m) =>
  if standB s (m : Int) 45 = true then
   match sglO s (m + 1) with
   | none => none
   | some (hi, m') => if hi < lo then none else some ((lo.toNat, hi.toNat), m')
  else some ((lo.toNat, lo.toNat), m)
theorem rowO_none {s : ByteArray} {k : Nat} (h : sglO s k = none) : rowO s k = none := by unfold rowO; rw [h]
theorem rowO_one {s : ByteArray} {k m : Nat} {lo : Int} (h : sglO s k = some (lo, m)) (hd : standB s (m : Int) 45 = false) : rowO s k = some ((lo.toNat, lo.toNat), m) := by
 unfold rowO; rw [h]; show (if _ then _ else _) = _; rw [if_neg (by rw [hd]; decide)]
theorem rowO_two {s : ByteArray} {k m : Nat} {lo : Int} (h : sglO s k = some (lo, m)) (hd : standB s (m : Int) 45 = true) : rowO s k = match sglO s (m + 1) with
   | none => none
   | some (hi, m') => if hi < lo then none else some ((lo.toNat, hi.toNat), m') := by
 unfold rowO; rw [h]; show (if _ then _ else _) = _; rw [if_pos hd]
end Go.Proofs.Ytbjgojdpfehnmaa

namespace Go.Proofs.Ytbjgojdpfehnmaa
set_option linter.unusedVariables false
open Go.RowKit
theorem rowO_bd {s : ByteArray} {k m lo hi : Nat} (h : rowO s k = some ((lo, hi), m)) : k < s.size ∧ k < m ∧ m ≤ k + 21 ∧ lo < 256 ∧ hi < 256 := by
 cases hq : sglO s k with
 | none => rw [rowO_none hq] at h; cases h
 | some p =>
  obtain ⟨c, n⟩ := p
  obtain ⟨b1, b2, b3, b4, b5⟩ := sglO_bd hq
  cases hd : standB s (n : Int) 45 with
  | false =>
   rw [rowO_one hq hd] at h
   injection h with h; injection h with h1 h2; injection h1 with h3 h4
   omega
  | true =>
   rw [rowO_two hq hd] at h
   cases hr : sglO s (n + 1) with
   | none => rw [hr] at h; cases h
   | some p =>
    obtain ⟨c', n'⟩ := p
    obtain ⟨d1, d2, d3, d4, d5⟩ := sglO_bd hr
    rw [hr] at h
    simp only at h
    split at h
    ·
     cases h
    ·
     injection h with h; injection h with h1 h2; injection h1 with h3 h4
     omega
/-- A ] is no row. -/
theorem rowO_close {s : ByteArray} {k : Nat} (h : standB s (k : Int) 93 = true) : rowO s k = none := by
 obtain ⟨h1, h2⟩ := stand_iff.1 h
 apply rowO_none
 apply sglO_none
 rw [readO_at h1 h2, if_neg (by decide), if_neg (by decide)]
abbrev Set4 := Nat × Nat × Nat × Nat
def orR (x : Set4) (lo hi : Nat) : Set4 := (x.1 ||| rowW 0 lo (hi + 1), x.2.1 ||| rowW 1 lo (hi + 1), x.2.2.1 ||| rowW 2 lo (hi + 1), x.2.2.2 ||| rowW 3 lo (hi + 1))
/-- The rows of a class from a place on, one at least, up to a ]. -/
def rwsF (s : ByteArray) : Nat → Nat → Set4 → Option (Set4 × Nat)
 | 0, _, _ => none
 | f + 1, k, x =>
  match rowO s k with
  | none => none
  | some ((lo, hi), m) => if standB s (m : Int) 93 = true then some (orR x lo hi, m) else rwsF s f m (orR x lo hi)
theorem rwsF_no {s : ByteArray} {f k : Nat} {x : Set4} (h : rowO s k = none) : rwsF s f k x = none := by
 cases f
 ·
  rfl
 ·
  unfold rwsF; rw [h]
theorem rwsF_go {s : ByteArray} {f k m lo hi : Nat} {x : Set4} (hf : s.size < f + k) (h : rowO s k = some ((lo, hi), m)) :
  rwsF s f k x = if standB s (m : Int) 93 = true then some (orR x lo hi, m) else rwsF s (f - 1) m (orR x lo hi) := by
 have hk := (rowO_bd h).1
 obtain ⟨g, rfl⟩ : ∃ g, f = g + 1 := ⟨f - 1, by omega⟩
 rw [rwsF.eq_2, h]; rfl
end Go.Proofs.Ytbjgojdpfehnmaa

namespace Go.Proofs.Ytbjgojdpfehnmaa
set_option linter.unusedVariables false
open Go.RowKit
/-- The bytes l stand in U from k on. -/
def At (U : ByteArray) (k : Nat) (l : List UInt8) : Prop := ∃ pre post, U.data.toList = pre ++ (l ++ post) ∧ pre.length = k
theorem At.app {U : ByteArray} {k : Nat} {l r : List UInt8} (h : At U k (l ++ r)) : At U k l ∧ At U (k + l.length) r := by
 obtain ⟨pre, post, h, hk⟩ := h
 refine ⟨⟨pre, r ++ post, by rw [h, List.append_assoc], hk⟩, ⟨pre ++ l, post, by rw [h]; simp, by rw [List.length_append, hk]⟩⟩
theorem At.cons {U : ByteArray} {k : Nat} {x : UInt8} {l : List UInt8} (h : At U k (x :: l)) : k < U.size ∧ byt U k = (x.toNat : Int) ∧ At U (k + 1) l := by
 obtain ⟨pre, post, h, hk⟩ := h
 refine ⟨?_, ?_, ⟨pre ++ [x], post, by rw [h]; simp, by rw [List.length_append, hk]; rfl⟩⟩
 ·
  have h2 : U.data.toList.length = U.size := by simp
  rw [← h2, h, List.length_append, List.length_append, List.length_cons]; omega
 ·
  unfold byt
  rw [h, List.getD_eq_getElem?_getD, List.getElem?_append_right (by omega)]
  simp [hk]
def nb (c : Int) : UInt8 := UInt8.ofNat c.toNat
end Go.Proofs.Ytbjgojdpfehnmaa

namespace Go.Proofs.Ytbjgojdpfehnmaa
set_option linter.unusedVariables false
open Go.RowKit
theorem At.left {U : ByteArray} {k : Nat} {l r : List UInt8} (h : At U k (l ++ r)) : At U k l := h.app.1
theorem txtF_res {s : ByteArray} : ∀ f k out u m, txtF s f k out = some (u, m) → k < m ∧ m ≤ s.size ∧ byt s (m - 1) = 34 ∧ 1 ≤ u.size ∧ u.size ≤ 40
 | 0, k, out, u, m => fun h => by cases h
 | f + 1, k, out, u, m => fun h => by
  rw [txtF.eq_2] at h
  split at h
  ·
   split at h
   ·
    split at h
    ·
     cases h
    ·
     rename_i g1 g2 g3
     injection h with h; injection h with h3 h4
     subst h3 h4
     exact ⟨by omega, by omega, by rw [Nat.add_sub_cancel]; exact g2, by omega, by omega⟩
   ·
    cases hr : readO s k spT with
    | none => rw [hr] at h; cases h
    | some p =>
     obtain ⟨v, n⟩ := p
     rw [hr] at h
     have := readO_bd hr
     have h2 := txtF_res f n _ u m h
     exact ⟨by omega, h2.2⟩
  ·
   cases h
theorem txtO_res {s : ByteArray} {i : Nat} {u : ByteArray} {m : Nat} (h : txtO s (i : Int) = some (u, m)) : i < m ∧ m ≤ s.size ∧ byt s (m - 1) = 34 ∧ 1 ≤ u.size ∧ u.size ≤ 40 := by
 unfold txtO at h
 split at h
 ·
  have := txtF_res _ _ _ _ _ h
  rw [Int.toNat_natCast] at this
  exact ⟨by omega, this.2⟩
 ·
  cases h
end Go.Proofs.Ytbjgojdpfehnmaa

namespace Go.Proofs.Ytbjgojdpfehnmaa
set_option linter.unusedVariables false
open Go.RowKit
/-- How many numbers below n have p. -/
def cnt (p : Nat → Bool) : Nat → Nat
 | 0 => 0
 | n + 1 => cnt p n + (if p n then 1 else 0)
theorem cnt_congr {p q : Nat → Bool} {n : Nat} (h : ∀ x, x < n → p x = q x) : cnt p n = cnt q n := by
 induction n with
 | zero => rfl
 | succ n ih => unfold cnt; rw [ih fun x hx => h x (by omega), h n (by omega)]
theorem cnt_le (p : Nat → Bool) (n : Nat) : cnt p n ≤ n := by
 induction n with
 | zero => exact Nat.le_refl _
 | succ n ih => unfold cnt; split <;> omega
theorem cnt_not (p : Nat → Bool) (n : Nat) : cnt p n + cnt (fun x => !p x) n = n := by
 induction n with
 | zero => rfl
 | succ n ih => unfold cnt; cases p n <;> simp <;> omega
theorem cnt_more {p : Nat → Bool} {c n : Nat} (h : p c = false) : cnt (fun x => p x || decide (x = c)) n = cnt p n + (if c < n then 1 else 0) := by
 induction n with
 | zero => rfl
 | succ n ih =>
  unfold cnt
  rw [ih]
  by_cases e : n = c
  ·
   subst e; simp [h]
  ·
   by_cases e2 : c < n
   ·
    simp [e, e2, Nat.lt_succ_of_lt e2]; omega
   ·
    have : ¬ c < n + 1 := by omega
    simp [e, e2, this]
theorem cnt_row (lo hi n : Nat) : cnt (fun x => decide (lo ≤ x) && decide (x ≤ hi)) n = min n (hi + 1) - lo := by
 induction n with
 | zero => simp [cnt]
 | succ n ih =>
  unfold cnt
  rw [ih]
  by_cases h1 : lo ≤ n <;> by_cases h2 : n ≤ hi <;> simp [h1, h2] <;> omega
theorem cnt_add (p : Nat → Bool) (m n : Nat) : cnt p (m + n) = cnt p m + cnt (fun x => p (m + x)) n := by
 induction n with
 | zero => rfl
 | succ n ih =>
  rw [← Nat.add_assoc]
  show cnt p (m + n) + _ = cnt p m + (cnt (fun x => p (m + x)) n + _)
  rw [ih, Nat.add_assoc]
theorem cnt_front (p : Nat → Bool) (n : Nat) : cnt p (n + 1) = (if p 0 then 1 else 0) + cnt (fun x => p (x + 1)) n := by
 rw [Nat.add_comm n 1, cnt_add]
 have : cnt (fun x => p (1 + x)) n = cnt (fun x => p (x + 1)) n := cnt_congr fun x _ => by rw [Nat.add_comm]
 rw [this]; simp [cnt]
theorem popN_cnt (n : Nat) : ∀ a, popN n a = cnt a.testBit n := by
 induction n with
 | zero => intro a; rfl
 | succ n ih =>
  intro a
  rw [cnt_front]
  unfold popN
  rw [ih]
  have h1 : cnt (a / 2).testBit n = cnt (fun x => a.testBit (x + 1)) n := cnt_congr fun x _ => by rw [Nat.testBit_succ]
  rw [h1, Nat.testBit_zero]
  have := Nat.mod_two_eq_zero_or_one a
  rcases this with h | h <;> simp [h]
theorem word0 (a b c d x : Nat) (h : x < 64) : inSet a b c d (0 + x) = a.testBit x := by
 unfold inSet word; rw [show (0 + x) / 64 = 0 by omega, show (0 + x) % 64 = x by omega]; rfl
theorem word1 (a b c d x : Nat) (h : x < 64) : inSet a b c d (64 + x) = b.testBit x := by
 unfold inSet word; rw [show (64 + x) / 64 = 1 by omega, show (64 + x) % 64 = x by omega]; rfl
theorem word2 (a b c d x : Nat) (h : x < 64) : inSet a b c d (128 + x) = c.testBit x := by
 unfold inSet word; rw [show (128 + x) / 64 = 2 by omega, show (128 + x) % 64 = x by omega]; rfl
theorem word3 (a b c d x : Nat) (h : x < 64) : inSet a b c d (192 + x) = d.testBit x := by
 unfold inSet word; rw [show (192 + x) / 64 = 3 by omega, show (192 + x) % 64 = x by omega]; rfl
theorem card_cnt (a b c d : Nat) : card a b c d = cnt (inSet a b c d) 256 := by
 rw [show 256 = 0 + 64 + 64 + 64 + 64 from rfl, cnt_add, cnt_add, cnt_add, cnt_add]
 unfold card pop
 rw [popN_cnt, popN_cnt, popN_cnt, popN_cnt, cnt_congr (word0 a b c d), cnt_congr (word1 a b c d), cnt_congr (word2 a b c d), cnt_congr (word3 a b c d)]
 simp [cnt]
theorem four {x : Nat} (hx : x < 256) : x / 64 = 0 ∨ x / 64 = 1 ∨ x / 64 = 2 ∨ x / 64 = 3 := by omega
theorem inSet_or (a b c d a' b' c' d' x : Nat) (hx : x < 256) : inSet (a ||| a') (b ||| b') (c ||| c') (d ||| d') x = (inSet a b c d x || inSet a' b' c' d' x) := by
 unfold inSet word
 rcases four hx with h | h | h | h <;> rw [h] <;> exact Nat.testBit_or ..
theorem bit_not {a i : Nat} (ha : a < P64) (hi : i < 64) : (notW a).testBit i = !a.testBit i := by
 have h := Nat.testBit_two_pow_sub_succ (n := 64) (x := a) ha i
 have e : notW a = 2 ^ 64 - (a + 1) := by unfold notW P64; omega
 rw [e, h]; simp [hi]
theorem inSet_not (a b c d x : Nat) (hx : x < 256) (ha : a < P64) (hb : b < P64) (hc : c < P64) (hd : d < P64) : inSet (notW a) (notW b) (notW c) (notW d) x = !inSet a b c d x := by
 unfold inSet word
 have hm : x % 64 < 64 := by omega
 rcases four hx with h | h | h | h <;> rw [h]
 ·
  exact bit_not ha hm
 ·
  exact bit_not hb hm
 ·
  exact bit_not hc hm
 ·
  exact bit_not hd hm
theorem not_not_word {a : Nat} (ha : a < P64) : notW (notW a) = a := by unfold notW P64 at *; omega
theorem inSet_with (a b c d x y : Nat) (hx : x < 256) (hy : y < 256) : inSet (withW a y 0) (withW b y 1) (withW c y 2) (withW d y 3) x = (inSet a b c d x || decide (x = y)) := by
 unfold inSet word withW
 rcases four hx with h | h | h | h <;> rw [h] <;> simp only [] <;> split
 all_goals first
  | (rw [Nat.testBit_or, Nat.testBit_two_pow]; congr 1; apply decide_eq_decide.2; omega)
  | (rw [decide_eq_false (show ¬ x = y by rintro rfl; omega), Bool.or_false])
theorem inSet_row (lo m x : Nat) (hx : x < 256) (hm : m ≤ 256) : inSet (rowW 0 lo m) (rowW 1 lo m) (rowW 2 lo m) (rowW 3 lo m) x = (decide (lo ≤ x) && decide (x < m)) := by
 induction m with
 | zero =>
  unfold inSet word
  rcases four hx with h | h | h | h <;> rw [h] <;> simp [rowW]
 | succ m ih =>
  by_cases h : lo ≤ m
  ·
   simp only [rowW_step h]
   rw [inSet_with _ _ _ _ _ _ hx (by omega), ih (by omega)]
   by_cases e : x = m
   ·
    subst e; simp [h]
   ·
    by_cases e2 : x < m
    ·
     simp [e, e2, Nat.lt_succ_of_lt e2]
    ·
     simp [e, e2, show ¬ x < m + 1 by omega]
  ·
   simp only [rowW_low _ lo (m + 1) (by omega)]
   have : ¬ (lo ≤ x ∧ x < m + 1) := by omega
   have h2 : inSet 0 0 0 0 x = false := by
    unfold inSet word
    rcases four hx with h | h | h | h <;> rw [h] <;> simp
   rw [h2]
   by_cases e : lo ≤ x
   ·
    simp [e, show ¬ x < m + 1 by omega]
   ·
    simp [e]
theorem card_not (a b c d : Nat) (ha : a < P64) (hb : b < P64) (hc : c < P64) (hd : d < P64) : card a b c d + card (notW a) (notW b) (notW c) (notW d) = 256 := by
 rw [card_cnt, card_cnt, cnt_congr (q := fun x => !inSet a b c d x) fun x hx => inSet_not a b c d x hx ha hb hc hd]
 exact cnt_not _ _
theorem card_row (lo hi : Nat) (hh : hi < 256) : card (rowW 0 lo (hi + 1)) (rowW 1 lo (hi + 1)) (rowW 2 lo (hi + 1)) (rowW 3 lo (hi + 1)) = hi + 1 - lo := by
 rw [card_cnt, cnt_congr (q := fun x => decide (lo ≤ x) && decide (x ≤ hi)) fun x hx => by rw [inSet_row lo (hi + 1) x hx (by omega)]; simp [Nat.lt_succ_iff], cnt_row]
 omega
theorem card_with (a b c d y : Nat) (hy : y < 256) (h : inSet a b c d y = false) : card (withW a y 0) (withW b y 1) (withW c y 2) (withW d y 3) = card a b c d + 1 := by
 rw [card_cnt, card_cnt, cnt_congr (q := fun x => inSet a b c d x || decide (x = y)) fun x hx => inSet_with a b c d x y hx hy, cnt_more h, if_pos hy]
theorem card_le (a b c d : Nat) : card a b c d ≤ 256 := by rw [card_cnt]; exact cnt_le _ _
theorem withW_in (a y i : Nat) (h : y / 64 = i → a.testBit (y % 64) = true) : withW a y i = a := by
 unfold withW
 split
 ·
  rename_i e
  apply Nat.eq_of_testBit_eq
  intro j
  rw [Nat.testBit_or, Nat.testBit_two_pow]
  by_cases hj : y % 64 = j
  ·
   subst hj; simp [h e]
  ·
   simp [hj]
 ·
  rfl
theorem with_in (a b c d y : Nat) (h : inSet a b c d y = true) : withW a y 0 = a ∧ withW b y 1 = b ∧ withW c y 2 = c ∧ withW d y 3 = d := by
 unfold inSet word at h
 refine ⟨withW_in _ _ _ fun e => ?_, withW_in _ _ _ fun e => ?_, withW_in _ _ _ fun e => ?_, withW_in _ _ _ fun e => ?_⟩ <;> rw [e] at h <;> exact h
end Go.Proofs.Ytbjgojdpfehnmaa

namespace Go.Proofs.Ytbjgojdpfehnmaa
set_option linter.unusedVariables false
open Go.RowKit
def fits (x : Set4) : Prop := x.1 < P64 ∧ x.2.1 < P64 ∧ x.2.2.1 < P64 ∧ x.2.2.2 < P64
def inS (x : Set4) (b : Nat) : Bool := inSet x.1 x.2.1 x.2.2.1 x.2.2.2 b
theorem or_lt {a b : Nat} (ha : a < P64) (hb : b < P64) : a ||| b < P64 := Nat.or_lt_two_pow (n := 64) ha hb
theorem orR_fits {x : Set4} (h : fits x) (lo hi : Nat) : fits (orR x lo hi) :=
 ⟨or_lt h.1 (rowW_lt ..), or_lt h.2.1 (rowW_lt ..), or_lt h.2.2.1 (rowW_lt ..), or_lt h.2.2.2 (rowW_lt ..)⟩
theorem word_ext {a b : Nat} (ha : a < P64) (hb : b < P64) (h : ∀ i, i < 64 → a.testBit i = b.testBit i) : a = b := by
 apply Nat.eq_of_testBit_eq
 intro i
 by_cases hi : i < 64
 ·
  exact h i hi
 ·
  have key : ∀ y, y < P64 → y.testBit i = false := fun y hy => by
   apply Nat.testBit_lt_two_pow
   exact Nat.lt_of_lt_of_le (show y < 2 ^ 64 from hy) (Nat.pow_le_pow_right (by decide) (by omega))
  rw [key a ha, key b hb]
theorem set_ext {x y : Set4} (hx : fits x) (hy : fits y) (h : ∀ b, b < 256 → inS x b = inS y b) : x = y := by
 obtain ⟨a, b, c, d⟩ := x
 obtain ⟨a', b', c', d'⟩ := y
 have e1 : a = a' := word_ext hx.1 hy.1 fun i hi => by have := h (0 + i) (by omega); unfold inS at this; rw [word0 _ _ _ _ _ hi, word0 _ _ _ _ _ hi] at this; exact this
 have e2 : b = b' := word_ext hx.2.1 hy.2.1 fun i hi => by have := h (64 + i) (by omega); unfold inS at this; rw [word1 _ _ _ _ _ hi, word1 _ _ _ _ _ hi] at this; exact this
 have e3 : c = c' := word_ext hx.2.2.1 hy.2.2.1 fun i hi => by have := h (128 + i) (by omega); unfold inS at this; rw [word2 _ _ _ _ _ hi, word2 _ _ _ _ _ hi] at this; exact this
 have e4 : d = d' := word_ext hx.2.2.2 hy.2.2.2 fun i hi => by have := h (192 + i) (by omega); unfold inS at this; rw [word3 _ _ _ _ _ hi, word3 _ _ _ _ _ hi] at this; exact this
 rw [e1, e2, e3, e4]
end Go.Proofs.Ytbjgojdpfehnmaa

namespace Go.Proofs.Ytbjgojdpfehnmaa
set_option linter.unusedVariables false
open Go.RowKit
abbrev set0 : Set4 := (0, 0, 0, 0)
def notR (x : Set4) : Set4 := (notW x.1, notW x.2.1, notW x.2.2.1, notW x.2.2.2)
def finR (o : Bool) (x : Set4) : Set4 := if o = true then notR x else x
theorem finR_fits {x : Set4} (h : fits x) (o : Bool) : fits (finR o x) := by
 cases o
 ·
  exact h
 ·
  exact ⟨notW_lt _, notW_lt _, notW_lt _, notW_lt _⟩
theorem rwsF_fits {s : ByteArray} : ∀ f k x y m, fits x → rwsF s f k x = some (y, m) → fits y ∧ k < m ∧ m < s.size ∧ byt s m = 93
 | 0, k, x, y, m => fun hx h => by cases h
 | f + 1, k, x, y, m => fun hx h => by
  rw [rwsF.eq_2] at h
  cases hr : rowO s k with
  | none => rw [hr] at h; cases h
  | some p =>
   obtain ⟨⟨lo, hi⟩, n⟩ := p
   rw [hr] at h
   simp only at h
   have hb := rowO_bd hr
   split at h
   ·
    rename_i g
    injection h with h; injection h with h1 h2
    subst h1 h2
    have := stand_iff.1 g
    exact ⟨orR_fits hx lo hi, by omega, this.1, this.2⟩
   ·
    have := rwsF_fits f n _ y m (orR_fits hx lo hi) h
    exact ⟨this.1, by omega, this.2.2⟩
def endR (o : Bool) : Option (Set4 × Nat) → Option (Set4 × Nat)
 | none => none
 | some (x, m) => if finR o x = set0 then none else some (finR o x, m + 1)
/-- The set that stands at a place. -/
def clsO (s : ByteArray) (i : Int) : Option (Set4 × Nat) :=
 if standB s i 91 = true then endR (standB s (i + 1) 94) (rwsF s (s.size + 1) (i.toNat + 1 + (if standB s (i + 1) 94 = true then 1 else 0)) set0) else none
def clsT : Option (Set4 × Nat) → Value
 | none => .tuple #[.agg #[.int .u64 0, .int .u64 0, .int .u64 0, .int .u64 0], .int .i64 0, .bool false]
 | some ((a, b, c, d), m) => .tuple #[.agg #[.int .u64 (a : Int), .int .u64 (b : Int), .int .u64 (c : Int), .int .u64 (d : Int)], .int .i64 (m : Int), .bool true]
theorem fits0 : fits set0 := ⟨by decide, by decide, by decide, by decide⟩
theorem clsO_res {s : ByteArray} {i : Nat} {x : Set4} {m : Nat} (h : clsO s (i : Int) = some (x, m)) : i < m ∧ m ≤ s.size ∧ byt s (m - 1) = 93 ∧ fits x ∧ x ≠ set0 := by
 unfold clsO at h
 split at h
 ·
  generalize standB s ((i : Int) + 1) 94 = o at h
  cases hr : rwsF s (s.size + 1) ((i : Int).toNat + 1 + (if o = true then 1 else 0)) set0 with
  | none => rw [hr] at h; cases h
  | some p =>
   obtain ⟨y, n⟩ := p
   rw [hr] at h
   have := rwsF_fits _ _ _ _ _ fits0 hr
   rw [Int.toNat_natCast] at this
   simp only [endR] at h
   split at h
   ·
    cases h
   ·
    rename_i g
    injection h with h; injection h with h1 h2
    subst h1 h2
    exact ⟨by omega, by omega, by rw [Nat.add_sub_cancel]; exact this.2.2.2, finR_fits this.1 o, g⟩
 ·
  cases h
end Go.Proofs.Ytbjgojdpfehnmaa

namespace Go.Proofs.Ytbjgojdpfehnmaa
set_option linter.unusedVariables false
open Go.RowKit
def letB (c : Int) : Bool := (decide (97 ≤ c) && decide (c ≤ 122)) || (decide (65 ≤ c) && decide (c ≤ 90))
def innB (c : Int) : Bool := letB c || (decide (48 ≤ c) && decide (c ≤ 57)) || c == 95
/-- How many bytes from k on have P, f at most. -/
def runB (P : Int → Bool) (s : ByteArray) : Nat → Nat → Nat
 | 0, _ => 0
 | f + 1, k => if k < s.size ∧ P (byt s k) = true then 1 + runB P s f (k + 1) else 0
theorem runB_is {P : Int → Bool} {s : ByteArray} : ∀ (n f k : Nat), n ≤ f → (∀ j, j < n → k + j < s.size ∧ P (byt s (k + j)) = true) → (n < f → ¬ (k + n < s.size ∧ P (byt s (k + n)) = true)) → runB P s f k = n
 | 0, f, k, h1, h2, h3 => by
  cases f with
  | zero => rfl
  | succ f => unfold runB; rw [if_neg (show ¬ (k < s.size ∧ P (byt s k) = true) from h3 (by omega))]
 | n + 1, f, k, h1, h2, h3 => by
  obtain ⟨g, rfl⟩ : ∃ g, f = g + 1 := ⟨f - 1, by omega⟩
  unfold runB
  rw [if_pos (show k < s.size ∧ P (byt s k) = true from h2 0 (by omega)), runB_is n g (k + 1) (by omega) (fun j hj => by have := h2 (j + 1) (by omega); rw [show k + 1 + j = k + (j + 1) by omega]; exact this)
   (fun hn => by have := h3 (by omega); rw [show k + 1 + n = k + (n + 1) by omega]; exact this)]
  omega
theorem runB_all {P : Int → Bool} {s : ByteArray} : ∀ (f k j : Nat), j < runB P s f k → k + j < s.size ∧ P (byt s (k + j)) = true
 | 0, k, j, h => by unfold runB at h; omega
 | f + 1, k, j, h => by
  unfold runB at h
  split at h
  ·
   rename_i g
   cases j with
   | zero => exact g
   | succ j => have := runB_all (P := P) (s := s) f (k + 1) j (by omega); rw [show k + (j + 1) = k + 1 + j by omega]; exact this
  ·
   omega
/-- How long the name is. -/
def nmO (s : ByteArray) (k : Nat) : Nat := runB innB s s.size k
/-- How many bytes stand ahead of the line's end. -/
def ntO (s : ByteArray) (k : Nat) : Nat := runB (fun c => c != 10) s s.size k
def blkB (c : Int) : Bool := c == 32 || c == 9 || c == 10
/-- The place behind blanks and notes. -/
def skF (s : ByteArray) : Nat → Nat → Nat
 | 0, k => k
 | f + 1, k => if k < s.size then (if blkB (byt s k) = true then skF s f (k + 1) else if byt s k = 35 then skF s f (k + ntO s k) else k) else k
def skO (s : ByteArray) (k : Nat) : Nat := skF s (s.size + 1) k
theorem skF_out {s : ByteArray} {f k : Nat} (h : ¬ k < s.size) : skF s f k = k := by
 cases f
 ·
  rfl
 ·
  unfold skF; rw [if_neg h]
theorem skF_blank {s : ByteArray} {f k : Nat} (hf : s.size < f + k) (hk : k < s.size) (h : blkB (byt s k) = true) : skF s f k = skF s (f - 1) (k + 1) := by
 obtain ⟨g, rfl⟩ : ∃ g, f = g + 1 := ⟨f - 1, by omega⟩
 rw [skF.eq_2, if_pos hk, if_pos h]; rfl
theorem skF_note {s : ByteArray} {f k : Nat} (hf : s.size < f + k) (hk : k < s.size) (h : byt s k = 35) : skF s f k = skF s (f - 1) (k + ntO s k) := by
 obtain ⟨g, rfl⟩ : ∃ g, f = g + 1 := ⟨f - 1, by omega⟩
 rw [skF.eq_2, if_pos hk, if_neg (by rw [h]; decide), if_pos h]; rfl
theorem skF_stop {s : ByteArray} {f k : Nat} (h : blkB (byt s k) = false) (h2 : byt s k ≠ 35) : skF s f k = k := by
 cases f
 ·
  rfl
 ·
  unfold skF
  split
  ·
   rw [if_neg (by rw [h]; decide)]; try rw [if_neg h2]
  ·
   rfl
theorem ntO_pos {s : ByteArray} {k : Nat} (hk : k < s.size) (h : byt s k = 35) : 1 ≤ ntO s k := by
 unfold ntO
 obtain ⟨g, hg⟩ : ∃ g, s.size = g + 1 := ⟨s.size - 1, by omega⟩
 rw [show runB (fun c => c != 10) s s.size k = runB (fun c => c != 10) s (g + 1) k by rw [hg]]
 unfold runB
 rw [if_pos ⟨hk, by rw [h]; rfl⟩]; omega
theorem nmO_le {s : ByteArray} {k : Nat} (hk : k ≤ s.size) : k + nmO s k ≤ s.size := by
 unfold nmO
 by_cases h : runB innB s s.size k = 0
 ·
  omega
 ·
  have := (runB_all (P := innB) (s := s) s.size k (runB innB s s.size k - 1) (by omega)).1; omega
/-- Is it a sign of one byte? -/
def sgB (c : Int) : Bool := c == 59 || c == 61 || c == 47 || c == 38 || c == 33 || c == 126 || c == 42 || c == 43 || c == 63 || c == 46 || c == 40 || c == 41
/-- How many bytes the sign has. -/
def sgO (s : ByteArray) (k : Nat) : Nat :=
 if byt s k = 58 then (if standB s ((k + 1 : Nat) : Int) 58 = true then 2 else 1) else if sgB (byt s k) = true then 1 else 0
set_option maxHeartbeats 800000 in
theorem rlet_any (c : Int) (w : World) : Calls Try.prog 92 #[.int .u8 c] w fun e w' => e = .returned (.bool (letB c)) ∧ w' = w := by
 have HS := Lib.hid (show letB c = ((decide (97 ≤ c) && decide (c ≤ 122)) || (decide (65 ≤ c) && decide (c ≤ 90))) from rfl)
 by_cases g0 : 97 ≤ c <;> by_cases g1 : c ≤ 122 <;> by_cases g2 : 65 ≤ c <;> by_cases g3 : c ≤ 90
 all_goals first
  | (exfalso; omega)
  | (go_enter Try.func92, Try.ntmps92
     go_wp2
     go_ret
     exact ⟨ret_bool (by rw [HS.out]; simp <;> omega), rfl⟩)
set_option maxHeartbeats 800000 in
theorem inn_any (c : Int) (w : World) : Calls Try.prog 93 #[.int .u8 c] w fun e w' => e = .returned (.bool (innB c)) ∧ w' = w := by
 have HS := Lib.hid (show innB c = (letB c || (decide (48 ≤ c) && decide (c ≤ 57)) || c == 95) from rfl)
 have HL := Lib.hid (fun W => rlet_any c W)
 obtain ⟨b, hb⟩ : ∃ b, letB c = b := ⟨_, rfl⟩
 rw [hb] at HS HL
 clear hb
 obtain ⟨q, hq⟩ : ∃ q, (c == 95) = q := ⟨_, rfl⟩
 have HQ := Lib.hid hq
 by_cases g0 : 48 ≤ c <;> by_cases g1 : c ≤ 57 <;> cases b <;> cases q
 all_goals first
  | (exfalso; omega)
  | (go_enter Try.func93, Try.ntmps93
     go_wp2_with fail
     refine (HL.out _).mono ?_
     rintro e w1 ⟨rfl, rfl⟩
     go_wp2
     go_ret
     exact ⟨ret_bool (by rw [HS.out, HQ.out]; simp <;> omega), rfl⟩)
end Go.Proofs.Ytbjgojdpfehnmaa

namespace Go.Proofs.Ytbjgojdpfehnmaa
set_option linter.unusedVariables false
open Go.RowKit
theorem nt_is {s : ByteArray} {p n : Nat} (hp : p ≤ s.size) (hn : p + n ≤ s.size) (h : ∀ j, j < n → byt s (p + j) ≠ 10) (h2 : p + n < s.size → byt s (p + n) = 10) : ntO s p = n := by
 refine runB_is n s.size p (by omega) (fun j hj => ⟨by omega, by simp [h j hj]⟩) (fun hlt => ?_)
 rintro ⟨g1, g2⟩
 rw [h2 g1] at g2; revert g2; decide
end Go.Proofs.Ytbjgojdpfehnmaa

namespace Go.Proofs.Ytbjgojdpfehnmaa
set_option linter.unusedVariables false
open Go.RowKit
set_option maxHeartbeats 1600000 in
set_option maxRecDepth 100000 in
theorem rskip_any (s : ByteArray) (hs : s.size ≤ 1000000) (a : Nat) (ha : (a : Int) ≤ 9223372036854775807) (w : World) :
  Calls Try.prog 91 #[.string s, .int .i64 (a : Int)] w fun e w' => e = .returned (.int .i64 (skO s a : Int)) ∧ w' = w := by
 have HT0 := Lib.hid (show skF s (s.size + 1) a = skO s a ∧ s.size < s.size + 1 + a from ⟨rfl, by omega⟩)
 obtain ⟨o, ho⟩ : ∃ o, skO s a = o := ⟨_, rfl⟩
 rw [ho] at HT0 ⊢
 clear ho
 go_enter Try.func91, Try.ntmps91
 go_wp2
 go_loop [1] (fun i => ∃ k f : Nat, i = .int .i64 (k : Int) ∧ (k : Int) ≤ 9223372036854775807 ∧ Hid (skF s f k = o ∧ s.size < f + k)) (fun i => s.size - (intOf i).toNat)
 case atStart => exact ⟨a, s.size + 1, rfl, ha, HT0⟩
 case round =>
  obtain ⟨k, f, rfl, hk, HT⟩ := hrel
  by_cases hlt : (k : Int) < s.size
  ·
   have hk1 : k < s.size := by omega
   obtain ⟨c, hc⟩ : ∃ c : Int, (s[k].toNat : Int) = c := ⟨_, rfl⟩
   have hbc : byt s k = c := by rw [byt_get hk1, hc]
   by_cases h32 : c = 32
   ·
    subst h32
    have HT2 := Lib.hid (show skF s (f - 1) (k + 1) = o ∧ s.size < (f - 1) + (k + 1) from ⟨by rw [← HT.out.1]; exact (skF_blank HT.out.2 hk1 (by rw [hbc]; rfl)).symm, by have := HT.out.2; omega⟩)
    clear HT hbc
    go_wp2
    go_round
    case rel => exact ⟨k + 1, f - 1, by go_num, by omega, HT2⟩
    case measure => simp [intOf]; omega
   have e32 : (c == 32) = false := beq_eq_false_iff_ne.2 h32
   by_cases h9 : c = 9
   ·
    subst h9
    have HT2 := Lib.hid (show skF s (f - 1) (k + 1) = o ∧ s.size < (f - 1) + (k + 1) from ⟨by rw [← HT.out.1]; exact (skF_blank HT.out.2 hk1 (by rw [hbc]; rfl)).symm, by have := HT.out.2; omega⟩)
    clear HT hbc
    go_wp2
    go_round
    case rel => exact ⟨k + 1, f - 1, by go_num, by omega, HT2⟩
    case measure => simp [intOf]; omega
   have e9 : (c == 9) = false := beq_eq_false_iff_ne.2 h9
   by_cases h10 : c = 10
   ·
    subst h10
    have HT2 := Lib.hid (show skF s (f - 1) (k + 1) = o ∧ s.size < (f - 1) + (k + 1) from ⟨by rw [← HT.out.1]; exact (skF_blank HT.out.2 hk1 (by rw [hbc]; rfl)).symm, by have := HT.out.2; omega⟩)
    clear HT hbc
    go_wp2
    go_round
    case rel => exact ⟨k + 1, f - 1, by go_num, by omega, HT2⟩
    case measure => simp [intOf]; omega
   have e10 : (c == 10) = false := beq_eq_false_iff_ne.2 h10
   by_cases h35 : c = 35
   ·
    subst h35
    have hn1 := ntO_pos hk1 hbc
    have HT2 := Lib.hid (show skF s (f - 1) (k + ntO s k) = o ∧ s.size < (f - 1) + (k + ntO s k) from ⟨by rw [← HT.out.1]; exact (skF_note HT.out.2 hk1 hbc).symm, by have := HT.out.2; omega⟩)
    clear HT
    go_wp2
    go_loop [1] (fun i => ∃ j : Nat, i = .int .i64 ((k + j : Nat) : Int) ∧ k + j ≤ s.size ∧ Hid (∀ t, t < j → byt s (k + t) ≠ 10)) (fun i => s.size - (intOf i).toNat)
    case atStart => exact ⟨0, rfl, by omega, Lib.hid (fun t h => by omega)⟩
    case round =>
     obtain ⟨j, rfl, hj, HA⟩ := hrel
     by_cases hlt2 : ((k + j : Nat) : Int) < s.size
     ·
      have hj1 : k + j < s.size := by omega
      obtain ⟨d, hd⟩ : ∃ d : Int, (s[k + j].toNat : Int) = d := ⟨_, rfl⟩
      have hbd : byt s (k + j) = d := by rw [byt_get hj1, hd]
      by_cases h10 : d = 10
      ·
       subst h10
       have HN := Lib.hid (show ntO s k = j from nt_is (by omega) hj HA.out (fun _ => hbd))
       clear hbd HA
       go_wp2
       go_round
       case rel => exact ⟨k + j, f - 1, rfl, by omega, by rw [← HN.out]; exact HT2⟩
       case measure => have := HN.out; simp [intOf]; omega
      ·
       have e10' : (d != 10) = true := by simp [h10]
       have e10'' : (d == 10) = false := beq_eq_false_iff_ne.2 h10
       have HA1 : Hid (∀ t, t < j + 1 → byt s (k + t) ≠ 10) := Lib.hid (fun t ht => by
        by_cases e : t = j
        ·
         rw [e, hbd]; exact h10
        ·
         exact HA.out t (by omega))
       clear hbd HA
       go_wp2
       go_round
       case rel => exact ⟨j + 1, by go_num, by omega, HA1⟩
       case measure => simp [intOf]; omega
     ·
      have HN := Lib.hid (show ntO s k = j from nt_is (by omega) hj HA.out (fun h => by omega))
      have hlt3 : decide (((k + j : Nat) : Int) < (s.size : Int)) = false := decide_eq_false hlt2
      clear HA
      go_wp2
      go_round
      case rel => exact ⟨k + j, f - 1, rfl, by omega, by rw [← HN.out]; exact HT2⟩
      case measure => have := HN.out; simp [intOf]; omega
   have e35 : (c == 35) = false := beq_eq_false_iff_ne.2 h35
   have HE := Lib.hid (show o = k by rw [← HT.out.1]; exact skF_stop (by rw [hbc]; unfold blkB; rw [e32, e9, e10]; rfl) (by rw [hbc]; exact h35))
   clear HT hbc
   go_wp2
   go_ret
   exact ⟨ret_int (by rw [HE.out]), rfl⟩
  ·
   have HE := Lib.hid (show o = k by rw [← HT.out.1]; exact skF_out (by omega))
   clear HT
   go_wp2
   go_ret
   exact ⟨ret_int (by rw [HE.out]), rfl⟩
end Go.Proofs.Ytbjgojdpfehnmaa

namespace Go.Proofs.Ytbjgojdpfehnmaa
set_option linter.unusedVariables false
open Go.RowKit
theorem byt_head {s : ByteArray} {p : Nat} (hp : p < s.size) : ∃ x r, s.data.toList.drop p = x :: r ∧ (x.toNat : Int) = byt s p ∧ r = s.data.toList.drop (p + 1) := by
 have h' : p < s.data.toList.length := by simpa using hp
 refine ⟨s.data.toList[p], s.data.toList.drop (p + 1), List.drop_eq_getElem_cons h', ?_, rfl⟩
 unfold byt; rw [List.getD_eq_getElem?_getD, List.getElem?_eq_getElem h']; rfl
theorem u8_is {x : UInt8} {n : Nat} (hn : n < 256) (h : (x.toNat : Int) = n) : x = UInt8.ofNat n := by
 apply UInt8.toNat.inj; rw [UInt8.toNat_ofNat']; omega
theorem sgO_colon {s : ByteArray} {p : Nat} (h : byt s p = 58) : sgO s p = if standB s ((p + 1 : Nat) : Int) 58 = true then 2 else 1 := by unfold sgO; rw [if_pos h]
theorem sgO_one {s : ByteArray} {p : Nat} (h : byt s p ≠ 58) (h2 : sgB (byt s p) = true) : sgO s p = 1 := by unfold sgO; rw [if_neg h, if_pos h2]
theorem sgO_no {s : ByteArray} {p : Nat} (h : byt s p ≠ 58) (h2 : sgB (byt s p) = false) : sgO s p = 0 := by unfold sgO; rw [if_neg h, h2]; rfl
theorem sgO_le {s : ByteArray} {p : Nat} (h : p < s.size) : p + sgO s p ≤ s.size := by
 unfold sgO
 split
 ·
  split
  ·
   rename_i g; have := (stand_iff.1 g).1; omega
  ·
   omega
 ·
  split <;> omega
theorem cc_is {s : ByteArray} {p : Nat} (hp : p + 1 < s.size) : (s.extract p (p + 2)).toList = [(58 : UInt8), 58] ↔ byt s p = 58 ∧ byt s (p + 1) = 58 := by
 obtain ⟨x, r, e, hx, hr⟩ := byt_head (s := s) (p := p) (by omega)
 obtain ⟨y, r2, e2, hy, -⟩ := byt_head hp
 rw [ByteArray.toList_eq, ByteArray.data_extract]
 simp only [Array.toList_extract, List.extract_eq_take_drop]
 rw [e, show p + 2 - p = 2 by omega, hr, e2, ← hx, ← hy]
 simp only [List.take_succ_cons, List.take_zero, List.cons.injEq, and_true]
 constructor
 ·
  rintro ⟨rfl, rfl⟩; exact ⟨rfl, rfl⟩
 ·
  rintro ⟨h1, h2⟩; exact ⟨u8_is (n := 58) (by omega) h1, u8_is (n := 58) (by omega) h2⟩
theorem cc_text {s : ByteArray} {p : Nat} (hp : p + 1 < s.size) (h : byt s p = 58 ∧ byt s (p + 1) = 58) : s.extract p (p + 2) = (⟨#[58, 58]⟩ : ByteArray) := by
 apply bytes_eq
 have := (cc_is hp).2 h
 rw [ByteArray.toList_eq] at this; exact this
theorem ext_none (s : ByteArray) (p : Nat) : s.extract p (p + 0) = (⟨#[]⟩ : ByteArray) := by
 apply bytes_eq; rw [ByteArray.data_extract]; simp
set_option maxHeartbeats 6400000 in
theorem rsign5_any (s : ByteArray) (hs : s.size ≤ 1000000) (p : Nat) (hp : p < s.size) (w : World) :
  Calls Try.prog 96 #[.string s, .int .i64 (p : Int)] w fun e w' => e = .returned (.string (s.extract p (p + sgO s p))) ∧ w' = w := by
 obtain ⟨c, hc⟩ : ∃ c : Int, (s[p].toNat : Int) = c := ⟨_, rfl⟩
 have hbc : byt s p = c := by rw [byt_get hp, hc]
 have hx0 := ext_none s p
 by_cases h58 : c = 58
 ·
  subst h58
  have HE := Lib.hid (sgO_colon hbc)
  by_cases g : (p : Int) + 1 < s.size
  ·
   have g1 : p + 1 < s.size := by omega
   have hcc := cc_is g1
   have hct := cc_text g1
   have g2 : (p : Int) + 2 ≤ s.size := by omega
   by_cases h2 : byt s (p + 1) = 58
   ·
    have HT := Lib.hid (hct ⟨hbc, h2⟩)
    have HB := Lib.hid (show standB s ((p + 1 : Nat) : Int) 58 = true from stand_iff.2 ⟨g1, h2⟩)
    have e2 : ((s.extract p (p + 2)).toList == [(58 : UInt8), 58]) = true := by rw [beq_iff_eq]; exact hcc.2 ⟨hbc, h2⟩
    clear hcc hct hbc h2 hx0
    go_enter Try.func96, Try.ntmps96
    go_wp2
    go_ret
    exact ⟨ret_str (by rw [HE.out, HB.out]; exact HT.out.symm), rfl⟩
   ·
    have HB := Lib.hid (show standB s ((p + 1 : Nat) : Int) 58 = false from by rw [stand_in g1]; exact beq_eq_false_iff_ne.2 h2)
    have e2 : ((s.extract p (p + 2)).toList == [(58 : UInt8), 58]) = false := by rw [beq_eq_false_iff_ne]; exact fun q => h2 (hcc.1 q).2
    clear hcc hct hbc h2 hx0
    go_enter Try.func96, Try.ntmps96
    go_wp2
    go_ret
    exact ⟨ret_str (by rw [HE.out, HB.out]; rfl), rfl⟩
  ·
   have HB := Lib.hid (show standB s ((p + 1 : Nat) : Int) 58 = false from stand_out (by omega))
   have g2 : decide ((p : Int) + 1 < (s.size : Int)) = false := decide_eq_false g
   clear hbc hx0
   go_enter Try.func96, Try.ntmps96
   go_wp2
   go_ret
   exact ⟨ret_str (by rw [HE.out, HB.out]; rfl), rfl⟩
 have e58 : (c == 58) = false := beq_eq_false_iff_ne.2 h58
 have hsl : (p : Int) + 1 ≤ s.size := by omega
 have HX := Lib.hid hx0
 have HCC := Lib.hid (fun (g1 : p + 1 < s.size) => (show ((s.extract p (p + 2)).toList == [(58 : UInt8), 58]) = false from by rw [beq_eq_false_iff_ne]; exact fun q => h58 (by rw [← hbc]; exact ((cc_is g1).1 q).1)))
 clear hx0
 by_cases g : (p : Int) + 1 < s.size
 ·
  have e2 := HCC.out (by omega)
  have g2 : (p : Int) + 2 ≤ s.size := by omega
  clear HCC
  by_cases h59 : c = 59
  ·
   subst h59
   have HE := Lib.hid (sgO_one (s := s) (p := p) (by rw [hbc]; decide) (by rw [hbc]; decide))
   clear hbc
   go_enter Try.func96, Try.ntmps96
   go_wp2
   go_ret
   exact ⟨ret_str (by rw [HE.out]), rfl⟩
  have e59 : (c == 59) = false := beq_eq_false_iff_ne.2 h59
  by_cases h61 : c = 61
  ·
   subst h61
   have HE := Lib.hid (sgO_one (s := s) (p := p) (by rw [hbc]; decide) (by rw [hbc]; decide))
   clear hbc
   go_enter Try.func96, Try.ntmps96
   go_wp2
   go_ret
   exact ⟨ret_str (by rw [HE.out]), rfl⟩
  have e61 : (c == 61) = false := beq_eq_false_iff_ne.2 h61
  by_cases h47 : c = 47
  ·
   subst h47
   have HE := Lib.hid (sgO_one (s := s) (p := p) (by rw [hbc]; decide) (by rw [hbc]; decide))
   clear hbc
   go_enter Try.func96, Try.ntmps96
   go_wp2
   go_ret
   exact ⟨ret_str (by rw [HE.out]), rfl⟩
  have e47 : (c == 47) = false := beq_eq_false_iff_ne.2 h47
  by_cases h38 : c = 38
  ·
   subst h38
   have HE := Lib.hid (sgO_one (s := s) (p := p) (by rw [hbc]; decide) (by rw [hbc]; decide))
   clear hbc
   go_enter Try.func96, Try.ntmps96
   go_wp2
   go_ret
   exact ⟨ret_str (by rw [HE.out]), rfl⟩
  have e38 : (c == 38) = false := beq_eq_false_iff_ne.2 h38
  by_cases h33 : c = 33
  ·
   subst h33
   have HE := Lib.hid (sgO_one (s := s) (p := p) (by rw [hbc]; decide) (by rw [hbc]; decide))
   clear hbc
   go_enter Try.func96, Try.ntmps96
   go_wp2
   go_ret
   exact ⟨ret_str (by rw [HE.out]), rfl⟩
  have e33 : (c == 33) = false := beq_eq_false_iff_ne.2 h33
  by_cases h126 : c = 126
  ·
   subst h126
   have HE := Lib.hid (sgO_one (s := s) (p := p) (by rw [hbc]; decide) (by rw [hbc]; decide))
   clear hbc
   go_enter Try.func96, Try.ntmps96
   go_wp2
   go_ret
   exact ⟨ret_str (by rw [HE.out]), rfl⟩
  have e126 : (c == 126) = false := beq_eq_false_iff_ne.2 h126
  by_cases h42 : c = 42
  ·
   subst h42
   have HE := Lib.hid (sgO_one (s := s) (p := p) (by rw [hbc]; decide) (by rw [hbc]; decide))
   clear hbc
   go_enter Try.func96, Try.ntmps96
   go_wp2
   go_ret
   exact ⟨ret_str (by rw [HE.out]), rfl⟩
  have e42 : (c == 42) = false := beq_eq_false_iff_ne.2 h42
  by_cases h43 : c = 43
  ·
   subst h43
   have HE := Lib.hid (sgO_one (s := s) (p := p) (by rw [hbc]; decide) (by rw [hbc]; decide))
   clear hbc
   go_enter Try.func96, Try.ntmps96
   go_wp2
   go_ret
   exact ⟨ret_str (by rw [HE.out]), rfl⟩
  have e43 : (c == 43) = false := beq_eq_false_iff_ne.2 h43
  by_cases h63 : c = 63
  ·
   subst h63
   have HE := Lib.hid (sgO_one (s := s) (p := p) (by rw [hbc]; decide) (by rw [hbc]; decide))
   clear hbc
   go_enter Try.func96, Try.ntmps96
   go_wp2
   go_ret
   exact ⟨ret_str (by rw [HE.out]), rfl⟩
  have e63 : (c == 63) = false := beq_eq_false_iff_ne.2 h63
  by_cases h46 : c = 46
  ·
   subst h46
   have HE := Lib.hid (sgO_one (s := s) (p := p) (by rw [hbc]; decide) (by rw [hbc]; decide))
   clear hbc
   go_enter Try.func96, Try.ntmps96
   go_wp2
   go_ret
   exact ⟨ret_str (by rw [HE.out]), rfl⟩
  have e46 : (c == 46) = false := beq_eq_false_iff_ne.2 h46
  by_cases h40 : c = 40
  ·
   subst h40
   have HE := Lib.hid (sgO_one (s := s) (p := p) (by rw [hbc]; decide) (by rw [hbc]; decide))
   clear hbc
   go_enter Try.func96, Try.ntmps96
   go_wp2
   go_ret
   exact ⟨ret_str (by rw [HE.out]), rfl⟩
  have e40 : (c == 40) = false := beq_eq_false_iff_ne.2 h40
  by_cases h41 : c = 41
  ·
   subst h41
   have HE := Lib.hid (sgO_one (s := s) (p := p) (by rw [hbc]; decide) (by rw [hbc]; decide))
   clear hbc
   go_enter Try.func96, Try.ntmps96
   go_wp2
   go_ret
   exact ⟨ret_str (by rw [HE.out]), rfl⟩
  have e41 : (c == 41) = false := beq_eq_false_iff_ne.2 h41
  have HE := Lib.hid (sgO_no (s := s) (p := p) (by rw [hbc]; exact h58) (by rw [hbc]; unfold sgB; rw [e59, e61, e47, e38, e33, e126, e42, e43, e63, e46, e40, e41]; rfl))
  clear hbc
  go_enter Try.func96, Try.ntmps96
  go_wp2
  go_ret
  exact ⟨ret_str (by rw [HE.out]; exact HX.out.symm), rfl⟩
 ·
  have g2 : decide ((p : Int) + 1 < (s.size : Int)) = false := decide_eq_false g
  clear HCC
  by_cases h59 : c = 59
  ·
   subst h59
   have HE := Lib.hid (sgO_one (s := s) (p := p) (by rw [hbc]; decide) (by rw [hbc]; decide))
   clear hbc
   go_enter Try.func96, Try.ntmps96
   go_wp2
   go_ret
   exact ⟨ret_str (by rw [HE.out]), rfl⟩
  have e59 : (c == 59) = false := beq_eq_false_iff_ne.2 h59
  by_cases h61 : c = 61
  ·
   subst h61
   have HE := Lib.hid (sgO_one (s := s) (p := p) (by rw [hbc]; decide) (by rw [hbc]; decide))
   clear hbc
   go_enter Try.func96, Try.ntmps96
   go_wp2
   go_ret
   exact ⟨ret_str (by rw [HE.out]), rfl⟩
  have e61 : (c == 61) = false := beq_eq_false_iff_ne.2 h61
  by_cases h47 : c = 47
  ·
   subst h47
   have HE := Lib.hid (sgO_one (s := s) (p := p) (by rw [hbc]; decide) (by rw [hbc]; decide))
   clear hbc
   go_enter Try.func96, Try.ntmps96
   go_wp2
   go_ret
   exact ⟨ret_str (by rw [HE.out]), rfl⟩
  have e47 : (c == 47) = false := beq_eq_false_iff_ne.2 h47
  by_cases h38 : c = 38
  ·
   subst h38
   have HE := Lib.hid (sgO_one (s := s) (p := p) (by rw [hbc]; decide) (by rw [hbc]; decide))
   clear hbc
   go_enter Try.func96, Try.ntmps96
   go_wp2
   go_ret
   exact ⟨ret_str (by rw [HE.out]), rfl⟩
  have e38 : (c == 38) = false := beq_eq_false_iff_ne.2 h38
  by_cases h33 : c = 33
  ·
   subst h33
   have HE := Lib.hid (sgO_one (s := s) (p := p) (by rw [hbc]; decide) (by rw [hbc]; decide))
   clear hbc
   go_enter Try.func96, Try.ntmps96
   go_wp2
   go_ret
   exact ⟨ret_str (by rw [HE.out]), rfl⟩
  have e33 : (c == 33) = false := beq_eq_false_iff_ne.2 h33
  by_cases h126 : c = 126
  ·
   subst h126
   have HE := Lib.hid (sgO_one (s := s) (p := p) (by rw [hbc]; decide) (by rw [hbc]; decide))
   clear hbc
   go_enter Try.func96, Try.ntmps96
   go_wp2
   go_ret
   exact ⟨ret_str (by rw [HE.out]), rfl⟩
  have e126 : (c == 126) = false := beq_eq_false_iff_ne.2 h126
  by_cases h42 : c = 42
  ·
   subst h42
   have HE := Lib.hid (sgO_one (s := s) (p := p) (by rw [hbc]; decide) (by rw [hbc]; decide))
   clear hbc
   go_enter Try.func96, Try.ntmps96
   go_wp2
   go_ret
   exact ⟨ret_str (by rw [HE.out]), rfl⟩
  have e42 : (c == 42) = false := beq_eq_false_iff_ne.2 h42
  by_cases h43 : c = 43
  ·
   subst h43
   have HE := Lib.hid (sgO_one (s := s) (p := p) (by rw [hbc]; decide) (by rw [hbc]; decide))
   clear hbc
   go_enter Try.func96, Try.ntmps96
   go_wp2
   go_ret
   exact ⟨ret_str (by rw [HE.out]), rfl⟩
  have e43 : (c == 43) = false := beq_eq_false_iff_ne.2 h43
  by_cases h63 : c = 63
  ·
   subst h63
   have HE := Lib.hid (sgO_one (s := s) (p := p) (by rw [hbc]; decide) (by rw [hbc]; decide))
   clear hbc
   go_enter Try.func96, Try.ntmps96
   go_wp2
   go_ret
   exact ⟨ret_str (by rw [HE.out]), rfl⟩
  have e63 : (c == 63) = false := beq_eq_false_iff_ne.2 h63
  by_cases h46 : c = 46
  ·
   subst h46
   have HE := Lib.hid (sgO_one (s := s) (p := p) (by rw [hbc]; decide) (by rw [hbc]; decide))
   clear hbc
   go_enter Try.func96, Try.ntmps96
   go_wp2
   go_ret
   exact ⟨ret_str (by rw [HE.out]), rfl⟩
  have e46 : (c == 46) = false := beq_eq_false_iff_ne.2 h46
  by_cases h40 : c = 40
  ·
   subst h40
   have HE := Lib.hid (sgO_one (s := s) (p := p) (by rw [hbc]; decide) (by rw [hbc]; decide))
   clear hbc
   go_enter Try.func96, Try.ntmps96
   go_wp2
   go_ret
   exact ⟨ret_str (by rw [HE.out]), rfl⟩
  have e40 : (c == 40) = false := beq_eq_false_iff_ne.2 h40
  by_cases h41 : c = 41
  ·
   subst h41
   have HE := Lib.hid (sgO_one (s := s) (p := p) (by rw [hbc]; decide) (by rw [hbc]; decide))
   clear hbc
   go_enter Try.func96, Try.ntmps96
   go_wp2
   go_ret
   exact ⟨ret_str (by rw [HE.out]), rfl⟩
  have e41 : (c == 41) = false := beq_eq_false_iff_ne.2 h41
  have HE := Lib.hid (sgO_no (s := s) (p := p) (by rw [hbc]; exact h58) (by rw [hbc]; unfold sgB; rw [e59, e61, e47, e38, e33, e126, e42, e43, e63, e46, e40, e41]; rfl))
  clear hbc
  go_enter Try.func96, Try.ntmps96
  go_wp2
  go_ret
  exact ⟨ret_str (by rw [HE.out]; exact HX.out.symm), rfl⟩
end Go.Proofs.Ytbjgojdpfehnmaa
