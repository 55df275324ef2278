/- A text's tokens, whatever stands ahead of it, and with a blank, a line's end or ')' behind. Math alone. What is read with d + 1 parentheses to spare is read with d as well, or there are too many. Math alone. What is read of tokens is read of them within others, with ')' behind. Math alone. -/
import Derived.Test.YtonknapfndaalaaWj
import Derived.Test.YtonknapfndaalaaGl
namespace Go.Proofs.Ytonknapfndaalaa
set_option linter.unusedVariables false
set_option maxRecDepth 1000000
open Go.RowKit
/-- U is d bytes, and then t. -/
def Suf (U t : ByteArray) (d : Nat) : Prop := ∃ pre, U.data.toList = pre ++ t.data.toList ∧ pre.length = d
section
variable {U t : ByteArray} {d : Nat}
theorem Suf.size (h : Suf U t d) : U.size = d + t.size := by
 obtain ⟨pre, h, hd⟩ := h
 have h1 : U.data.toList.length = U.size := by simp
 have h2 : t.data.toList.length = t.size := by simp
 rw [← h1, h, List.length_append, hd, h2]
theorem Suf.byt (h : Suf U t d) (k : Nat) : byt U (d + k) = byt t k := by
 obtain ⟨pre, h, hd⟩ := h
 unfold Go.Proofs.Ytonknapfndaalaa.byt
 rw [h, List.getD_eq_getElem?_getD, List.getD_eq_getElem?_getD, List.getElem?_append_right (by omega), hd, Nat.add_sub_cancel_left]
theorem Suf.cut (h : Suf U t d) (a b : Nat) : U.extract (d + a) (d + b) = t.extract a b := by
 obtain ⟨pre, h, hd⟩ := h
 apply bytes_eq
 rw [ByteArray.data_extract, ByteArray.data_extract]
 simp only [Array.toList_extract, List.extract_eq_take_drop]
 rw [h, show d + b - (d + a) = b - a by omega, ← hd, List.drop_append, List.drop_of_length_le (by omega), List.nil_append, Nat.add_sub_cancel_left]
theorem Suf.stand (h : Suf U t d) (k : Nat) (c : Int) : standB U ((d + k : Nat) : Int) c = standB t (k : Int) c := by
 have := h.size
 by_cases g : k < t.size
 ·
  rw [stand_in g, stand_in (by omega), h.byt]
 ·
  rw [stand_out g, stand_out (by omega)]
def mv (d : Nat) {α : Type} : Option (α × Nat) → Option (α × Nat)
 | none => none
 | some (x, m) => some (x, d + m)
theorem Suf.hexN (h : Suf U t d) (a : Nat) : ∀ m, hexN U (d + a) m = hexN t a m
 | 0 => rfl
 | m + 1 => by
  have hs := h.size
  show (if Go.Proofs.Ytonknapfndaalaa.hexN U (d + a) m = m ∧ d + a + m < U.size ∧ 0 ≤ hexV (Go.Proofs.Ytonknapfndaalaa.byt U (d + a + m)) then m + 1 else Go.Proofs.Ytonknapfndaalaa.hexN U (d + a) m) = (if Go.Proofs.Ytonknapfndaalaa.hexN t a m = m ∧ a + m < t.size ∧ 0 ≤ hexV (Go.Proofs.Ytonknapfndaalaa.byt t (a + m)) then m + 1 else Go.Proofs.Ytonknapfndaalaa.hexN t a m)
  rw [h.hexN a m, Nat.add_assoc, h.byt]
  by_cases g : Go.Proofs.Ytonknapfndaalaa.hexN t a m = m ∧ a + m < t.size ∧ 0 ≤ hexV (Go.Proofs.Ytonknapfndaalaa.byt t (a + m))
  ·
   rw [if_pos g, if_pos ⟨g.1, by omega, g.2.2⟩]
  ·
   rw [if_neg g, if_neg (fun q => g ⟨q.1, by omega, q.2.2⟩)]
theorem Suf.valN (h : Suf U t d) (a : Nat) : ∀ m, valN U (d + a) m = valN t a m
 | 0 => rfl
 | m + 1 => by
  show Go.Proofs.Ytonknapfndaalaa.valN U (d + a) m * 16 + hexV (Go.Proofs.Ytonknapfndaalaa.byt U (d + a + m)) = Go.Proofs.Ytonknapfndaalaa.valN t a m * 16 + hexV (Go.Proofs.Ytonknapfndaalaa.byt t (a + m))
  rw [h.valN a m, Nat.add_assoc, h.byt]
theorem Suf.signO (h : Suf U t d) (a : Nat) : signO U (d + a) = mv d (signO t a) := by
 unfold Go.Proofs.Ytonknapfndaalaa.signO
 rw [h.hexN, h.valN, show d + a + Go.Proofs.Ytonknapfndaalaa.hexN t a 6 = d + (a + Go.Proofs.Ytonknapfndaalaa.hexN t a 6) by omega, h.stand]
 split
 ·
  rfl
 ·
  rfl
theorem Suf.escO (h : Suf U t d) (k : Nat) (sp : ByteArray) : escO U (d + k) sp = mv d (escO t k sp) := by
 have hs := h.size
 by_cases g : k < t.size
 ·
  rw [escO_at g rfl, escO_at (show d + k < U.size by omega) (h.byt k), show d + k + 1 = d + (k + 1) by omega, show d + k + 2 = d + (k + 2) by omega, h.hexN, h.valN, h.stand, h.signO]
  split
  ·
   rfl
  ·
   split
   ·
    rfl
   ·
    split
    ·
     rfl
    ·
     split
     ·
      split <;> rfl
     ·
      split <;> rfl
 ·
  rw [escO_out g, escO_out (by omega)]; rfl
theorem Suf.readO (h : Suf U t d) (k : Nat) (sp : ByteArray) : readO U (d + k) sp = mv d (readO t k sp) := by
 have hs := h.size
 by_cases g : k < t.size
 ·
  rw [readO_at g rfl, readO_at (show d + k < U.size by omega) (h.byt k), show d + k + 1 = d + (k + 1) by omega, h.escO]
  split
  ·
   rfl
  ·
   split <;> rfl
 ·
  rw [readO_out g, readO_out (by omega)]; rfl
theorem Suf.txtF (h : Suf U t d) : ∀ f k out, txtF U f (d + k) out = mv d (txtF t f k out)
 | 0, k, out => rfl
 | f + 1, k, out => by
  have hs := h.size
  rw [txtF.eq_2, txtF.eq_2, h.byt, h.readO]
  by_cases g : k < t.size
  ·
   rw [if_pos g, if_pos (by omega)]
   split
   ·
    split <;> rfl
   ·
    cases hq : Go.Proofs.Ytonknapfndaalaa.readO t k spT with
    | none => rfl
    | some q => obtain ⟨u, m⟩ := q; exact h.txtF f m _
  ·
   rw [if_neg g, if_neg (by omega)]; rfl
theorem Suf.sglO (h : Suf U t d) (k : Nat) : sglO U (d + k) = mv d (sglO t k) := by
 unfold Go.Proofs.Ytonknapfndaalaa.sglO
 rw [h.readO]
 cases Go.Proofs.Ytonknapfndaalaa.readO t k spC with
 | none => rfl
 | some q =>
  obtain ⟨u, m⟩ := q
  show (if _ then _ else _) = mv d (if _ then _ else _)
  split <;> rfl
theorem Suf.rowO (h : Suf U t d) (k : Nat) : rowO U (d + k) = mv d (rowO t k) := by
 unfold Go.Proofs.Ytonknapfndaalaa.rowO
 rw [h.sglO]
 cases Go.Proofs.Ytonknapfndaalaa.sglO t k with
 | none => rfl
 | some q =>
  obtain ⟨lo, m⟩ := q
  show (if standB U ((d + m : Nat) : Int) 45 = true then _ else _) = mv d (if standB t (m : Int) 45 = true then _ else _)
  rw [h.stand, show d + m + 1 = d + (m + 1) by omega, h.sglO]
  split
  ·
   cases Go.Proofs.Ytonknapfndaalaa.sglO t (m + 1) with
   | none => rfl
   | some q =>
    obtain ⟨hi, m'⟩ := q
    show (if _ then _ else _) = mv d (if _ then _ else _)
    split <;> rfl
  ·
   rfl
theorem Suf.rwsF (h : Suf U t d) : ∀ f k x, rwsF U f (d + k) x = mv d (rwsF t f k x)
 | 0, k, x => rfl
 | f + 1, k, x => by
  rw [rwsF.eq_2, rwsF.eq_2, h.rowO]
  cases Go.Proofs.Ytonknapfndaalaa.rowO t k with
  | none => rfl
  | some q =>
   obtain ⟨⟨lo, hi⟩, m⟩ := q
   show (if standB U ((d + m : Nat) : Int) 93 = true then _ else _) = mv d (if standB t (m : Int) 93 = true then _ else _)
   rw [h.stand]
   split
   ·
    rfl
   ·
    exact h.rwsF f m _
end
/-- More fuel changes nothing. -/
theorem txtF_fuel {s : ByteArray} : ∀ f g k out, s.size < f + k → s.size < g + k → txtF s f k out = txtF s g k out
 | 0, g, k, out, h1, h2 => by rw [txtF_out (by omega), txtF_out (by omega)]
 | f + 1, 0, k, out, h1, h2 => by rw [txtF_out (by omega), txtF_out (by omega)]
 | f + 1, g + 1, k, out, h1, h2 => by
  rw [txtF.eq_2, txtF.eq_2]
  split
  ·
   split
   ·
    rfl
   ·
    cases hq : readO s k spT with
    | none => rfl
    | some q => obtain ⟨u, m⟩ := q; have := readO_bd hq; exact txtF_fuel f g m _ (by omega) (by omega)
  ·
   rfl
theorem rwsF_out {s : ByteArray} {f k : Nat} {x : Set4} (h : ¬ k < s.size) : rwsF s f k x = none := rwsF_no (rowO_none (sglO_none (readO_out h)))
theorem rwsF_fuel {s : ByteArray} : ∀ f g k x, s.size < f + k → s.size < g + k → rwsF s f k x = rwsF s g k x
 | 0, g, k, x, h1, h2 => by rw [rwsF_out (by omega), rwsF_out (by omega)]
 | f + 1, 0, k, x, h1, h2 => by rw [rwsF_out (by omega), rwsF_out (by omega)]
 | f + 1, g + 1, k, x, h1, h2 => by
  rw [rwsF.eq_2, rwsF.eq_2]
  cases hq : rowO s k with
  | none => rfl
  | some q =>
   obtain ⟨⟨lo, hi⟩, m⟩ := q
   have := rowO_bd hq
   simp only
   split
   ·
    rfl
   ·
    exact rwsF_fuel f g m _ (by omega) (by omega)
theorem runB_fuel {P : Int → Bool} {s : ByteArray} : ∀ f g k, s.size ≤ f + k → s.size ≤ g + k → runB P s f k = runB P s g k
 | 0, 0, k, h1, h2 => rfl
 | 0, g + 1, k, h1, h2 => by
  show 0 = runB P s (g + 1) k
  unfold runB; rw [if_neg (by omega)]
 | f + 1, 0, k, h1, h2 => by
  show runB P s (f + 1) k = 0
  unfold runB; rw [if_neg (by omega)]
 | f + 1, g + 1, k, h1, h2 => by
  unfold runB
  rw [runB_fuel f g (k + 1) (by omega) (by omega)]
section
variable {U t : ByteArray} {d : Nat}
theorem Suf.runB (h : Suf U t d) (P : Int → Bool) : ∀ f k, runB P U f (d + k) = runB P t f k
 | 0, k => rfl
 | f + 1, k => by
  have hs := h.size
  unfold Go.Proofs.Ytonknapfndaalaa.runB
  rw [h.byt, show d + k + 1 = d + (k + 1) by omega, h.runB P f (k + 1)]
  by_cases g : k < t.size ∧ P (Go.Proofs.Ytonknapfndaalaa.byt t k) = true
  ·
   rw [if_pos g, if_pos ⟨by omega, g.2⟩]
  ·
   rw [if_neg g, if_neg (fun q => g ⟨by omega, q.2⟩)]
theorem Suf.nmO (h : Suf U t d) (k : Nat) : nmO U (d + k) = nmO t k := by
 have hs := h.size
 unfold Go.Proofs.Ytonknapfndaalaa.nmO
 rw [h.runB, runB_fuel U.size t.size k (by omega) (by omega)]
theorem Suf.ntO (h : Suf U t d) (k : Nat) : ntO U (d + k) = ntO t k := by
 have hs := h.size
 unfold Go.Proofs.Ytonknapfndaalaa.ntO
 rw [h.runB, runB_fuel U.size t.size k (by omega) (by omega)]
theorem Suf.skF (h : Suf U t d) : ∀ f k, skF U f (d + k) = d + skF t f k
 | 0, k => rfl
 | f + 1, k => by
  have hs := h.size
  rw [skF.eq_2, skF.eq_2, h.byt, h.ntO]
  by_cases g : k < t.size
  ·
   rw [if_pos g, if_pos (by omega)]
   split
   ·
    exact h.skF f (k + 1)
   ·
    split
    ·
     rw [Nat.add_assoc]; exact h.skF f _
    ·
     rfl
  ·
   rw [if_neg g, if_neg (by omega)]
theorem Suf.skO (h : Suf U t d) (k : Nat) : skO U (d + k) = d + skO t k := by
 have hs := h.size
 unfold Go.Proofs.Ytonknapfndaalaa.skO
 rw [h.skF, skF_fuel (U.size + 1) (t.size + 1) k (by omega) (by omega)]
theorem Suf.txtO (h : Suf U t d) (k : Nat) : txtO U ((d + k : Nat) : Int) = mv d (txtO t (k : Int)) := by
 have hs := h.size
 unfold Go.Proofs.Ytonknapfndaalaa.txtO
 rw [h.stand, Int.toNat_natCast, Int.toNat_natCast, Nat.add_assoc, h.txtF, txtF_fuel (U.size + 1) (t.size + 1) (k + 1) _ (by omega) (by omega)]
 split <;> rfl
theorem Suf.clsO (h : Suf U t d) (k : Nat) : clsO U ((d + k : Nat) : Int) = mv d (clsO t (k : Int)) := by
 have hs := h.size
 unfold Go.Proofs.Ytonknapfndaalaa.clsO
 rw [h.stand, show ((d + k : Nat) : Int) + 1 = ((d + (k + 1) : Nat) : Int) by omega, h.stand, show ((k + 1 : Nat) : Int) = (k : Int) + 1 by omega, Int.toNat_natCast, Int.toNat_natCast]
 generalize standB t ((k : Int) + 1) 94 = o
 rw [show d + k + 1 + (if o = true then 1 else 0) = d + (k + 1 + (if o = true then 1 else 0)) by omega, h.rwsF, rwsF_fuel (U.size + 1) (t.size + 1) (k + 1 + (if o = true then 1 else 0)) _ (by omega) (by omega)]
 split
 ·
  cases Go.Proofs.Ytonknapfndaalaa.rwsF t (t.size + 1) (k + 1 + (if o = true then 1 else 0)) set0 with
  | none => rfl
  | some q =>
   obtain ⟨x, m⟩ := q
   show (if _ then _ else _) = mv d (if _ then _ else _)
   split <;> rfl
 ·
  rfl
theorem Suf.sgO (h : Suf U t d) (k : Nat) : sgO U (d + k) = sgO t k := by
 unfold Go.Proofs.Ytonknapfndaalaa.sgO
 rw [h.byt, show d + k + 1 = d + (k + 1) by omega, h.stand]
def sh (d : Nat) (x : Tok) : Tok := ⟨x.kd, x.tx, x.st, d + x.pos⟩
def mvT (d : Nat) : Option (Tok × Nat) → Option (Tok × Nat)
 | none => none
 | some (x, m) => some (sh d x, d + m)
theorem Suf.tkO (h : Suf U t d) (p : Nat) : tkO U (d + p) = mvT d (tkO t p) := by
 unfold Go.Proofs.Ytonknapfndaalaa.tkO
 rw [h.byt, h.nmO, h.txtO, h.clsO, h.sgO, Nat.add_assoc, Nat.add_assoc, h.cut, h.cut]
 split
 ·
  split <;> rfl
 ·
  split
  ·
   cases Go.Proofs.Ytonknapfndaalaa.txtO t (p : Int) <;> rfl
  ·
   split
   ·
    cases Go.Proofs.Ytonknapfndaalaa.clsO t (p : Int) <;> rfl
   ·
    split <;> rfl
theorem Suf.nextO (h : Suf U t d) (k : Nat) : nextO U (d + k) = mvT d (nextO t k) := by
 have hs := h.size
 unfold Go.Proofs.Ytonknapfndaalaa.nextO
 rw [h.skO, h.tkO]
 by_cases g : t.size ≤ Go.Proofs.Ytonknapfndaalaa.skO t k
 ·
  rw [if_pos g, if_pos (by omega), hs]; rfl
 ·
  rw [if_neg g, if_neg (by omega)]
def mvA (d : Nat) : Except Nat (List Tok) → Except Nat (List Tok)
 | .ok L => .ok (L.map (sh d))
 | .error e => .error (d + e)
theorem Suf.allF (h : Suf U t d) : ∀ f k, allF U f (d + k) = mvA d (allF t f k)
 | 0, k => rfl
 | f + 1, k => by
  rw [allF.eq_2, allF.eq_2, h.nextO, h.skO]
  cases Go.Proofs.Ytonknapfndaalaa.nextO t k with
  | none => rfl
  | some q =>
   obtain ⟨x, m⟩ := q
   show (if x.kd = 0 then _ else _) = mvA d (if x.kd = 0 then _ else _)
   split
   ·
    rfl
   ·
    rw [h.allF f m]
    cases Go.Proofs.Ytonknapfndaalaa.allF t f m <;> rfl
end
/-- A blank, a line's end, ')'. -/
def okC (c : Int) : Prop := c = 32 ∨ c = 10 ∨ c = 41
/-- U is s, one of these, and something more. -/
def Pre (U s : ByteArray) : Prop := ∃ x r, okC ((x : UInt8).toNat : Int) ∧ U.data.toList = s.data.toList ++ (x :: r)
section
variable {U s : ByteArray}
theorem Pre.size (h : Pre U s) : s.size < U.size := by
 obtain ⟨x, r, hx, h⟩ := h
 have h1 : U.data.toList.length = U.size := by simp
 have h2 : s.data.toList.length = s.size := by simp
 rw [← h1, h, List.length_append, h2, List.length_cons]; omega
theorem Pre.byt (h : Pre U s) {k : Nat} (hk : k < s.size) : byt U k = byt s k := by
 obtain ⟨x, r, hx, h⟩ := h
 have h2 : s.data.toList.length = s.size := by simp
 unfold Go.Proofs.Ytonknapfndaalaa.byt
 rw [h, List.getD_eq_getElem?_getD, List.getD_eq_getElem?_getD, List.getElem?_append_left (by omega)]
theorem Pre.blank (h : Pre U s) : okC (Go.Proofs.Ytonknapfndaalaa.byt U s.size) := by
 obtain ⟨x, r, hx, h⟩ := h
 have h2 : s.data.toList.length = s.size := by simp
 unfold Go.Proofs.Ytonknapfndaalaa.byt
 rw [h, List.getD_eq_getElem?_getD, List.getElem?_append_right (by omega), h2, Nat.sub_self]; exact hx
theorem Pre.cut (h : Pre U s) (a : Nat) {b : Nat} (hb : b ≤ s.size) : U.extract a b = s.extract a b := by
 obtain ⟨x, r, hx, h⟩ := h
 have h2 : s.data.toList.length = s.size := by simp
 apply bytes_eq
 rw [ByteArray.data_extract, ByteArray.data_extract]
 simp only [Array.toList_extract, List.extract_eq_take_drop]
 rw [h]
 by_cases g : a ≤ b
 ·
  rw [List.drop_append_of_le_length (by omega), List.take_append_of_le_length (by rw [List.length_drop]; omega)]
 ·
  rw [show b - a = 0 by omega]; simp
theorem Pre.stand (h : Pre U s) {k : Nat} (hk : k ≤ s.size) {c : Int} (hc : c ≠ 32 ∧ c ≠ 10 ∧ c ≠ 41) : standB U (k : Int) c = standB s (k : Int) c := by
 have hs := h.size
 by_cases g : k < s.size
 ·
  rw [stand_in g, stand_in (by omega), h.byt g]
 ·
  obtain rfl : k = s.size := by omega
  rw [stand_out g, stand_in hs]
  exact beq_eq_false_iff_ne.2 (fun e => by have := h.blank; unfold okC at this; omega)
theorem Pre.hexN (h : Pre U s) {a : Nat} (ha : a ≤ s.size) : ∀ m, hexN U a m = hexN s a m ∧ a + hexN s a m ≤ s.size
 | 0 => ⟨rfl, ha⟩
 | m + 1 => by
  have hs := h.size
  obtain ⟨h1, h2⟩ := h.hexN ha m
  show (if Go.Proofs.Ytonknapfndaalaa.hexN U a m = m ∧ a + m < U.size ∧ 0 ≤ hexV (Go.Proofs.Ytonknapfndaalaa.byt U (a + m)) then m + 1 else Go.Proofs.Ytonknapfndaalaa.hexN U a m) = (if Go.Proofs.Ytonknapfndaalaa.hexN s a m = m ∧ a + m < s.size ∧ 0 ≤ hexV (Go.Proofs.Ytonknapfndaalaa.byt s (a + m)) then m + 1 else Go.Proofs.Ytonknapfndaalaa.hexN s a m) ∧
   a + (if Go.Proofs.Ytonknapfndaalaa.hexN s a m = m ∧ a + m < s.size ∧ 0 ≤ hexV (Go.Proofs.Ytonknapfndaalaa.byt s (a + m)) then m + 1 else Go.Proofs.Ytonknapfndaalaa.hexN s a m) ≤ s.size
  rw [h1]
  by_cases g : Go.Proofs.Ytonknapfndaalaa.hexN s a m = m ∧ a + m < s.size ∧ 0 ≤ hexV (Go.Proofs.Ytonknapfndaalaa.byt s (a + m))
  ·
   rw [if_pos g, if_pos ⟨g.1, by omega, by rw [h.byt g.2.1]; exact g.2.2⟩]
   exact ⟨rfl, by omega⟩
  ·
   rw [if_neg g, if_neg]
   ·
    exact ⟨rfl, h2⟩
   ·
    rintro ⟨q1, q2, q3⟩
    by_cases q4 : a + m < s.size
    ·
     rw [h.byt q4] at q3; exact g ⟨q1, q4, q3⟩
    ·
     rw [show a + m = s.size by omega] at q3
     rcases h.blank with e | e | e <;> (rw [e] at q3; revert q3; decide)
theorem Pre.valN (h : Pre U s) {a : Nat} : ∀ m, a + m ≤ s.size → valN U a m = valN s a m
 | 0, _ => rfl
 | m + 1, hm => by
  show Go.Proofs.Ytonknapfndaalaa.valN U a m * 16 + hexV (Go.Proofs.Ytonknapfndaalaa.byt U (a + m)) = Go.Proofs.Ytonknapfndaalaa.valN s a m * 16 + hexV (Go.Proofs.Ytonknapfndaalaa.byt s (a + m))
  rw [h.valN m (by omega), h.byt (by omega)]
theorem Pre.signO (h : Pre U s) {a : Nat} (ha : a ≤ s.size) : signO U a = signO s a := by
 obtain ⟨h1, h2⟩ := h.hexN ha 6
 unfold Go.Proofs.Ytonknapfndaalaa.signO
 rw [h1, h.valN _ h2, h.stand h2 (by decide)]
theorem Pre.escO (h : Pre U s) {k : Nat} (hk : k ≤ s.size) {sp : ByteArray} (hsp : ∀ c, okC c → isSp sp c = false) : escO U k sp = escO s k sp := by
 have hs := h.size
 by_cases g : k < s.size
 ·
  rw [escO_at g rfl, escO_at (show k < U.size by omega) (h.byt g), (h.hexN (a := k + 1) (by omega) 2).1, h.stand (k := k + 1) (by omega) (by decide)]
  have hx := (h.hexN (a := k + 1) (by omega) 2).2
  have e1 : (if Go.Proofs.Ytonknapfndaalaa.hexN s (k + 1) 2 = 2 then some (strOfNums [Go.Proofs.Ytonknapfndaalaa.valN U (k + 1) 2], k + 3) else none) = (if Go.Proofs.Ytonknapfndaalaa.hexN s (k + 1) 2 = 2 then some (strOfNums [Go.Proofs.Ytonknapfndaalaa.valN s (k + 1) 2], k + 3) else none) := by
   split
   ·
    rename_i q; rw [h.valN 2 (by omega)]
   ·
    rfl
  have e2 : (if Go.Proofs.Ytonknapfndaalaa.byt s k = 117 ∧ standB s ((k + 1 : Nat) : Int) 123 = true then Go.Proofs.Ytonknapfndaalaa.signO U (k + 2) else none) = (if Go.Proofs.Ytonknapfndaalaa.byt s k = 117 ∧ standB s ((k + 1 : Nat) : Int) 123 = true then Go.Proofs.Ytonknapfndaalaa.signO s (k + 2) else none) := by
   split
   ·
    rename_i q; have := (stand_iff.1 q.2).1; rw [h.signO (by omega)]
   ·
    rfl
  rw [e1, e2]
 ·
  obtain rfl : k = s.size := by omega
  have hb := h.blank
  have hq := hsp _ hb
  rcases hb with e | e | e <;> (rw [e] at hq; rw [escO_out g, escO_at hs e, if_neg (by decide), if_neg (by decide), hq]; rfl)
theorem signO_end {a m : Nat} {u : ByteArray} (h : signO s a = some (u, m)) : m ≤ s.size := by
 unfold Go.Proofs.Ytonknapfndaalaa.signO at h
 split at h
 ·
  rename_i g; have := (stand_iff.1 g.2.1).1; injection h with h; injection h with h1 h2; omega
 ·
  cases h
theorem escO_end {k m : Nat} {sp u : ByteArray} (h : escO s k sp = some (u, m)) : m ≤ s.size := by
 by_cases hk : k < s.size
 ·
  rw [escO_at hk rfl] at h
  split at h
  ·
   injection h with h; injection h with h1 h2; omega
  ·
   split at h
   ·
    injection h with h; injection h with h1 h2; omega
   ·
    split at h
    ·
     injection h with h; injection h with h1 h2; omega
    ·
     split at h
     ·
      split at h
      ·
       rename_i g
       injection h with h; injection h with h1 h2
       have key : ∀ n, Go.Proofs.Ytonknapfndaalaa.hexN s (k + 1) n = n → 0 < n → k + 1 + n ≤ s.size := fun n => by
        intro hn h0
        obtain ⟨q, rfl⟩ : ∃ q, n = q + 1 := ⟨n - 1, by omega⟩
        have hle := hexN_le s (k + 1) q
        by_cases c : Go.Proofs.Ytonknapfndaalaa.hexN s (k + 1) q = q ∧ k + 1 + q < s.size ∧ 0 ≤ hexV (Go.Proofs.Ytonknapfndaalaa.byt s (k + 1 + q))
        ·
         omega
        ·
         have : Go.Proofs.Ytonknapfndaalaa.hexN s (k + 1) (q + 1) = Go.Proofs.Ytonknapfndaalaa.hexN s (k + 1) q := by show (if _ then _ else _) = _; rw [if_neg c]
         omega
       have := key 2 g (by decide); omega
      ·
       cases h
     ·
      split at h
      ·
       exact signO_end h
      ·
       cases h
 ·
  rw [escO_out hk] at h; cases h
theorem readO_end {k m : Nat} {sp u : ByteArray} (h : readO s k sp = some (u, m)) : m ≤ s.size := by
 by_cases hk : k < s.size
 ·
  rw [readO_at hk rfl] at h
  split at h
  ·
   injection h with h; injection h with h1 h2; omega
  ·
   split at h
   ·
    exact escO_end h
   ·
    cases h
 ·
  rw [readO_out hk] at h; cases h
theorem Pre.readO (h : Pre U s) {k : Nat} (hk : k < s.size) {sp : ByteArray} (hsp : ∀ c, okC c → isSp sp c = false) : readO U k sp = readO s k sp := by
 have hs := h.size
 rw [readO_at hk rfl, readO_at (show k < U.size by omega) (h.byt hk), h.escO (by omega) hsp]
theorem Pre.txtF (h : Pre U s) : ∀ f k out q, txtF s f k out = some q → txtF U f k out = some q
 | 0, k, out, q, hq => by cases hq
 | f + 1, k, out, q, hq => by
  have hs := h.size
  rw [txtF.eq_2] at hq ⊢
  split at hq
  ·
   rename_i hk
   rw [if_pos (by omega), h.byt hk, h.readO hk (fun c hc => by rcases hc with rfl | rfl | rfl <;> decide +kernel)]
   split at hq
   ·
    rename_i hc; rw [if_pos hc]; exact hq
   ·
    rename_i hc
    rw [if_neg hc]
    cases hr : Go.Proofs.Ytonknapfndaalaa.readO s k spT with
    | none => rw [hr] at hq; cases hq
    | some p => obtain ⟨u, m⟩ := p; rw [hr] at hq; exact h.txtF f m _ q hq
  ·
   cases hq
theorem Pre.txtO (h : Pre U s) {k : Nat} (hk : k < s.size) {q : ByteArray × Nat} (hq : txtO s (k : Int) = some q) : txtO U (k : Int) = some q := by
 have hs := h.size
 unfold Go.Proofs.Ytonknapfndaalaa.txtO at hq ⊢
 rw [h.stand (by omega) (by decide)]
 split at hq
 ·
  rename_i g
  rw [if_pos g, Int.toNat_natCast, txtF_fuel (U.size + 1) (U.size + 1 + 0) _ _ (by omega) (by omega)]
  rw [Int.toNat_natCast, txtF_fuel (s.size + 1) (U.size + 1) _ _ (by omega) (by omega)] at hq
  exact h.txtF _ _ _ _ hq
 ·
  cases hq
theorem Pre.sglO (h : Pre U s) {k : Nat} (hk : k < s.size) : sglO U k = sglO s k := by
 unfold Go.Proofs.Ytonknapfndaalaa.sglO
 rw [h.readO hk (fun c hc => by rcases hc with rfl | rfl | rfl <;> decide +kernel)]
theorem sglO_end {k m : Nat} {c : Int} (h : sglO s k = some (c, m)) : m ≤ s.size := by
 cases hq : readO s k spC with
 | none => rw [sglO_none hq] at h; cases h
 | some p =>
  obtain ⟨u, m'⟩ := p
  rw [sglO_some hq] at h
  split at h
  ·
   injection h with h; injection h with h1 h2; subst h2; exact readO_end hq
  ·
   cases h
theorem Pre.rowO (h : Pre U s) {k : Nat} (hk : k < s.size) {lo hi m : Nat} (hq : rowO s k = some ((lo, hi), m)) : rowO U k = some ((lo, hi), m) ∧ m ≤ s.size := by
 cases h1 : Go.Proofs.Ytonknapfndaalaa.sglO s k with
 | none => rw [rowO_none h1] at hq; cases hq
 | some p =>
  obtain ⟨c, n⟩ := p
  have hn := sglO_end h1
  have h1U : Go.Proofs.Ytonknapfndaalaa.sglO U k = some (c, n) := by rw [h.sglO hk, h1]
  cases hd : standB s (n : Int) 45 with
  | false =>
   have hdU : standB U (n : Int) 45 = false := by rw [h.stand hn (by decide), hd]
   rw [rowO_one h1 hd] at hq
   rw [rowO_one h1U hdU]
   refine ⟨hq, ?_⟩
   injection hq with hq; injection hq with q1 q2; omega
  | true =>
   have hdU : standB U (n : Int) 45 = true := by rw [h.stand hn (by decide), hd]
   have hn1 := (stand_iff.1 hd).1
   rw [rowO_two h1 hd] at hq
   rw [rowO_two h1U hdU]
   cases h2 : Go.Proofs.Ytonknapfndaalaa.sglO s (n + 1) with
   | none => rw [h2] at hq; cases hq
   | some p =>
    obtain ⟨c', n'⟩ := p
    have hb := sglO_bd h2
    have hn' := sglO_end h2
    rw [h.sglO hb.1, h2]
    rw [h2] at hq
    refine ⟨hq, ?_⟩
    simp only at hq
    split at hq
    ·
     cases hq
    ·
     injection hq with hq; injection hq with q1 q2; omega
theorem Pre.rwsF (h : Pre U s) : ∀ f k x q, rwsF s f k x = some q → rwsF U f k x = some q
 | 0, k, x, q, hq => by cases hq
 | f + 1, k, x, q, hq => by
  rw [rwsF.eq_2] at hq ⊢
  cases hr : Go.Proofs.Ytonknapfndaalaa.rowO s k with
  | none => rw [hr] at hq; cases hq
  | some p =>
   obtain ⟨⟨lo, hi⟩, m⟩ := p
   have hb := rowO_bd hr
   obtain ⟨r1, r2⟩ := h.rowO hb.1 hr
   rw [hr] at hq
   rw [r1]
   simp only at hq ⊢
   rw [h.stand r2 (by decide)]
   split at hq
   ·
    rename_i g; rw [if_pos g]; exact hq
   ·
    rename_i g; rw [if_neg g]; exact h.rwsF f m _ q hq
theorem Pre.clsO (h : Pre U s) {k : Nat} (hk : k < s.size) {q : Set4 × Nat} (hq : clsO s (k : Int) = some q) : clsO U (k : Int) = some q := by
 have hs := h.size
 unfold Go.Proofs.Ytonknapfndaalaa.clsO at hq ⊢
 rw [h.stand (by omega) (by decide), show (k : Int) + 1 = ((k + 1 : Nat) : Int) by omega, h.stand (k := k + 1) (by omega) (by decide)]
 rw [show (k : Int) + 1 = ((k + 1 : Nat) : Int) by omega] at hq
 split at hq
 ·
  rename_i g
  rw [if_pos g]
  generalize standB s ((k + 1 : Nat) : Int) 94 = o at hq ⊢
  rw [Int.toNat_natCast] at hq ⊢
  cases hr : Go.Proofs.Ytonknapfndaalaa.rwsF s (s.size + 1) (k + 1 + (if o = true then 1 else 0)) set0 with
  | none => rw [hr] at hq; cases hq
  | some p =>
   rw [hr] at hq
   rw [rwsF_fuel (s.size + 1) (U.size + 1) _ _ (by omega) (by omega)] at hr
   rw [h.rwsF _ _ _ _ hr]; exact hq
 ·
  cases hq
theorem Pre.runB (h : Pre U s) {P : Int → Bool} (hP : ∀ c, okC c → P c = false) : ∀ f k, k ≤ s.size → runB P U f k = runB P s f k
 | 0, k, _ => rfl
 | f + 1, k, hk => by
  have hs := h.size
  unfold Go.Proofs.Ytonknapfndaalaa.runB
  by_cases g : k < s.size
  ·
   rw [h.byt g, h.runB hP f (k + 1) (by omega)]
   by_cases q : P (Go.Proofs.Ytonknapfndaalaa.byt s k) = true
   ·
    rw [if_pos ⟨by omega, q⟩, if_pos ⟨g, q⟩]
   ·
    rw [if_neg (fun r => q r.2), if_neg (fun r => q r.2)]
  ·
   obtain rfl : k = s.size := by omega
   rw [hP _ h.blank, if_neg (fun r => by cases r.2), if_neg (fun r => g r.1)]
theorem Pre.nmO (h : Pre U s) {k : Nat} (hk : k ≤ s.size) : nmO U k = nmO s k := by
 have hs := h.size
 unfold Go.Proofs.Ytonknapfndaalaa.nmO
 rw [h.runB (fun c hc => by rcases hc with rfl | rfl | rfl <;> decide) _ _ hk, runB_fuel U.size s.size k (by omega) (by omega)]
theorem Pre.sgO (h : Pre U s) {k : Nat} (hk : k < s.size) : sgO U k = sgO s k := by
 unfold Go.Proofs.Ytonknapfndaalaa.sgO
 rw [h.byt hk, h.stand (k := k + 1) (by omega) (by decide)]
theorem Pre.tkO (h : Pre U s) {p : Nat} (hp : p < s.size) {q : Tok × Nat} (hq : tkO s p = some q) : tkO U p = some q := by
 have hn := nmO_le (s := s) (k := p) (by omega)
 have hg := sgO_le hp
 unfold Go.Proofs.Ytonknapfndaalaa.tkO at hq ⊢
 rw [h.byt hp, h.nmO (by omega), h.sgO hp, h.cut p hn, h.cut p hg]
 split at hq
 ·
  rename_i c; rw [if_pos c]; exact hq
 ·
  rename_i c
  rw [if_neg c]
  split at hq
  ·
   rename_i c; rw [if_pos c]
   cases hr : Go.Proofs.Ytonknapfndaalaa.txtO s (p : Int) with
   | none => rw [hr] at hq; cases hq
   | some r => rw [h.txtO hp hr]; rw [hr] at hq; exact hq
  ·
   rename_i c; rw [if_neg c]
   split at hq
   ·
    rename_i c; rw [if_pos c]
    cases hr : Go.Proofs.Ytonknapfndaalaa.clsO s (p : Int) with
    | none => rw [hr] at hq; cases hq
    | some r => rw [h.clsO hp hr]; rw [hr] at hq; exact hq
   ·
    rename_i c; rw [if_neg c]; exact hq
end
theorem skO_out {s : ByteArray} {k : Nat} (h : ¬ k < s.size) : skO s k = k := skF_out h
theorem skO_stop {s : ByteArray} {k : Nat} (h : blkB (byt s k) = false) (h2 : byt s k ≠ 35) : skO s k = k := skF_stop h h2
theorem pre_sk {U s : ByteArray} (h : Pre U s) (hn : ∀ k, k < s.size → byt s k ≠ 35) : ∀ n k, n + k = s.size → (skO s k < s.size → skO U k = skO s k) ∧ (skO s k = s.size → skO U k = skO U s.size) ∧ skO s k ≤ s.size
 | 0, k, hk => by
  have hs := h.size
  obtain rfl : k = s.size := by omega
  have e1 : skO s s.size = s.size := skO_out (by omega)
  exact ⟨fun g => by omega, fun _ => rfl, by omega⟩
 | n + 1, k, hk => by
  have hs := h.size
  have hk1 : k < s.size := by omega
  cases hb : blkB (byt s k) with
  | true =>
   rw [skO_blank hk1 hb, skO_blank (show k < U.size by omega) (by rw [h.byt hk1]; exact hb)]
   exact pre_sk h hn n (k + 1) (by omega)
  | false =>
   have e1 : skO s k = k := skO_stop hb (hn k hk1)
   have e2 : skO U k = k := skO_stop (by rw [h.byt hk1]; exact hb) (by rw [h.byt hk1]; exact hn k hk1)
   rw [e1, e2]
   exact ⟨fun _ => rfl, fun g => by omega, by omega⟩
theorem allF_fuel {s : ByteArray} : ∀ f g k, k ≤ s.size → s.size < f + k → s.size < g + k → allF s f k = allF s g k
 | 0, g, k, h0, h1, h2 => by omega
 | f + 1, 0, k, h0, h1, h2 => by omega
 | f + 1, g + 1, k, h0, h1, h2 => by
  rw [allF.eq_2, allF.eq_2]
  cases hq : nextO s k with
  | none => rfl
  | some q =>
   obtain ⟨t, m⟩ := q
   obtain ⟨b1, b2, b3⟩ := nextO_bd hq
   simp only
   split
   ·
    rfl
   ·
    rename_i h
    have := (b2 h).1
    rw [allF_fuel f g m b1 (by omega) (by omega)]
/-- The tokens from a place on. -/
def allA (s : ByteArray) (k : Nat) : Except Nat (List Tok) := allF s (s.size + 2) k
theorem allA_same {s : ByteArray} {j k : Nat} (h : skO s j = skO s k) : allA s j = allA s k := by
 have hn : nextO s j = nextO s k := by unfold nextO; rw [h]
 unfold allA
 rw [allF.eq_2, allF.eq_2, hn, h]
theorem allA_go {s : ByteArray} {k m : Nat} {t : Tok} (hk : k ≤ s.size) (h : nextO s k = some (t, m)) (h0 : t.kd ≠ 0) : allA s k = addA [t] (allA s m) := by
 have := nextO_bd h
 have h1 := (this.2.1 h0).1
 unfold allA
 rw [allF_go (by omega) hk h h0, allF_fuel (s.size + 2 - 1) (s.size + 2) m this.1 (by omega) (by omega)]
theorem allF_ne {s : ByteArray} {f k : Nat} {L : List Tok} (hf : s.size < f + k) (hk : k ≤ s.size) (h : allF s f k = .ok L) : L ≠ [] := by
 have hf0 : f ≠ 0 := by rintro rfl; omega
 obtain ⟨g, rfl⟩ : ∃ g, f = g + 1 := ⟨f - 1, by omega⟩
 rw [allF.eq_2] at h
 cases hq : nextO s k with
 | none => rw [hq] at h; cases h
 | some q =>
  obtain ⟨t, m⟩ := q
  rw [hq] at h
  simp only at h
  split at h
  ·
   injection h with h; rw [← h]; simp
  ·
   cases hr : allF s g m with
   | error e => rw [hr] at h; cases h
   | ok M => rw [hr] at h; injection h with h; rw [← h]; simp
theorem addA_lenW {a : List Tok} : ∀ {r : Except Nat (List Tok)} {L : List Tok}, addA a r = .ok L → ∃ M, r = .ok M ∧ L = a ++ M
 | .ok M, L, h => ⟨M, rfl, by injection h with h; exact h.symm⟩
 | .error e, L, h => by cases h
theorem pre_all {U s : ByteArray} (h : Pre U s) (hn : ∀ k, k < s.size → byt s k ≠ 35) : ∀ f k L, s.size < f + k → k ≤ s.size → allF s f k = .ok L → allA U k = addA L.dropLast (allA U s.size)
 | 0, k, L, hf, hk, hL => by omega
 | f + 1, k, L, hf, hk, hL => by
  have hs := h.size
  obtain ⟨k1, k2, k3⟩ := pre_sk h hn (s.size - k) k (by omega)
  cases hq : nextO s k with
  | none => rw [allF_no hf hk hq] at hL; cases hL
  | some q =>
   obtain ⟨t, m⟩ := q
   obtain ⟨b1, b2, b3⟩ := nextO_bd hq
   by_cases h0 : t.kd = 0
   ·
    rw [allF_end hf hk hq h0] at hL
    injection hL with hL
    subst hL
    have he : skO s k = s.size := by
     unfold nextO at hq
     split at hq
     ·
      omega
     ·
      have := tkO_bd (by omega) hq; omega
    rw [allA_same (k2 he)]
    show _ = addA [] _
    cases allA U s.size <;> rfl
   ·
    rw [allF_go hf hk hq h0] at hL
    obtain ⟨M, hM, rfl⟩ := addA_lenW hL
    obtain ⟨r1, r2, r3⟩ := b2 h0
    have hlt : skO s k < s.size := by omega
    have hqU : nextO U k = some (t, m) := by
     unfold nextO at hq ⊢
     rw [if_neg (by omega)] at hq
     rw [k1 hlt, if_neg (by omega)]
     exact h.tkO hlt hq
    rw [allA_go (by omega) hqU h0, pre_all h hn f m M (by omega) b1 hM, addA_add]
    have hne := allF_ne (by omega) b1 hM
    congr 1
    cases M with
    | nil => exact absurd rfl hne
    | cons x M => rfl
/-- The tokens of a text that stands within another, with a blank, a line's end or ')' behind it. -/
theorem mid_all {U s : ByteArray} {p r : List UInt8} {c : UInt8} (hU : U.data.toList = p ++ (s.data.toList ++ c :: r)) (hc : okC (c.toNat : Int)) (hn : ∀ k, k < s.size → byt s k ≠ 35) {L : List Tok} (hL : allO s = .ok L) :
  allA U p.length = addA (L.dropLast.map (sh p.length)) (allA U (p.length + s.size)) := by
 obtain ⟨V, hV⟩ : ∃ V, ofL (s.data.toList ++ c :: r) = V := ⟨_, rfl⟩
 have hv : V.data.toList = s.data.toList ++ c :: r := by rw [← hV, ofL_list]
 have hP : Pre V s := ⟨c, r, hc, hv⟩
 have hS : Suf U V p.length := ⟨p, by rw [hU, hv], rfl⟩
 have hz := hS.size
 have hs := hP.size
 have h1 := pre_all hP hn _ 0 L (by omega) (Nat.zero_le _) hL
 have e : ∀ k, k ≤ V.size → allA U (p.length + k) = mvA p.length (allA V k) := fun k hk => by
  unfold allA
  rw [hS.allF, allF_fuel (U.size + 2) (V.size + 2) k hk (by omega) (by omega)]
 have e0 := e 0 (Nat.zero_le _)
 rw [Nat.add_zero, h1] at e0
 rw [e0, e s.size (by omega)]
 cases allA V s.size with
 | error x => rfl
 | ok M =>
  show Except.ok ((L.dropLast ++ M).map _) = .ok (_ ++ M.map _)
  rw [List.map_append]
end Go.Proofs.Ytonknapfndaalaa

namespace Go.Proofs.Ytonknapfndaalaa
set_option linter.unusedVariables false
set_option maxRecDepth 1000000
open Go.RowKit Ex
/-- What a answers, b answers, or too many parentheses. -/
def Lg {α : Type} (a b : Except (Int × Int) α) : Prop := ∀ v, a = .ok v → b = .ok v ∨ ∃ p, b = .error (3, p)
theorem Lg.same {α : Type} (a : Except (Int × Int) α) : Lg a a := fun v h => .inl h
theorem Lg.no {α : Type} (e : Int × Int) (b : Except (Int × Int) α) : Lg (.error e) b := fun v h => by cases h
theorem Lg.out {α : Type} (a : Except (Int × Int) α) (p : Int) : Lg a (.error (3, p)) := fun v h => .inr ⟨p, rfl⟩
section
variable {L : List Tok} {X Y : Nat → Rs} {b : Bool}
theorem primO_lg (h : b = false → ∀ j, Lg (X j) (Y j)) (k : Nat) : Lg (primO L X false k) (primO L Y b k) := by
 unfold primO
 by_cases h2 : (tkA L k).kd = 2
 ·
  rw [if_pos h2, if_pos h2]; exact Lg.same _
 rw [if_neg h2, if_neg h2]
 by_cases h3 : (tkA L k).kd = 3
 ·
  rw [if_pos h3, if_pos h3]; exact Lg.same _
 rw [if_neg h3, if_neg h3]
 by_cases h1 : (tkA L k).kd = 1
 ·
  rw [if_pos h1, if_pos h1]; exact Lg.same _
 rw [if_neg h1, if_neg h1]
 by_cases h4 : isS L k [46] = true
 ·
  rw [if_pos h4, if_pos h4]; exact Lg.same _
 rw [if_neg h4, if_neg h4]
 by_cases h5 : isS L k [40] = true
 ·
  rw [if_pos h5, if_pos h5, if_neg (by decide)]
  cases b with
  | true => rw [if_pos rfl]; exact Lg.out _ _
  | false =>
   rw [if_neg (by decide)]
   cases hx : X (k + 1) with
   | error e => exact Lg.no _ _
   | ok q =>
    obtain ⟨y, i⟩ := q
    rcases h rfl (k + 1) _ hx with g | ⟨p, g⟩
    ·
     rw [g]; exact Lg.same _
    ·
     rw [g]; exact Lg.out _ _
 ·
  rw [if_neg h5, if_neg h5]; exact Lg.same _
theorem sufO_lg (h : b = false → ∀ j, Lg (X j) (Y j)) (k : Nat) : Lg (sufO L X false k) (sufO L Y b k) := by
 have hp := primO_lg (L := L) h k
 unfold sufO
 cases hx : primO L X false k with
 | error e => exact Lg.no _ _
 | ok q =>
  obtain ⟨y, i⟩ := q
  rcases hp _ hx with g | ⟨p, g⟩
  ·
   rw [g]; exact Lg.same _
  ·
   rw [g]; exact Lg.out _ _
theorem mapX_lg {f : Ex → Ex} {r s : Rs} (h : Lg r s) : Lg (mapX f r) (mapX f s) := by
 cases r with
 | error e => exact Lg.no _ _
 | ok q =>
  obtain ⟨y, i⟩ := q
  rcases h _ rfl with g | ⟨p, g⟩
  ·
   rw [g]; exact Lg.same _
  ·
   rw [g]; exact Lg.out _ _
theorem preO_lg (h : b = false → ∀ j, Lg (X j) (Y j)) (k : Nat) : Lg (preO L X false k) (preO L Y b k) := by
 unfold preO
 by_cases h1 : isS L k [38] = true
 ·
  rw [if_pos h1, if_pos h1]; exact mapX_lg (sufO_lg h _)
 rw [if_neg h1, if_neg h1]
 by_cases h2 : isS L k [33] = true
 ·
  rw [if_pos h2, if_pos h2]; exact mapX_lg (sufO_lg h _)
 rw [if_neg h2, if_neg h2]
 by_cases h3 : isS L k [126] = true
 ·
  rw [if_pos h3, if_pos h3]
  cases hx : sufO L X false (k + 1) with
  | error e => exact Lg.no _ _
  | ok q =>
   obtain ⟨y, i⟩ := q
   rcases sufO_lg h (k + 1) _ hx with g | ⟨p, g⟩
   ·
    rw [g]; exact Lg.same _
   ·
    rw [g]; exact Lg.out _ _
 rw [if_neg h3, if_neg h3]
 by_cases h4 : ((tkA L k).kd == 1 && decide (k + 1 < L.length) && isS L (k + 1) [58]) = true
 ·
  rw [if_pos h4, if_pos h4]
  by_cases h5 : wordB (tkA L k).tx = true
  ·
   rw [if_pos h5, if_pos h5]; exact mapX_lg (sufO_lg h _)
  ·
   rw [if_neg h5, if_neg h5]; exact Lg.same _
 ·
  rw [if_neg h4, if_neg h4]; exact sufO_lg h _
end
section
variable {L : List Tok} {P Q : Nat → Rs}
theorem seqL_lg (h : ∀ j, Lg (P j) (Q j)) : ∀ (f : Nat) (A : List Ex) (k : Nat), Lg (seqL L P f A k) (seqL L Q f A k)
 | 0, A, k => Lg.same _
 | f + 1, A, k => by
  unfold seqL
  by_cases h1 : startsO L k = true
  ·
   rw [if_pos h1, if_pos h1]
   cases hx : P k with
   | error e => exact Lg.no _ _
   | ok q =>
    obtain ⟨y, i⟩ := q
    rcases h k _ hx with g | ⟨p, g⟩
    ·
     rw [g]; exact seqL_lg h f _ i
    ·
     rw [g]; exact Lg.out _ _
  ·
   rw [if_neg h1, if_neg h1]; exact Lg.same _
theorem seqO_lg (h : ∀ j, Lg (P j) (Q j)) (k : Nat) : Lg (seqO L P k) (seqO L Q k) := by
 unfold seqO
 cases hx : P k with
 | error e => exact Lg.no _ _
 | ok q =>
  obtain ⟨y, i⟩ := q
  rcases h k _ hx with g | ⟨p, g⟩
  ·
   rw [g]
   simp only
   cases hy : seqL L P (L.length + 1) [y] i with
   | error e => exact Lg.no _ _
   | ok q =>
    obtain ⟨K, m⟩ := q
    rcases seqL_lg h _ _ _ _ hy with g | ⟨p, g⟩
    ·
     rw [g]; exact Lg.same _
    ·
     rw [g]; exact Lg.out _ _
  ·
   rw [g]; exact Lg.out _ _
theorem chL_lg (h : ∀ j, Lg (P j) (Q j)) : ∀ (f : Nat) (A : List Ex) (k : Nat), Lg (chL L P f A k) (chL L Q f A k)
 | 0, A, k => Lg.same _
 | f + 1, A, k => by
  unfold chL
  by_cases h1 : isS L k [47] = true
  ·
   rw [if_pos h1, if_pos h1]
   cases hx : P (k + 1) with
   | error e => exact Lg.no _ _
   | ok q =>
    obtain ⟨y, i⟩ := q
    rcases h (k + 1) _ hx with g | ⟨p, g⟩
    ·
     rw [g]; exact chL_lg h f _ i
    ·
     rw [g]; exact Lg.out _ _
  ·
   rw [if_neg h1, if_neg h1]; exact Lg.same _
theorem chO_lg (h : ∀ j, Lg (P j) (Q j)) (k : Nat) : Lg (chO L P k) (chO L Q k) := by
 unfold chO
 cases hx : P k with
 | error e => exact Lg.no _ _
 | ok q =>
  obtain ⟨y, i⟩ := q
  rcases h k _ hx with g | ⟨p, g⟩
  ·
   rw [g]
   simp only
   cases hy : chL L P (L.length + 1) [y] i with
   | error e => exact Lg.no _ _
   | ok q =>
    obtain ⟨K, m⟩ := q
    rcases chL_lg h _ _ _ _ hy with g | ⟨p, g⟩
    ·
     rw [g]; exact Lg.same _
    ·
     rw [g]; exact Lg.out _ _
  ·
   rw [g]; exact Lg.out _ _
end
/-- With one parenthesis fewer to spare: the same, or too many. -/
theorem exO_lg (L : List Tok) : ∀ (d k : Nat), Lg (exO L (d + 1) k) (exO L d k)
 | 0, k => chO_lg (seqO_lg (preO_lg (b := true) fun h => by cases h)) k
 | d + 1, k => chO_lg (seqO_lg (preO_lg (b := false) fun _ => exO_lg L d)) k
end Go.Proofs.Ytonknapfndaalaa

namespace Go.Proofs.Ytonknapfndaalaa
set_option linter.unusedVariables false
set_option maxRecDepth 1000000
open Go.RowKit Ex
/-- The n tokens of L lie in M from a on; there ends L, and in M stands ')'. -/
structure Mv (L M : List Tok) (n a : Nat) : Prop where
 len : n < L.length
 lenM : a + n < M.length
 tok : ∀ k, k < n → (tkA M (a + k)).k = (tkA L k).k
 out : (tkA L n).kd = 0
 cls : (tkA M (a + n)).k = sgT [41]
def Sg (n a : Nat) (r r' : Rs) : Prop := (∀ x m, r = .ok (x, m) → m ≤ n ∧ r' = .ok (x, a + m)) ∧ ∀ p, r = .error (3, p) → ∃ p', r' = .error (3, p')
theorem Sg.no {n a : Nat} (k : Nat) (L : List Tok) (r : Rs) : Sg n a (badF L 2 k) r := ⟨fun x m h => (by unfold badF at h; cases h), fun p h => (by unfold badF at h; injection h with h; injection h with h1 h2; exact absurd h1 (by decide))⟩
theorem Sg.big {n a : Nat} (k j : Nat) (L M : List Tok) : Sg n a (badF L 3 k) (badF M 3 j) := ⟨fun x m h => (by unfold badF at h; cases h), fun p h => ⟨_, rfl⟩⟩
theorem Sg.err {n a : Nat} {e : Int × Int} {r : Rs} (h : ∀ p, e = (3, p) → ∃ p', r = .error (3, p')) : Sg n a (.error e) r := ⟨fun x m h => (by cases h), fun p g => h p (by injection g)⟩
theorem Sg.ok {n a m : Nat} {x : Ex} (h : m ≤ n) : Sg n a (.ok (x, m)) (.ok (x, a + m)) := ⟨fun y i e => by
 injection e with e
 injection e with e1 e2
 subst e1 e2
 exact ⟨h, rfl⟩, fun p e => by cases e⟩
section
variable {L M : List Tok} {n a : Nat}
theorem Mv.kd (h : Mv L M n a) {k : Nat} (hk : k < n) : (tkA M (a + k)).kd = (tkA L k).kd := congrArg (·.1) (h.tok k hk)
theorem Mv.tx (h : Mv L M n a) {k : Nat} (hk : k < n) : (tkA M (a + k)).tx = (tkA L k).tx := congrArg (·.2.1) (h.tok k hk)
theorem Mv.st (h : Mv L M n a) {k : Nat} (hk : k < n) : (tkA M (a + k)).st = (tkA L k).st := congrArg (·.2.2) (h.tok k hk)
theorem Mv.is (h : Mv L M n a) {k : Nat} (hk : k < n) (s : List UInt8) : isS M (a + k) s = isS L k s := by unfold isS; rw [h.kd hk, h.tx hk]
theorem Mv.at_end (h : Mv L M n a) (s : List UInt8) : isS L n s = false := by unfold isS; rw [h.out]; rfl
theorem isT_sgW (l s : List UInt8) : isT (sgT l) s = (l == s) := by unfold isT sgT; rw [ofL_list]; rfl
theorem Mv.sg (h : Mv L M n a) {k : Nat} (hk : k ≤ n) {s : List UInt8} (hs : ([41] == s) = false) : isS M (a + k) s = isS L k s := by
 rcases Nat.lt_or_ge k n with g | g
 ·
  exact h.is g s
 ·
  obtain rfl : k = n := by omega
  rw [h.at_end, isS_is h.cls, isT_sgW, hs]
theorem Mv.lt (h : Mv L M n a) {k : Nat} (hk : k ≤ n) (g : (tkA L k).kd ≠ 0) : k < n := by
 rcases Nat.lt_or_ge k n with q | q
 ·
  exact q
 ·
  obtain rfl : k = n := by omega
  exact absurd h.out g
theorem Mv.lts (h : Mv L M n a) {k : Nat} (hk : k ≤ n) {s : List UInt8} (g : isS L k s = true) : k < n := h.lt hk fun e => by
 unfold isS at g
 rw [e] at g
 cases g
theorem Mv.starts (h : Mv L M n a) {k : Nat} (hk : k ≤ n) : startsO M (a + k) = startsO L k := by
 unfold startsO
 rw [h.sg hk (by decide), h.sg hk (by decide), h.sg hk (by decide), h.sg hk (by decide), h.sg hk (by decide)]
 rcases Nat.lt_or_ge k n with g | g
 ·
  rw [h.kd g]
 ·
  obtain rfl : k = n := by omega
  rw [h.out, (tk_parts (show (tkA M (a + k)).k = (4, ofL [41], set0) from h.cls)).1]
  rfl
variable {X Y : Nat → Rs} {b : Bool}
theorem refO_sg (h : Mv L M n a) {k : Nat} (hk : k < n) : Sg n a (refO L k) (refO M (a + k)) := by
 unfold refO
 rw [h.tx hk]
 by_cases h1 : wordB (tkA L k).tx = true
 ·
  rw [if_pos h1, if_pos h1, Nat.add_assoc, h.sg (k := k + 1) (by omega) (by decide)]
  by_cases h2 : isS L (k + 1) [58, 58] = true
  ·
   have hk1 := h.lts (by omega) h2
   rw [if_pos h2, if_pos h2]
   by_cases h3 : ((tkA L (k + 2)).kd == 1 && wordB (tkA L (k + 2)).tx) = true
   ·
    have hk2 : k + 2 < n := h.lt (by omega) fun e => by rw [e] at h3; cases h3
    rw [if_pos h3, Nat.add_assoc, h.kd hk2, h.tx hk2, if_pos h3]
    exact Sg.ok (by omega)
   ·
    rw [if_neg h3]; exact Sg.no _ _ _
  ·
   rw [if_neg h2, if_neg h2]
   exact Sg.ok (by omega)
 ·
  rw [if_neg h1]; exact Sg.no _ _ _
theorem primO_sg (h : Mv L M n a) (hX : b = false → ∀ j, j ≤ n → Sg n a (X j) (Y (a + j))) {k : Nat} (hk : k ≤ n) : Sg n a (primO L X b k) (primO M Y b (a + k)) := by
 rcases Nat.lt_or_ge k n with hlt | hge
 ·
  unfold primO
  rw [h.kd hlt, h.tx hlt, h.st hlt, h.is hlt, h.is hlt]
  by_cases h2 : (tkA L k).kd = 2
  ·
   rw [if_pos h2, if_pos h2]; exact Sg.ok (by omega)
  rw [if_neg h2, if_neg h2]
  by_cases h3 : (tkA L k).kd = 3
  ·
   rw [if_pos h3, if_pos h3]; exact Sg.ok (by omega)
  rw [if_neg h3, if_neg h3]
  by_cases h1 : (tkA L k).kd = 1
  ·
   rw [if_pos h1, if_pos h1]; exact refO_sg h hlt
  rw [if_neg h1, if_neg h1]
  by_cases h4 : isS L k [46] = true
  ·
   rw [if_pos h4, if_pos h4]; exact Sg.ok (by omega)
  rw [if_neg h4, if_neg h4]
  by_cases h5 : isS L k [40] = true
  ·
   rw [if_pos h5, if_pos h5]
   cases b with
   | true => rw [if_pos rfl, if_pos rfl]; exact Sg.big _ _ _ _
   | false =>
    rw [if_neg (by decide), if_neg (by decide), Nat.add_assoc]
    cases hx : X (k + 1) with
    | error e =>
     exact Sg.err fun p he => by
      subst he
      obtain ⟨p', g⟩ := (hX rfl (k + 1) (by omega)).2 p hx
      exact ⟨p', by rw [g]⟩
    | ok q =>
     obtain ⟨y, i⟩ := q
     obtain ⟨g1, g2⟩ := (hX rfl (k + 1) (by omega)).1 _ _ hx
     rw [g2]
     simp only
     by_cases h6 : isS L i [41] = true
     ·
      have hi := h.lts g1 h6
      rw [if_pos h6, h.is hi, if_pos h6]
      exact Sg.ok (by omega)
     ·
      rw [if_neg h6]; exact Sg.no _ _ _
  ·
   rw [if_neg h5]; exact Sg.no _ _ _
 ·
  obtain rfl : k = n := by omega
  unfold primO
  rw [h.out, if_neg (by decide), if_neg (by decide), if_neg (by decide), h.at_end, h.at_end, if_neg (by decide), if_neg (by decide)]
  exact Sg.no _ _ _
theorem sufO_sg (h : Mv L M n a) (hX : b = false → ∀ j, j ≤ n → Sg n a (X j) (Y (a + j))) {k : Nat} (hk : k ≤ n) : Sg n a (sufO L X b k) (sufO M Y b (a + k)) := by
 have hp := primO_sg h hX hk
 unfold sufO
 cases hx : primO L X b k with
 | error e =>
  exact Sg.err fun p he => by
   subst he
   obtain ⟨p', g⟩ := hp.2 p hx
   exact ⟨p', by rw [g]⟩
 | ok q =>
  obtain ⟨y, i⟩ := q
  obtain ⟨g1, g2⟩ := hp.1 _ _ hx
  rw [g2]
  simp only
  rw [h.sg g1 (by decide), h.sg g1 (by decide), h.sg g1 (by decide)]
  by_cases h1 : isS L i [42] = true
  ·
   rw [if_pos h1, if_pos h1]; exact Sg.ok (h.lts g1 h1)
  rw [if_neg h1, if_neg h1]
  by_cases h2 : isS L i [43] = true
  ·
   rw [if_pos h2, if_pos h2]; exact Sg.ok (h.lts g1 h2)
  rw [if_neg h2, if_neg h2]
  by_cases h3 : isS L i [63] = true
  ·
   rw [if_pos h3, if_pos h3]; exact Sg.ok (h.lts g1 h3)
  rw [if_neg h3, if_neg h3]
  exact Sg.ok g1
theorem mapX_sg {f : Ex → Ex} {r s : Rs} (h : Sg n a r s) : Sg n a (mapX f r) (mapX f s) := by
 cases r with
 | error e =>
  exact Sg.err fun p he => by
   subst he
   obtain ⟨p', g⟩ := h.2 p rfl
   exact ⟨p', by rw [g]; rfl⟩
 | ok q =>
  obtain ⟨y, i⟩ := q
  obtain ⟨g1, g2⟩ := h.1 _ _ rfl
  rw [g2]; exact Sg.ok g1
theorem preO_sg (h : Mv L M n a) (hX : b = false → ∀ j, j ≤ n → Sg n a (X j) (Y (a + j))) {k : Nat} (hk : k ≤ n) : Sg n a (preO L X b k) (preO M Y b (a + k)) := by
 unfold preO
 rw [h.sg hk (by decide), h.sg hk (by decide), h.sg hk (by decide), Nat.add_assoc, Nat.add_assoc]
 by_cases h1 : isS L k [38] = true
 ·
  rw [if_pos h1, if_pos h1]; exact mapX_sg (sufO_sg h hX (h.lts hk h1))
 rw [if_neg h1, if_neg h1]
 by_cases h2 : isS L k [33] = true
 ·
  rw [if_pos h2, if_pos h2]; exact mapX_sg (sufO_sg h hX (h.lts hk h2))
 rw [if_neg h2, if_neg h2]
 by_cases h3 : isS L k [126] = true
 ·
  rw [if_pos h3, if_pos h3]
  cases hx : sufO L X b (k + 1) with
  | error e =>
   exact Sg.err fun p he => by
    subst he
    obtain ⟨p', g⟩ := (sufO_sg h hX (h.lts hk h3)).2 p hx
    exact ⟨p', by rw [g]⟩
  | ok q =>
   obtain ⟨y, i⟩ := q
   obtain ⟨g1, g2⟩ := (sufO_sg h hX (h.lts hk h3)).1 _ _ hx
   rw [g2]
   simp only
   rw [h.sg g1 (by decide)]
   by_cases h6 : isS L i [126] = true
   ·
    rw [if_pos h6, if_pos h6]; exact Sg.ok (h.lts g1 h6)
   ·
    rw [if_neg h6]; exact Sg.no _ _ _
 rw [if_neg h3, if_neg h3]
 rcases Nat.lt_or_ge k n with hlt | hge
 ·
  rw [h.kd hlt, h.tx hlt, h.sg (k := k + 1) (by omega) (by decide), decide_eq_true (show k + 1 < L.length by have := h.len; omega), decide_eq_true (show a + (k + 1) < M.length by have := h.lenM; omega)]
  by_cases h4 : ((tkA L k).kd == 1 && true && isS L (k + 1) [58]) = true
  ·
   have hk1 : k + 1 < n := h.lts (by omega) (by rw [Bool.and_eq_true] at h4; exact h4.2)
   rw [if_pos h4, if_pos h4]
   by_cases h5 : wordB (tkA L k).tx = true
   ·
    rw [if_pos h5, if_pos h5]; exact mapX_sg (sufO_sg h hX (by omega))
   ·
    rw [if_neg h5]; exact Sg.no _ _ _
  ·
   rw [if_neg h4, if_neg h4]; exact sufO_sg h hX hk
 ·
  obtain rfl : k = n := by omega
  rw [h.out, (tk_parts (show (tkA M (a + k)).k = (4, ofL [41], set0) from h.cls)).1, if_neg (by simp), if_neg (by simp)]
  exact sufO_sg h hX hk
end
def Sl (n a : Nat) (r r' : Except (Int × Int) (List Ex × Nat)) : Prop := (∀ K m, r = .ok (K, m) → m ≤ n ∧ r' = .ok (K, a + m)) ∧ ∀ p, r = .error (3, p) → ∃ p', r' = .error (3, p')
theorem Sl.err {n a : Nat} {e : Int × Int} {r : Except (Int × Int) (List Ex × Nat)} (h : ∀ p, e = (3, p) → ∃ p', r = .error (3, p')) : Sl n a (.error e) r := ⟨fun x m h => (by cases h), fun p g => h p (by injection g)⟩
theorem Sl.ok {n a m : Nat} {K : List Ex} (h : m ≤ n) : Sl n a (.ok (K, m)) (.ok (K, a + m)) := ⟨fun y i e => by
 injection e with e
 injection e with e1 e2
 subst e1 e2
 exact ⟨h, rfl⟩, fun p e => by cases e⟩
section
variable {L M : List Tok} {n a : Nat} {P Q : Nat → Rs}
theorem seqL_sg (h : Mv L M n a) (hP : ∀ j, j ≤ n → Sg n a (P j) (Q (a + j))) (hB : ∀ j x m, P j = .ok (x, m) → j < m) : ∀ (f f' : Nat) (A : List Ex) (k : Nat), k ≤ n → n < f + k → n < f' + k → Sl n a (seqL L P f A k) (seqL M Q f' A (a + k))
 | 0, f', A, k, hk, h1, _ => by omega
 | f + 1, 0, A, k, hk, _, h1 => by omega
 | f + 1, f' + 1, A, k, hk, h1, h2 => by
  unfold seqL
  rw [h.starts hk]
  by_cases g : startsO L k = true
  ·
   rw [if_pos g, if_pos g]
   cases hx : P k with
   | error e =>
    exact Sl.err fun p he => by
     subst he
     obtain ⟨p', g⟩ := (hP k hk).2 p hx
     exact ⟨p', by rw [g]⟩
   | ok q =>
    obtain ⟨y, i⟩ := q
    obtain ⟨g1, g2⟩ := (hP k hk).1 _ _ hx
    rw [g2]
    have := hB k y i hx
    exact seqL_sg h hP hB f f' _ i g1 (by omega) (by omega)
  ·
   rw [if_neg g, if_neg g]; exact Sl.ok hk
theorem seqO_sg (h : Mv L M n a) (hP : ∀ j, j ≤ n → Sg n a (P j) (Q (a + j))) (hB : ∀ j x m, P j = .ok (x, m) → j < m) {k : Nat} (hk : k ≤ n) : Sg n a (seqO L P k) (seqO M Q (a + k)) := by
 unfold seqO
 cases hx : P k with
 | error e =>
  exact Sg.err fun p he => by
   subst he
   obtain ⟨p', g⟩ := (hP k hk).2 p hx
   exact ⟨p', by rw [g]⟩
 | ok q =>
  obtain ⟨y, i⟩ := q
  obtain ⟨g1, g2⟩ := (hP k hk).1 _ _ hx
  rw [g2]
  simp only
  cases hy : seqL L P (L.length + 1) [y] i with
  | error e =>
   exact Sg.err fun p he => by
    subst he
    obtain ⟨p', g⟩ := (seqL_sg h hP hB _ (M.length + 1) _ i g1 (by have := h.len; omega) (by have := h.lenM; omega)).2 p hy
    exact ⟨p', by rw [g]⟩
  | ok q =>
   obtain ⟨K, m⟩ := q
   obtain ⟨g3, g4⟩ := (seqL_sg h hP hB _ (M.length + 1) _ i g1 (by have := h.len; omega) (by have := h.lenM; omega)).1 _ _ hy
   rw [g4]; exact Sg.ok g3
theorem chL_sg (h : Mv L M n a) (hP : ∀ j, j ≤ n → Sg n a (P j) (Q (a + j))) (hB : ∀ j x m, P j = .ok (x, m) → j < m) : ∀ (f f' : Nat) (A : List Ex) (k : Nat), k ≤ n → n < f + k → n < f' + k → Sl n a (chL L P f A k) (chL M Q f' A (a + k))
 | 0, f', A, k, hk, h1, _ => by omega
 | f + 1, 0, A, k, hk, _, h1 => by omega
 | f + 1, f' + 1, A, k, hk, h1, h2 => by
  unfold chL
  rw [h.sg hk (by decide)]
  by_cases g : isS L k [47] = true
  ·
   have hk1 := h.lts hk g
   rw [if_pos g, if_pos g, Nat.add_assoc]
   cases hx : P (k + 1) with
   | error e =>
    exact Sl.err fun p he => by
     subst he
     obtain ⟨p', g⟩ := (hP (k + 1) hk1).2 p hx
     exact ⟨p', by rw [g]⟩
   | ok q =>
    obtain ⟨y, i⟩ := q
    obtain ⟨g1, g2⟩ := (hP (k + 1) hk1).1 _ _ hx
    rw [g2]
    have := hB (k + 1) y i hx
    exact chL_sg h hP hB f f' _ i g1 (by omega) (by omega)
  ·
   rw [if_neg g, if_neg g]; exact Sl.ok hk
theorem chO_sg (h : Mv L M n a) (hP : ∀ j, j ≤ n → Sg n a (P j) (Q (a + j))) (hB : ∀ j x m, P j = .ok (x, m) → j < m) {k : Nat} (hk : k ≤ n) : Sg n a (chO L P k) (chO M Q (a + k)) := by
 unfold chO
 cases hx : P k with
 | error e =>
  exact Sg.err fun p he => by
   subst he
   obtain ⟨p', g⟩ := (hP k hk).2 p hx
   exact ⟨p', by rw [g]⟩
 | ok q =>
  obtain ⟨y, i⟩ := q
  obtain ⟨g1, g2⟩ := (hP k hk).1 _ _ hx
  rw [g2]
  simp only
  cases hy : chL L P (L.length + 1) [y] i with
  | error e =>
   exact Sg.err fun p he => by
    subst he
    obtain ⟨p', g⟩ := (chL_sg h hP hB _ (M.length + 1) _ i g1 (by have := h.len; omega) (by have := h.lenM; omega)).2 p hy
    exact ⟨p', by rw [g]⟩
  | ok q =>
   obtain ⟨K, m⟩ := q
   obtain ⟨g3, g4⟩ := (chL_sg h hP hB _ (M.length + 1) _ i g1 (by have := h.len; omega) (by have := h.lenM; omega)).1 _ _ hy
   rw [g4]; exact Sg.ok g3
theorem ex_sg {b : Bool} {X Y : Nat → Rs} (h : Mv L M n a) (hX : b = false → ∀ j, j ≤ n → Sg n a (X j) (Y (a + j))) (hB : ∀ j, Bd L j (X j)) {k : Nat} (hk : k ≤ n) : Sg n a (chO L (seqO L (preO L X b)) k) (chO M (seqO M (preO M Y b)) (a + k)) :=
 chO_sg h (fun j hj => seqO_sg h (fun i hi => preO_sg h hX hi) (fun i x m e => (preO_bd hB i x m e).1) hj) (fun j x m e => (seqO_bd (preO_bd hB) j x m e).1) hk
/-- What is read of L is read within M. -/
theorem exO_sg (h : Mv L M n a) : ∀ (d k : Nat), k ≤ n → Sg n a (exO L d k) (exO M d (a + k))
 | 0, k, hk => ex_sg (b := true) h (fun g => by cases g) (fun j => Bd.err _) hk
 | d + 1, k, hk => ex_sg (b := false) h (fun _ j hj => exO_sg h d j hj) (fun j => exO_bd d j) hk
end
end Go.Proofs.Ytonknapfndaalaa
