/- The law TokenJoins: what stands behind a text's beginning, and ahead of a blank, is read as if it stood alone; and the walk. -/
import Derived.Test.YtinkgidncdjapabTells05
namespace Go.Proofs.Ytinkgidncdjapab
set_option linter.unusedVariables false
open Go.RowKit

/-- U is d bytes, and then t. -/
def Suf (U t : ByteArray) (d : Nat) : Prop := ∃ pre, U.data.toList = pre ++ t.data.toList ∧ pre.length = d
section
variable {U t : ByteArray} {d : Nat}
theorem Suf.size (h : Suf U t d) : U.size = d + t.size := by
  obtain ⟨pre, h, hd⟩ := h
  have h1 : U.data.toList.length = U.size := by simp
  have h2 : t.data.toList.length = t.size := by simp
  rw [← h1, h, List.length_append, hd, h2]
theorem Suf.byt (h : Suf U t d) (k : Nat) : byt U (d + k) = byt t k := by
  obtain ⟨pre, h, hd⟩ := h
  unfold Go.Proofs.Ytinkgidncdjapab.byt
  rw [h, List.getD_eq_getElem?_getD, List.getD_eq_getElem?_getD, List.getElem?_append_right (by omega), hd, Nat.add_sub_cancel_left]
theorem Suf.cut (h : Suf U t d) (a b : Nat) : U.extract (d + a) (d + b) = t.extract a b := by
  obtain ⟨pre, h, hd⟩ := h
  apply bytes_eq
  rw [ByteArray.data_extract, ByteArray.data_extract]
  simp only [Array.toList_extract, List.extract_eq_take_drop]
  rw [h, show d + b - (d + a) = b - a by omega, ← hd, List.drop_append, List.drop_of_length_le (by omega), List.nil_append, Nat.add_sub_cancel_left]
theorem Suf.stand (h : Suf U t d) (k : Nat) (c : Int) : standB U ((d + k : Nat) : Int) c = standB t (k : Int) c := by
  have := h.size
  by_cases g : k < t.size
  · rw [stand_in g, stand_in (by omega), h.byt]
  · rw [stand_out g, stand_out (by omega)]
def mv (d : Nat) {α : Type} : Option (α × Nat) → Option (α × Nat)
  | none => none
  | some (x, m) => some (x, d + m)
theorem Suf.hexN (h : Suf U t d) (a : Nat) : ∀ m, hexN U (d + a) m = hexN t a m
  | 0 => rfl
  | m + 1 => by
    have hs := h.size
    show (if Go.Proofs.Ytinkgidncdjapab.hexN U (d + a) m = m ∧ d + a + m < U.size ∧ 0 ≤ hexV (Go.Proofs.Ytinkgidncdjapab.byt U (d + a + m)) then m + 1 else Go.Proofs.Ytinkgidncdjapab.hexN U (d + a) m) = (if Go.Proofs.Ytinkgidncdjapab.hexN t a m = m ∧ a + m < t.size ∧ 0 ≤ hexV (Go.Proofs.Ytinkgidncdjapab.byt t (a + m)) then m + 1 else Go.Proofs.Ytinkgidncdjapab.hexN t a m)
    rw [h.hexN a m, Nat.add_assoc, h.byt]
    by_cases g : Go.Proofs.Ytinkgidncdjapab.hexN t a m = m ∧ a + m < t.size ∧ 0 ≤ hexV (Go.Proofs.Ytinkgidncdjapab.byt t (a + m))
    · rw [if_pos g, if_pos ⟨g.1, by omega, g.2.2⟩]
    · rw [if_neg g, if_neg (fun q => g ⟨q.1, by omega, q.2.2⟩)]
theorem Suf.valN (h : Suf U t d) (a : Nat) : ∀ m, valN U (d + a) m = valN t a m
  | 0 => rfl
  | m + 1 => by
    show Go.Proofs.Ytinkgidncdjapab.valN U (d + a) m * 16 + hexV (Go.Proofs.Ytinkgidncdjapab.byt U (d + a + m)) = Go.Proofs.Ytinkgidncdjapab.valN t a m * 16 + hexV (Go.Proofs.Ytinkgidncdjapab.byt t (a + m))
    rw [h.valN a m, Nat.add_assoc, h.byt]
theorem Suf.signO (h : Suf U t d) (a : Nat) : signO U (d + a) = mv d (signO t a) := by
  unfold Go.Proofs.Ytinkgidncdjapab.signO
  rw [h.hexN, h.valN, show d + a + Go.Proofs.Ytinkgidncdjapab.hexN t a 6 = d + (a + Go.Proofs.Ytinkgidncdjapab.hexN t a 6) by omega, h.stand]
  split
  · rfl
  · rfl
theorem Suf.escO (h : Suf U t d) (k : Nat) (sp : ByteArray) : escO U (d + k) sp = mv d (escO t k sp) := by
  have hs := h.size
  by_cases g : k < t.size
  · rw [escO_at g rfl, escO_at (show d + k < U.size by omega) (h.byt k), show d + k + 1 = d + (k + 1) by omega, show d + k + 2 = d + (k + 2) by omega, h.hexN, h.valN, h.stand, h.signO]
    split
    · rfl
    · split
      · rfl
      · split
        · rfl
        · split
          · split <;> rfl
          · split <;> rfl
  · rw [escO_out g, escO_out (by omega)]; rfl
theorem Suf.readO (h : Suf U t d) (k : Nat) (sp : ByteArray) : readO U (d + k) sp = mv d (readO t k sp) := by
  have hs := h.size
  by_cases g : k < t.size
  · rw [readO_at g rfl, readO_at (show d + k < U.size by omega) (h.byt k), show d + k + 1 = d + (k + 1) by omega, h.escO]
    split
    · rfl
    · split <;> rfl
  · rw [readO_out g, readO_out (by omega)]; rfl
theorem Suf.txtF (h : Suf U t d) : ∀ f k out, txtF U f (d + k) out = mv d (txtF t f k out)
  | 0, k, out => rfl
  | f + 1, k, out => by
    have hs := h.size
    rw [txtF.eq_2, txtF.eq_2, h.byt, h.readO]
    by_cases g : k < t.size
    · rw [if_pos g, if_pos (by omega)]
      split
      · split <;> rfl
      · cases hq : Go.Proofs.Ytinkgidncdjapab.readO t k spT with
        | none => rfl
        | some q => obtain ⟨u, m⟩ := q; exact h.txtF f m _
    · rw [if_neg g, if_neg (by omega)]; rfl
theorem Suf.sglO (h : Suf U t d) (k : Nat) : sglO U (d + k) = mv d (sglO t k) := by
  unfold Go.Proofs.Ytinkgidncdjapab.sglO
  rw [h.readO]
  cases Go.Proofs.Ytinkgidncdjapab.readO t k spC with
  | none => rfl
  | some q =>
    obtain ⟨u, m⟩ := q
    show (if _ then _ else _) = mv d (if _ then _ else _)
    split <;> rfl
theorem Suf.rowO (h : Suf U t d) (k : Nat) : rowO U (d + k) = mv d (rowO t k) := by
  unfold Go.Proofs.Ytinkgidncdjapab.rowO
  rw [h.sglO]
  cases Go.Proofs.Ytinkgidncdjapab.sglO t k with
  | none => rfl
  | some q =>
    obtain ⟨lo, m⟩ := q
    show (if standB U ((d + m : Nat) : Int) 45 = true then _ else _) = mv d (if standB t (m : Int) 45 = true then _ else _)
    rw [h.stand, show d + m + 1 = d + (m + 1) by omega, h.sglO]
    split
    · cases Go.Proofs.Ytinkgidncdjapab.sglO t (m + 1) with
      | none => rfl
      | some q =>
        obtain ⟨hi, m'⟩ := q
        show (if _ then _ else _) = mv d (if _ then _ else _)
        split <;> rfl
    · rfl
theorem Suf.rwsF (h : Suf U t d) : ∀ f k x, rwsF U f (d + k) x = mv d (rwsF t f k x)
  | 0, k, x => rfl
  | f + 1, k, x => by
    rw [rwsF.eq_2, rwsF.eq_2, h.rowO]
    cases Go.Proofs.Ytinkgidncdjapab.rowO t k with
    | none => rfl
    | some q =>
      obtain ⟨⟨lo, hi⟩, m⟩ := q
      show (if standB U ((d + m : Nat) : Int) 93 = true then _ else _) = mv d (if standB t (m : Int) 93 = true then _ else _)
      rw [h.stand]
      split
      · rfl
      · exact h.rwsF f m _
end
/-- More fuel changes nothing. -/
theorem txtF_fuel {s : ByteArray} : ∀ f g k out, s.size < f + k → s.size < g + k → txtF s f k out = txtF s g k out
  | 0, g, k, out, h1, h2 => by rw [txtF_out (by omega), txtF_out (by omega)]
  | f + 1, 0, k, out, h1, h2 => by rw [txtF_out (by omega), txtF_out (by omega)]
  | f + 1, g + 1, k, out, h1, h2 => by
    rw [txtF.eq_2, txtF.eq_2]
    split
    · split
      · rfl
      · cases hq : readO s k spT with
        | none => rfl
        | some q => obtain ⟨u, m⟩ := q; have := readO_bd hq; exact txtF_fuel f g m _ (by omega) (by omega)
    · rfl
theorem rwsF_out {s : ByteArray} {f k : Nat} {x : Set4} (h : ¬ k < s.size) : rwsF s f k x = none := rwsF_no (rowO_none (sglO_none (readO_out h)))
theorem rwsF_fuel {s : ByteArray} : ∀ f g k x, s.size < f + k → s.size < g + k → rwsF s f k x = rwsF s g k x
  | 0, g, k, x, h1, h2 => by rw [rwsF_out (by omega), rwsF_out (by omega)]
  | f + 1, 0, k, x, h1, h2 => by rw [rwsF_out (by omega), rwsF_out (by omega)]
  | f + 1, g + 1, k, x, h1, h2 => by
    rw [rwsF.eq_2, rwsF.eq_2]
    cases hq : rowO s k with
    | none => rfl
    | some q =>
      obtain ⟨⟨lo, hi⟩, m⟩ := q
      have := rowO_bd hq
      simp only
      split
      · rfl
      · exact rwsF_fuel f g m _ (by omega) (by omega)
theorem skF_fuel {s : ByteArray} : ∀ f g k, s.size < f + k → s.size < g + k → skF s f k = skF s g k
  | 0, g, k, h1, h2 => by rw [skF_out (by omega), skF_out (by omega)]
  | f + 1, 0, k, h1, h2 => by rw [skF_out (by omega), skF_out (by omega)]
  | f + 1, g + 1, k, h1, h2 => by
    rw [skF.eq_2, skF.eq_2]
    split
    · rename_i hk
      split
      · exact skF_fuel f g (k + 1) (by omega) (by omega)
      · split
        · rename_i h35
          have := ntO_pos hk h35
          exact skF_fuel f g _ (by omega) (by omega)
        · rfl
    · rfl
theorem runB_fuel {P : Int → Bool} {s : ByteArray} : ∀ f g k, s.size ≤ f + k → s.size ≤ g + k → runB P s f k = runB P s g k
  | 0, 0, k, h1, h2 => rfl
  | 0, g + 1, k, h1, h2 => by
    show 0 = runB P s (g + 1) k
    unfold runB; rw [if_neg (by omega)]
  | f + 1, 0, k, h1, h2 => by
    show runB P s (f + 1) k = 0
    unfold runB; rw [if_neg (by omega)]
  | f + 1, g + 1, k, h1, h2 => by
    unfold runB
    rw [runB_fuel f g (k + 1) (by omega) (by omega)]
section
variable {U t : ByteArray} {d : Nat}
theorem Suf.runB (h : Suf U t d) (P : Int → Bool) : ∀ f k, runB P U f (d + k) = runB P t f k
  | 0, k => rfl
  | f + 1, k => by
    have hs := h.size
    unfold Go.Proofs.Ytinkgidncdjapab.runB
    rw [h.byt, show d + k + 1 = d + (k + 1) by omega, h.runB P f (k + 1)]
    by_cases g : k < t.size ∧ P (Go.Proofs.Ytinkgidncdjapab.byt t k) = true
    · rw [if_pos g, if_pos ⟨by omega, g.2⟩]
    · rw [if_neg g, if_neg (fun q => g ⟨by omega, q.2⟩)]
theorem Suf.nmO (h : Suf U t d) (k : Nat) : nmO U (d + k) = nmO t k := by
  have hs := h.size
  unfold Go.Proofs.Ytinkgidncdjapab.nmO
  rw [h.runB, runB_fuel U.size t.size k (by omega) (by omega)]
theorem Suf.ntO (h : Suf U t d) (k : Nat) : ntO U (d + k) = ntO t k := by
  have hs := h.size
  unfold Go.Proofs.Ytinkgidncdjapab.ntO
  rw [h.runB, runB_fuel U.size t.size k (by omega) (by omega)]
theorem Suf.skF (h : Suf U t d) : ∀ f k, skF U f (d + k) = d + skF t f k
  | 0, k => rfl
  | f + 1, k => by
    have hs := h.size
    rw [skF.eq_2, skF.eq_2, h.byt, h.ntO]
    by_cases g : k < t.size
    · rw [if_pos g, if_pos (by omega)]
      split
      · exact h.skF f (k + 1)
      · split
        · rw [Nat.add_assoc]; exact h.skF f _
        · rfl
    · rw [if_neg g, if_neg (by omega)]
theorem Suf.skO (h : Suf U t d) (k : Nat) : skO U (d + k) = d + skO t k := by
  have hs := h.size
  unfold Go.Proofs.Ytinkgidncdjapab.skO
  rw [h.skF, skF_fuel (U.size + 1) (t.size + 1) k (by omega) (by omega)]
theorem Suf.txtO (h : Suf U t d) (k : Nat) : txtO U ((d + k : Nat) : Int) = mv d (txtO t (k : Int)) := by
  have hs := h.size
  unfold Go.Proofs.Ytinkgidncdjapab.txtO
  rw [h.stand, Int.toNat_natCast, Int.toNat_natCast, Nat.add_assoc, h.txtF, txtF_fuel (U.size + 1) (t.size + 1) (k + 1) _ (by omega) (by omega)]
  split <;> rfl
theorem Suf.clsO (h : Suf U t d) (k : Nat) : clsO U ((d + k : Nat) : Int) = mv d (clsO t (k : Int)) := by
  have hs := h.size
  unfold Go.Proofs.Ytinkgidncdjapab.clsO
  rw [h.stand, show ((d + k : Nat) : Int) + 1 = ((d + (k + 1) : Nat) : Int) by omega, h.stand, show ((k + 1 : Nat) : Int) = (k : Int) + 1 by omega, Int.toNat_natCast, Int.toNat_natCast]
  generalize standB t ((k : Int) + 1) 94 = o
  rw [show d + k + 1 + (if o = true then 1 else 0) = d + (k + 1 + (if o = true then 1 else 0)) by omega, h.rwsF, rwsF_fuel (U.size + 1) (t.size + 1) (k + 1 + (if o = true then 1 else 0)) _ (by omega) (by omega)]
  split
  · cases Go.Proofs.Ytinkgidncdjapab.rwsF t (t.size + 1) (k + 1 + (if o = true then 1 else 0)) set0 with
    | none => rfl
    | some q =>
      obtain ⟨x, m⟩ := q
      show (if _ then _ else _) = mv d (if _ then _ else _)
      split <;> rfl
  · rfl
theorem Suf.sgO (h : Suf U t d) (k : Nat) : sgO U (d + k) = sgO t k := by
  unfold Go.Proofs.Ytinkgidncdjapab.sgO
  rw [h.byt, show d + k + 1 = d + (k + 1) by omega, h.stand]
def sh (d : Nat) (x : Tok) : Tok := ⟨x.kd, x.tx, x.st, d + x.pos⟩
def mvT (d : Nat) : Option (Tok × Nat) → Option (Tok × Nat)
  | none => none
  | some (x, m) => some (sh d x, d + m)
theorem Suf.tkO (h : Suf U t d) (p : Nat) : tkO U (d + p) = mvT d (tkO t p) := by
  unfold Go.Proofs.Ytinkgidncdjapab.tkO
  rw [h.byt, h.nmO, h.txtO, h.clsO, h.sgO, Nat.add_assoc, Nat.add_assoc, h.cut, h.cut]
  split
  · split <;> rfl
  · split
    · cases Go.Proofs.Ytinkgidncdjapab.txtO t (p : Int) <;> rfl
    · split
      · cases Go.Proofs.Ytinkgidncdjapab.clsO t (p : Int) <;> rfl
      · split <;> rfl
theorem Suf.nextO (h : Suf U t d) (k : Nat) : nextO U (d + k) = mvT d (nextO t k) := by
  have hs := h.size
  unfold Go.Proofs.Ytinkgidncdjapab.nextO
  rw [h.skO, h.tkO]
  by_cases g : t.size ≤ Go.Proofs.Ytinkgidncdjapab.skO t k
  · rw [if_pos g, if_pos (by omega), hs]; rfl
  · rw [if_neg g, if_neg (by omega)]
def mvA (d : Nat) : Except Nat (List Tok) → Except Nat (List Tok)
  | .ok L => .ok (L.map (sh d))
  | .error e => .error (d + e)
theorem Suf.allF (h : Suf U t d) : ∀ f k, allF U f (d + k) = mvA d (allF t f k)
  | 0, k => rfl
  | f + 1, k => by
    rw [allF.eq_2, allF.eq_2, h.nextO, h.skO]
    cases Go.Proofs.Ytinkgidncdjapab.nextO t k with
    | none => rfl
    | some q =>
      obtain ⟨x, m⟩ := q
      show (if x.kd = 0 then _ else _) = mvA d (if x.kd = 0 then _ else _)
      split
      · rfl
      · rw [h.allF f m]
        cases Go.Proofs.Ytinkgidncdjapab.allF t f m <;> rfl
end

/-- U is s, a blank, and something more. -/
def Pre (U s : ByteArray) : Prop := ∃ r, U.data.toList = s.data.toList ++ (32 :: r)
section
variable {U s : ByteArray}
theorem Pre.size (h : Pre U s) : s.size < U.size := by
  obtain ⟨r, h⟩ := h
  have h1 : U.data.toList.length = U.size := by simp
  have h2 : s.data.toList.length = s.size := by simp
  rw [← h1, h, List.length_append, h2, List.length_cons]; omega
theorem Pre.byt (h : Pre U s) {k : Nat} (hk : k < s.size) : byt U k = byt s k := by
  obtain ⟨r, h⟩ := h
  have h2 : s.data.toList.length = s.size := by simp
  unfold Go.Proofs.Ytinkgidncdjapab.byt
  rw [h, List.getD_eq_getElem?_getD, List.getD_eq_getElem?_getD, List.getElem?_append_left (by omega)]
theorem Pre.blank (h : Pre U s) : Go.Proofs.Ytinkgidncdjapab.byt U s.size = 32 := by
  obtain ⟨r, h⟩ := h
  have h2 : s.data.toList.length = s.size := by simp
  unfold Go.Proofs.Ytinkgidncdjapab.byt
  rw [h, List.getD_eq_getElem?_getD, List.getElem?_append_right (by omega), h2, Nat.sub_self]; rfl
theorem Pre.cut (h : Pre U s) (a : Nat) {b : Nat} (hb : b ≤ s.size) : U.extract a b = s.extract a b := by
  obtain ⟨r, h⟩ := h
  have h2 : s.data.toList.length = s.size := by simp
  apply bytes_eq
  rw [ByteArray.data_extract, ByteArray.data_extract]
  simp only [Array.toList_extract, List.extract_eq_take_drop]
  rw [h]
  by_cases g : a ≤ b
  · rw [List.drop_append_of_le_length (by omega), List.take_append_of_le_length (by rw [List.length_drop]; omega)]
  · rw [show b - a = 0 by omega]; simp
theorem Pre.stand (h : Pre U s) {k : Nat} (hk : k ≤ s.size) {c : Int} (hc : c ≠ 32) : standB U (k : Int) c = standB s (k : Int) c := by
  have hs := h.size
  by_cases g : k < s.size
  · rw [stand_in g, stand_in (by omega), h.byt g]
  · obtain rfl : k = s.size := by omega
    rw [stand_out g, stand_in hs, h.blank]
    exact beq_eq_false_iff_ne.2 (fun e => hc e.symm)
theorem Pre.hexN (h : Pre U s) {a : Nat} (ha : a ≤ s.size) : ∀ m, hexN U a m = hexN s a m ∧ a + hexN s a m ≤ s.size
  | 0 => ⟨rfl, ha⟩
  | m + 1 => by
    have hs := h.size
    obtain ⟨h1, h2⟩ := h.hexN ha m
    show (if Go.Proofs.Ytinkgidncdjapab.hexN U a m = m ∧ a + m < U.size ∧ 0 ≤ hexV (Go.Proofs.Ytinkgidncdjapab.byt U (a + m)) then m + 1 else Go.Proofs.Ytinkgidncdjapab.hexN U a m) = (if Go.Proofs.Ytinkgidncdjapab.hexN s a m = m ∧ a + m < s.size ∧ 0 ≤ hexV (Go.Proofs.Ytinkgidncdjapab.byt s (a + m)) then m + 1 else Go.Proofs.Ytinkgidncdjapab.hexN s a m) ∧
      a + (if Go.Proofs.Ytinkgidncdjapab.hexN s a m = m ∧ a + m < s.size ∧ 0 ≤ hexV (Go.Proofs.Ytinkgidncdjapab.byt s (a + m)) then m + 1 else Go.Proofs.Ytinkgidncdjapab.hexN s a m) ≤ s.size
    rw [h1]
    by_cases g : Go.Proofs.Ytinkgidncdjapab.hexN s a m = m ∧ a + m < s.size ∧ 0 ≤ hexV (Go.Proofs.Ytinkgidncdjapab.byt s (a + m))
    · rw [if_pos g, if_pos ⟨g.1, by omega, by rw [h.byt g.2.1]; exact g.2.2⟩]
      exact ⟨rfl, by omega⟩
    · rw [if_neg g, if_neg]
      · exact ⟨rfl, h2⟩
      · rintro ⟨q1, q2, q3⟩
        by_cases q4 : a + m < s.size
        · rw [h.byt q4] at q3; exact g ⟨q1, q4, q3⟩
        · rw [show a + m = s.size by omega, h.blank] at q3
          revert q3; decide
theorem Pre.valN (h : Pre U s) {a : Nat} : ∀ m, a + m ≤ s.size → valN U a m = valN s a m
  | 0, _ => rfl
  | m + 1, hm => by
    show Go.Proofs.Ytinkgidncdjapab.valN U a m * 16 + hexV (Go.Proofs.Ytinkgidncdjapab.byt U (a + m)) = Go.Proofs.Ytinkgidncdjapab.valN s a m * 16 + hexV (Go.Proofs.Ytinkgidncdjapab.byt s (a + m))
    rw [h.valN m (by omega), h.byt (by omega)]
theorem Pre.signO (h : Pre U s) {a : Nat} (ha : a ≤ s.size) : signO U a = signO s a := by
  obtain ⟨h1, h2⟩ := h.hexN ha 6
  unfold Go.Proofs.Ytinkgidncdjapab.signO
  rw [h1, h.valN _ h2, h.stand h2 (by decide)]
theorem Pre.escO (h : Pre U s) {k : Nat} (hk : k ≤ s.size) {sp : ByteArray} (hsp : isSp sp 32 = false) : escO U k sp = escO s k sp := by
  have hs := h.size
  by_cases g : k < s.size
  · rw [escO_at g rfl, escO_at (show k < U.size by omega) (h.byt g), (h.hexN (a := k + 1) (by omega) 2).1, h.stand (k := k + 1) (by omega) (by decide)]
    have hx := (h.hexN (a := k + 1) (by omega) 2).2
    have e1 : (if Go.Proofs.Ytinkgidncdjapab.hexN s (k + 1) 2 = 2 then some (strOfNums [Go.Proofs.Ytinkgidncdjapab.valN U (k + 1) 2], k + 3) else none) = (if Go.Proofs.Ytinkgidncdjapab.hexN s (k + 1) 2 = 2 then some (strOfNums [Go.Proofs.Ytinkgidncdjapab.valN s (k + 1) 2], k + 3) else none) := by
      split
      · rename_i q; rw [h.valN 2 (by omega)]
      · rfl
    have e2 : (if Go.Proofs.Ytinkgidncdjapab.byt s k = 117 ∧ standB s ((k + 1 : Nat) : Int) 123 = true then Go.Proofs.Ytinkgidncdjapab.signO U (k + 2) else none) = (if Go.Proofs.Ytinkgidncdjapab.byt s k = 117 ∧ standB s ((k + 1 : Nat) : Int) 123 = true then Go.Proofs.Ytinkgidncdjapab.signO s (k + 2) else none) := by
      split
      · rename_i q; have := (stand_iff.1 q.2).1; rw [h.signO (by omega)]
      · rfl
    rw [e1, e2]
  · obtain rfl : k = s.size := by omega
    rw [escO_out g, escO_at hs h.blank, if_neg (by decide), if_neg (by decide), hsp]; rfl
theorem signO_end {a m : Nat} {u : ByteArray} (h : signO s a = some (u, m)) : m ≤ s.size := by
  unfold Go.Proofs.Ytinkgidncdjapab.signO at h
  split at h
  · rename_i g; have := (stand_iff.1 g.2.1).1; injection h with h; injection h with h1 h2; omega
  · cases h
theorem escO_end {k m : Nat} {sp u : ByteArray} (h : escO s k sp = some (u, m)) : m ≤ s.size := by
  by_cases hk : k < s.size
  · rw [escO_at hk rfl] at h
    split at h
    · injection h with h; injection h with h1 h2; omega
    · split at h
      · injection h with h; injection h with h1 h2; omega
      · split at h
        · injection h with h; injection h with h1 h2; omega
        · split at h
          · split at h
            · rename_i g
              injection h with h; injection h with h1 h2
              have key : ∀ n, Go.Proofs.Ytinkgidncdjapab.hexN s (k + 1) n = n → 0 < n → k + 1 + n ≤ s.size := fun n => by
                intro hn h0
                obtain ⟨q, rfl⟩ : ∃ q, n = q + 1 := ⟨n - 1, by omega⟩
                have hle := hexN_le s (k + 1) q
                by_cases c : Go.Proofs.Ytinkgidncdjapab.hexN s (k + 1) q = q ∧ k + 1 + q < s.size ∧ 0 ≤ hexV (Go.Proofs.Ytinkgidncdjapab.byt s (k + 1 + q))
                · omega
                · have : Go.Proofs.Ytinkgidncdjapab.hexN s (k + 1) (q + 1) = Go.Proofs.Ytinkgidncdjapab.hexN s (k + 1) q := by show (if _ then _ else _) = _; rw [if_neg c]
                  omega
              have := key 2 g (by decide); omega
            · cases h
          · split at h
            · exact signO_end h
            · cases h
  · rw [escO_out hk] at h; cases h
theorem readO_end {k m : Nat} {sp u : ByteArray} (h : readO s k sp = some (u, m)) : m ≤ s.size := by
  by_cases hk : k < s.size
  · rw [readO_at hk rfl] at h
    split at h
    · injection h with h; injection h with h1 h2; omega
    · split at h
      · exact escO_end h
      · cases h
  · rw [readO_out hk] at h; cases h
theorem Pre.readO (h : Pre U s) {k : Nat} (hk : k < s.size) {sp : ByteArray} (hsp : isSp sp 32 = false) : readO U k sp = readO s k sp := by
  have hs := h.size
  rw [readO_at hk rfl, readO_at (show k < U.size by omega) (h.byt hk), h.escO (by omega) hsp]
theorem Pre.txtF (h : Pre U s) : ∀ f k out q, txtF s f k out = some q → txtF U f k out = some q
  | 0, k, out, q, hq => by cases hq
  | f + 1, k, out, q, hq => by
    have hs := h.size
    rw [txtF.eq_2] at hq ⊢
    split at hq
    · rename_i hk
      rw [if_pos (by omega), h.byt hk, h.readO hk (by decide +kernel)]
      split at hq
      · rename_i hc; rw [if_pos hc]; exact hq
      · rename_i hc
        rw [if_neg hc]
        cases hr : Go.Proofs.Ytinkgidncdjapab.readO s k spT with
        | none => rw [hr] at hq; cases hq
        | some p => obtain ⟨u, m⟩ := p; rw [hr] at hq; exact h.txtF f m _ q hq
    · cases hq
theorem Pre.txtO (h : Pre U s) {k : Nat} (hk : k < s.size) {q : ByteArray × Nat} (hq : txtO s (k : Int) = some q) : txtO U (k : Int) = some q := by
  have hs := h.size
  unfold Go.Proofs.Ytinkgidncdjapab.txtO at hq ⊢
  rw [h.stand (by omega) (by decide)]
  split at hq
  · rename_i g
    rw [if_pos g, Int.toNat_natCast, txtF_fuel (U.size + 1) (U.size + 1 + 0) _ _ (by omega) (by omega)]
    rw [Int.toNat_natCast, txtF_fuel (s.size + 1) (U.size + 1) _ _ (by omega) (by omega)] at hq
    exact h.txtF _ _ _ _ hq
  · cases hq
theorem Pre.sglO (h : Pre U s) {k : Nat} (hk : k < s.size) : sglO U k = sglO s k := by
  unfold Go.Proofs.Ytinkgidncdjapab.sglO
  rw [h.readO hk (by decide +kernel)]
theorem sglO_end {k m : Nat} {c : Int} (h : sglO s k = some (c, m)) : m ≤ s.size := by
  cases hq : readO s k spC with
  | none => rw [sglO_none hq] at h; cases h
  | some p =>
    obtain ⟨u, m'⟩ := p
    rw [sglO_some hq] at h
    split at h
    · injection h with h; injection h with h1 h2; subst h2; exact readO_end hq
    · cases h
theorem Pre.rowO (h : Pre U s) {k : Nat} (hk : k < s.size) {lo hi m : Nat} (hq : rowO s k = some ((lo, hi), m)) : rowO U k = some ((lo, hi), m) ∧ m ≤ s.size := by
  cases h1 : Go.Proofs.Ytinkgidncdjapab.sglO s k with
  | none => rw [rowO_none h1] at hq; cases hq
  | some p =>
    obtain ⟨c, n⟩ := p
    have hn := sglO_end h1
    have h1U : Go.Proofs.Ytinkgidncdjapab.sglO U k = some (c, n) := by rw [h.sglO hk, h1]
    cases hd : standB s (n : Int) 45 with
    | false =>
      have hdU : standB U (n : Int) 45 = false := by rw [h.stand hn (by decide), hd]
      rw [rowO_one h1 hd] at hq
      rw [rowO_one h1U hdU]
      refine ⟨hq, ?_⟩
      injection hq with hq; injection hq with q1 q2; omega
    | true =>
      have hdU : standB U (n : Int) 45 = true := by rw [h.stand hn (by decide), hd]
      have hn1 := (stand_iff.1 hd).1
      rw [rowO_two h1 hd] at hq
      rw [rowO_two h1U hdU]
      cases h2 : Go.Proofs.Ytinkgidncdjapab.sglO s (n + 1) with
      | none => rw [h2] at hq; cases hq
      | some p =>
        obtain ⟨c', n'⟩ := p
        have hb := sglO_bd h2
        have hn' := sglO_end h2
        rw [h.sglO hb.1, h2]
        rw [h2] at hq
        refine ⟨hq, ?_⟩
        simp only at hq
        split at hq
        · cases hq
        · injection hq with hq; injection hq with q1 q2; omega
theorem Pre.rwsF (h : Pre U s) : ∀ f k x q, rwsF s f k x = some q → rwsF U f k x = some q
  | 0, k, x, q, hq => by cases hq
  | f + 1, k, x, q, hq => by
    rw [rwsF.eq_2] at hq ⊢
    cases hr : Go.Proofs.Ytinkgidncdjapab.rowO s k with
    | none => rw [hr] at hq; cases hq
    | some p =>
      obtain ⟨⟨lo, hi⟩, m⟩ := p
      have hb := rowO_bd hr
      obtain ⟨r1, r2⟩ := h.rowO hb.1 hr
      rw [hr] at hq
      rw [r1]
      simp only at hq ⊢
      rw [h.stand r2 (by decide)]
      split at hq
      · rename_i g; rw [if_pos g]; exact hq
      · rename_i g; rw [if_neg g]; exact h.rwsF f m _ q hq
theorem Pre.clsO (h : Pre U s) {k : Nat} (hk : k < s.size) {q : Set4 × Nat} (hq : clsO s (k : Int) = some q) : clsO U (k : Int) = some q := by
  have hs := h.size
  unfold Go.Proofs.Ytinkgidncdjapab.clsO at hq ⊢
  rw [h.stand (by omega) (by decide), show (k : Int) + 1 = ((k + 1 : Nat) : Int) by omega, h.stand (k := k + 1) (by omega) (by decide)]
  rw [show (k : Int) + 1 = ((k + 1 : Nat) : Int) by omega] at hq
  split at hq
  · rename_i g
    rw [if_pos g]
    generalize standB s ((k + 1 : Nat) : Int) 94 = o at hq ⊢
    rw [Int.toNat_natCast] at hq ⊢
    cases hr : Go.Proofs.Ytinkgidncdjapab.rwsF s (s.size + 1) (k + 1 + (if o = true then 1 else 0)) set0 with
    | none => rw [hr] at hq; cases hq
    | some p =>
      rw [hr] at hq
      rw [rwsF_fuel (s.size + 1) (U.size + 1) _ _ (by omega) (by omega)] at hr
      rw [h.rwsF _ _ _ _ hr]; exact hq
  · cases hq
theorem Pre.runB (h : Pre U s) {P : Int → Bool} (hP : P 32 = false) : ∀ f k, k ≤ s.size → runB P U f k = runB P s f k
  | 0, k, _ => rfl
  | f + 1, k, hk => by
    have hs := h.size
    unfold Go.Proofs.Ytinkgidncdjapab.runB
    by_cases g : k < s.size
    · rw [h.byt g, h.runB hP f (k + 1) (by omega)]
      by_cases q : P (Go.Proofs.Ytinkgidncdjapab.byt s k) = true
      · rw [if_pos ⟨by omega, q⟩, if_pos ⟨g, q⟩]
      · rw [if_neg (fun r => q r.2), if_neg (fun r => q r.2)]
    · obtain rfl : k = s.size := by omega
      rw [h.blank, hP, if_neg (fun r => by cases r.2), if_neg (fun r => g r.1)]
theorem Pre.nmO (h : Pre U s) {k : Nat} (hk : k ≤ s.size) : nmO U k = nmO s k := by
  have hs := h.size
  unfold Go.Proofs.Ytinkgidncdjapab.nmO
  rw [h.runB (by decide) _ _ hk, runB_fuel U.size s.size k (by omega) (by omega)]
theorem Pre.sgO (h : Pre U s) {k : Nat} (hk : k < s.size) : sgO U k = sgO s k := by
  unfold Go.Proofs.Ytinkgidncdjapab.sgO
  rw [h.byt hk, h.stand (k := k + 1) (by omega) (by decide)]
theorem Pre.tkO (h : Pre U s) {p : Nat} (hp : p < s.size) {q : Tok × Nat} (hq : tkO s p = some q) : tkO U p = some q := by
  have hn := nmO_le (s := s) (k := p) (by omega)
  have hg := sgO_le hp
  unfold Go.Proofs.Ytinkgidncdjapab.tkO at hq ⊢
  rw [h.byt hp, h.nmO (by omega), h.sgO hp, h.cut p hn, h.cut p hg]
  split at hq
  · rename_i c; rw [if_pos c]; exact hq
  · rename_i c
    rw [if_neg c]
    split at hq
    · rename_i c; rw [if_pos c]
      cases hr : Go.Proofs.Ytinkgidncdjapab.txtO s (p : Int) with
      | none => rw [hr] at hq; cases hq
      | some r => rw [h.txtO hp hr]; rw [hr] at hq; exact hq
    · rename_i c; rw [if_neg c]
      split at hq
      · rename_i c; rw [if_pos c]
        cases hr : Go.Proofs.Ytinkgidncdjapab.clsO s (p : Int) with
        | none => rw [hr] at hq; cases hq
        | some r => rw [h.clsO hp hr]; rw [hr] at hq; exact hq
      · rename_i c; rw [if_neg c]; exact hq
end

theorem skO_out {s : ByteArray} {k : Nat} (h : ¬ k < s.size) : skO s k = k := skF_out h
theorem skO_blank {s : ByteArray} {k : Nat} (hk : k < s.size) (h : blkB (byt s k) = true) : skO s k = skO s (k + 1) := by
  unfold skO
  rw [skF_blank (by omega) hk h, skF_fuel (s.size + 1 - 1) (s.size + 1) (k + 1) (by omega) (by omega)]
theorem skO_stop {s : ByteArray} {k : Nat} (h : blkB (byt s k) = false) (h2 : byt s k ≠ 35) : skO s k = k := skF_stop h h2
theorem pre_sk {U s : ByteArray} (h : Pre U s) (hn : ∀ k, k < s.size → byt s k ≠ 35) : ∀ n k, n + k = s.size → (skO s k < s.size → skO U k = skO s k) ∧ (skO s k = s.size → skO U k = skO U (s.size + 1)) ∧ skO s k ≤ s.size
  | 0, k, hk => by
    have hs := h.size
    obtain rfl : k = s.size := by omega
    have e1 : skO s s.size = s.size := skO_out (by omega)
    have e2 : skO U s.size = skO U (s.size + 1) := skO_blank hs (by rw [h.blank]; decide)
    exact ⟨fun g => by omega, fun _ => e2, by omega⟩
  | n + 1, k, hk => by
    have hs := h.size
    have hk1 : k < s.size := by omega
    cases hb : blkB (byt s k) with
    | true =>
      rw [skO_blank hk1 hb, skO_blank (show k < U.size by omega) (by rw [h.byt hk1]; exact hb)]
      exact pre_sk h hn n (k + 1) (by omega)
    | false =>
      have e1 : skO s k = k := skO_stop hb (hn k hk1)
      have e2 : skO U k = k := skO_stop (by rw [h.byt hk1]; exact hb) (by rw [h.byt hk1]; exact hn k hk1)
      rw [e1, e2]
      exact ⟨fun _ => rfl, fun g => by omega, by omega⟩
theorem allF_fuel {s : ByteArray} : ∀ f g k, k ≤ s.size → s.size < f + k → s.size < g + k → allF s f k = allF s g k
  | 0, g, k, h0, h1, h2 => by omega
  | f + 1, 0, k, h0, h1, h2 => by omega
  | f + 1, g + 1, k, h0, h1, h2 => by
    rw [allF.eq_2, allF.eq_2]
    cases hq : nextO s k with
    | none => rfl
    | some q =>
      obtain ⟨t, m⟩ := q
      obtain ⟨b1, b2, b3⟩ := nextO_bd hq
      simp only
      split
      · rfl
      · rename_i h
        have := (b2 h).1
        rw [allF_fuel f g m b1 (by omega) (by omega)]
/-- The tokens from a place on. -/
def allA (s : ByteArray) (k : Nat) : Except Nat (List Tok) := allF s (s.size + 2) k
theorem allA_same {s : ByteArray} {j k : Nat} (h : skO s j = skO s k) : allA s j = allA s k := by
  have hn : nextO s j = nextO s k := by unfold nextO; rw [h]
  unfold allA
  rw [allF.eq_2, allF.eq_2, hn, h]
theorem allA_go {s : ByteArray} {k m : Nat} {t : Tok} (hk : k ≤ s.size) (h : nextO s k = some (t, m)) (h0 : t.kd ≠ 0) : allA s k = addA [t] (allA s m) := by
  have := nextO_bd h
  have h1 := (this.2.1 h0).1
  unfold allA
  rw [allF_go (by omega) hk h h0, allF_fuel (s.size + 2 - 1) (s.size + 2) m this.1 (by omega) (by omega)]
theorem allF_ne {s : ByteArray} {f k : Nat} {L : List Tok} (hf : s.size < f + k) (hk : k ≤ s.size) (h : allF s f k = .ok L) : L ≠ [] := by
  have hf0 : f ≠ 0 := by rintro rfl; omega
  obtain ⟨g, rfl⟩ : ∃ g, f = g + 1 := ⟨f - 1, by omega⟩
  rw [allF.eq_2] at h
  cases hq : nextO s k with
  | none => rw [hq] at h; cases h
  | some q =>
    obtain ⟨t, m⟩ := q
    rw [hq] at h
    simp only at h
    split at h
    · injection h with h; rw [← h]; simp
    · cases hr : allF s g m with
      | error e => rw [hr] at h; cases h
      | ok M => rw [hr] at h; injection h with h; rw [← h]; simp
theorem pre_all {U s : ByteArray} (h : Pre U s) (hn : ∀ k, k < s.size → byt s k ≠ 35) : ∀ f k L, s.size < f + k → k ≤ s.size → allF s f k = .ok L → allA U k = addA L.dropLast (allA U (s.size + 1))
  | 0, k, L, hf, hk, hL => by omega
  | f + 1, k, L, hf, hk, hL => by
    have hs := h.size
    obtain ⟨k1, k2, k3⟩ := pre_sk h hn (s.size - k) k (by omega)
    cases hq : nextO s k with
    | none => rw [allF_no hf hk hq] at hL; cases hL
    | some q =>
      obtain ⟨t, m⟩ := q
      obtain ⟨b1, b2, b3⟩ := nextO_bd hq
      by_cases h0 : t.kd = 0
      · rw [allF_end hf hk hq h0] at hL
        injection hL with hL
        subst hL
        have he : skO s k = s.size := by
          unfold nextO at hq
          split at hq
          · omega
          · have := tkO_bd (by omega) hq; omega
        rw [allA_same (k2 he)]
        show _ = addA [] _
        cases allA U (s.size + 1) <;> rfl
      · rw [allF_go hf hk hq h0] at hL
        obtain ⟨M, hM, rfl⟩ := addA_len hL
        obtain ⟨r1, r2, r3⟩ := b2 h0
        have hlt : skO s k < s.size := by omega
        have hqU : nextO U k = some (t, m) := by
          unfold nextO at hq ⊢
          rw [if_neg (by omega)] at hq
          rw [k1 hlt, if_neg (by omega)]
          exact h.tkO hlt hq
        rw [allA_go (by omega) hqU h0, pre_all h hn f m M (by omega) b1 hM, addA_add]
        have hne := allF_ne (by omega) b1 hM
        congr 1
        cases M with
        | nil => exact absurd rfl hne
        | cons x M => rfl
/-- The tokens of two texts with a blank between are those of both. -/
theorem joins {s t : ByteArray} (hn : ∀ k, k < s.size → byt s k ≠ 35) {L M : List Tok} (hL : allO s = .ok L) (hM : allO t = .ok M) :
    allO (s ++ ⟨#[32]⟩ ++ t) = .ok (L.dropLast ++ M.map (sh (s.size + 1))) := by
  have hP : Pre (s ++ ⟨#[32]⟩ ++ t) s := ⟨t.data.toList, by simp [ByteArray.data_append]⟩
  have hS : Suf (s ++ ⟨#[32]⟩ ++ t) t (s.size + 1) := ⟨s.data.toList ++ [32], by simp [ByteArray.data_append], by simp⟩
  have hz := hS.size
  generalize s ++ ⟨#[32]⟩ ++ t = U at *
  have h1 := pre_all hP hn _ 0 L (by omega) (Nat.zero_le _) hL
  have h2 := hS.allF (U.size + 2) 0
  rw [Nat.add_zero] at h2
  have h3 : allF t (U.size + 2) 0 = allO t := allF_fuel _ _ 0 (Nat.zero_le _) (by omega) (by omega)
  rw [h3, hM] at h2
  show allA U 0 = _
  rw [h1]
  show addA L.dropLast (allF U (U.size + 2) (s.size + 1)) = _
  rw [h2]; rfl
open Go.Sort

theorem all_gen {s : ByteArray} (hs : s.size ≤ 4000) (w : World) : Calls Try.prog 9 #[.string s] w
    fun e w' => (∃ ao n cap a1 a2 a3 a4, e = .returned (.tuple #[.slice ao n cap, .agg #[.int .i64 a1, .int .i64 a2, .int .i64 a3, .int .i64 a4]])) ∧ Below w.heap.size w w' := by
  refine (all_any s hs w).mono ?_
  rintro e w' ⟨he, hb⟩
  refine ⟨?_, hb⟩
  cases h : allO s with
  | error k => rw [h] at he; exact ⟨none, 0, 0, 2, (k : Int), 0, 0, he⟩
  | ok L =>
    rw [h] at he
    obtain ⟨v, rfl, ho⟩ := he
    obtain ⟨ao, cap, rfl⟩ := own7_form ho
    exact ⟨ao, L.length, cap, 0, 0, 0, 0, rfl⟩

theorem allF_pos {s : ByteArray} : ∀ (f k : Nat) (L : List Tok), allF s f k = .ok L → ∀ y ∈ L, y.pos ≤ s.size
  | 0, k, L, h => by cases h
  | f + 1, k, L, h => by
    rw [allF.eq_2] at h
    cases hq : nextO s k with
    | none => rw [hq] at h; cases h
    | some q =>
      obtain ⟨t, m⟩ := q
      obtain ⟨b1, b2, b3⟩ := nextO_bd hq
      have hp : t.pos ≤ s.size := by
        by_cases h0 : t.kd = 0
        · have := (b3 h0).1; omega
        · have := b2 h0; omega
      rw [hq] at h
      simp only at h
      split at h
      · injection h with h; subst h; intro y hy; rw [List.mem_singleton.1 hy]; exact hp
      · cases hr : allF s f m with
        | error e => rw [hr] at h; cases h
        | ok M =>
          rw [hr] at h; injection h with h; subst h
          intro y hy
          rcases List.mem_cons.1 hy with rfl | hy
          · exact hp
          · exact allF_pos f m M hr y hy
theorem own7_cap {w : World} {B n k cap : Nat} {e : TypeId} {ao : Option Addr} {xs : List Value} (h : w.ownsRow B e k (.slice ao n cap) n xs) (hn : 0 < n) : n ≤ cap := by
  rcases h.2 with ⟨-, h0⟩ | ⟨g, cap', cur, hv, hb, hg, h1, _⟩
  · omega
  · injection hv with e1 e2 e3; omega
theorem tokR_cells (L : List Tok) : ∀ u ∈ tokR L, u.oneCell' = true := by
  intro u hu
  obtain ⟨x, _, hx⟩ := List.mem_flatMap.1 hu
  exact tok_cells x u hx

set_option maxRecDepth 1000000 in
set_option maxHeartbeats 6400000 in
theorem joins_walk (s t : ByteArray) (w : World) :
    Calls Try.prog 4 #[.string s, .string t] w fun e w' => e = .returned (.bool true) ∧ Below w.heap.size w w' := by
  by_cases hs : (s.size : Int) ≤ 200
  · by_cases ht : (t.size : Int) ≤ 200
    · go_enter Try.func4, Try.ntmps4
      go_wp2_with fail
      go_loop [5] (fun i => ∃ k : Nat, i = .int .i64 (k : Int) ∧ k ≤ s.size ∧ Hid (∀ j, j < k → byt s j ≠ 35)) (fun i => s.size - (intOf i).toNat)
      case atStart => exact ⟨0, rfl, Nat.zero_le _, Lib.hid (fun j h => by omega)⟩
      case round =>
        obtain ⟨k, rfl, hk, HN⟩ := hrel
        by_cases hlt : k < s.size
        · obtain ⟨c, hc⟩ : ∃ c : Int, (s[k].toNat : Int) = c := ⟨_, rfl⟩
          have HX := Lib.hid (show byt s k = c by rw [byt_get hlt, hc])
          by_cases h35 : c = 35
          · subst h35
            go_wp2_with fail
            refine (awake_any _).mono ?_
            rintro e w9 ⟨rfl, hb9⟩
            go_wp2
            go_ret
            exact ⟨rfl, hb9⟩
          · have e35 : (c == 35) = false := beq_eq_false_iff_ne.2 h35
            have HN1 : Hid (∀ j, j < k + 1 → byt s j ≠ 35) := Lib.hid (fun j hj => by
              by_cases e : j = k
              · rw [e, HX.out]; exact h35
              · exact HN.out j (by omega))
            go_wp2
            go_round
            case rel => exact ⟨k + 1, by go_num, by omega, HN1⟩
            case measure => simp [intOf]; omega
        · obtain rfl : k = s.size := by omega
          have CU := Lib.hid (fun W => all_gen (s := s ++ ⟨#[32]⟩ ++ t) (by rw [ByteArray.size_append, ByteArray.size_append, show (⟨#[32]⟩ : ByteArray).size = 1 from rfl]; omega) W)
          cases hL : allO s with
          | error k1 =>
            have C1 := Lib.hid (fun W => all_no (s := s) (by omega) hL W)
            have C2 := Lib.hid (fun W => all_gen (s := t) (by omega) W)
            clear hL HN
            go_wp2_with fail
            refine (C1.out _).mono ?_
            rintro e w1 ⟨he, hb1⟩
            subst he
            have HA1 := Lib.hid (hb1.alloc hb1.size (.cells #[.int .i64 2, .int .i64 (k1 : Int), .int .i64 0, .int .i64 0] 33))
            have HF1 := Lib.hid (Own.fresh w1 33 [.int .i64 2, .int .i64 (k1 : Int), .int .i64 0, .int .i64 0])
            clear hb1
            go_wp2_with fail
            refine (C2.out _).mono ?_
            rintro e w2 ⟨⟨bo, bn, bcap, a1, a2, a3, a4, he⟩, hb2⟩
            subst he
            have HA2' := keepb HA1.out hb2
            have HA2 := Lib.hid (HA2'.alloc HA2'.size (.cells #[.int .i64 a1, .int .i64 a2, .int .i64 a3, .int .i64 a4] 33))
            have HF2 := Lib.hid ((HF1.out.under hb2 HF1.out.lt).on_alloc (.cells #[.int .i64 a1, .int .i64 a2, .int .i64 a3, .int .i64 a4] 33))
            have HG2 := Lib.hid (Own.fresh w2 33 [.int .i64 a1, .int .i64 a2, .int .i64 a3, .int .i64 a4])
            clear hb2 HA1 HF1 HA2'
            go_wp2_with fail
            refine (CU.out _).mono ?_
            rintro e w3 ⟨⟨do', dn, dcap, c1, c2, c3, c4, he⟩, hb3⟩
            subst he
            have HA3' := keepb HA2.out hb3
            have HA3 := Lib.hid (HA3'.alloc HA3'.size (.cells #[.int .i64 c1, .int .i64 c2, .int .i64 c3, .int .i64 c4] 33))
            have HF3 := Lib.hid ((HF2.out.under hb3 HF2.out.lt).on_alloc (.cells #[.int .i64 c1, .int .i64 c2, .int .i64 c3, .int .i64 c4] 33))
            have HG3 := Lib.hid ((HG2.out.under hb3 HG2.out.lt).on_alloc (.cells #[.int .i64 c1, .int .i64 c2, .int .i64 c3, .int .i64 c4] 33))
            clear hb3 HA2 HF2 HG2 HA3'
            go_upto_region 11 with fail
            generalize World.alloc w3 _ = W at *
            generalize w2.heap.size = g2 at *
            generalize w1.heap.size = g1 at *
            obtain ⟨f0, f1, f2, f3, -⟩ := HF3.out.four
            obtain ⟨j0, j1, j2, j3, -⟩ := HG3.out.four
            go_wp2_with fail
            refine (awake_any _).mono ?_
            rintro e w9 ⟨rfl, hb9⟩
            go_wp2
            go_ret
            exact ⟨rfl, keepb HA3.out hb9⟩
          | ok L =>
            have C1 := Lib.hid (fun W => all_ok (s := s) (by omega) hL W)
            cases hM : allO t with
            | error k2 =>
              have C2 := Lib.hid (fun W => all_no (s := t) (by omega) hM W)
              clear hL hM HN
              go_wp2_with fail
              refine (C1.out _).mono ?_
              rintro e w1 ⟨⟨ao, cap, he, hr1⟩, hb1⟩
              subst he
              clear hr1
              have HA1 := Lib.hid (hb1.alloc hb1.size (.cells #[.int .i64 0, .int .i64 0, .int .i64 0, .int .i64 0] 33))
              have HF1 := Lib.hid (Own.fresh w1 33 [.int .i64 0, .int .i64 0, .int .i64 0, .int .i64 0])
              clear hb1
              go_wp2_with fail
              refine (C2.out _).mono ?_
              rintro e w2 ⟨he, hb2⟩
              subst he
              have HA2' := keepb HA1.out hb2
              have HA2 := Lib.hid (HA2'.alloc HA2'.size (.cells #[.int .i64 2, .int .i64 (k2 : Int), .int .i64 0, .int .i64 0] 33))
              have HF2 := Lib.hid ((HF1.out.under hb2 HF1.out.lt).on_alloc (.cells #[.int .i64 2, .int .i64 (k2 : Int), .int .i64 0, .int .i64 0] 33))
              have HG2 := Lib.hid (Own.fresh w2 33 [.int .i64 2, .int .i64 (k2 : Int), .int .i64 0, .int .i64 0])
              clear hb2 HA1 HF1 HA2'
              go_wp2_with fail
              refine (CU.out _).mono ?_
              rintro e w3 ⟨⟨do', dn, dcap, c1, c2, c3, c4, he⟩, hb3⟩
              subst he
              have HA3' := keepb HA2.out hb3
              have HA3 := Lib.hid (HA3'.alloc HA3'.size (.cells #[.int .i64 c1, .int .i64 c2, .int .i64 c3, .int .i64 c4] 33))
              have HF3 := Lib.hid ((HF2.out.under hb3 HF2.out.lt).on_alloc (.cells #[.int .i64 c1, .int .i64 c2, .int .i64 c3, .int .i64 c4] 33))
              have HG3 := Lib.hid ((HG2.out.under hb3 HG2.out.lt).on_alloc (.cells #[.int .i64 c1, .int .i64 c2, .int .i64 c3, .int .i64 c4] 33))
              clear hb3 HA2 HF2 HG2 HA3'
              go_upto_region 11 with fail
              generalize World.alloc w3 _ = W at *
              generalize w2.heap.size = g2 at *
              generalize w1.heap.size = g1 at *
              obtain ⟨f0, f1, f2, f3, -⟩ := HF3.out.four
              obtain ⟨j0, j1, j2, j3, -⟩ := HG3.out.four
              go_wp2_with fail
              refine (awake_any _).mono ?_
              rintro e w9 ⟨rfl, hb9⟩
              go_wp2
              go_ret
              exact ⟨rfl, keepb HA3.out hb9⟩
            | ok M =>
              have hJ := joins (fun k hk => HN.out k hk) hL hM
              have hlL := allO_len (by omega) hL
              have hlM := allO_len (by omega) hM
              have hneL := allF_ne (by omega) (Nat.zero_le _) hL
              have HPOS := Lib.hid (allF_pos _ _ _ hM)
              have hL0 : 0 < L.length := by cases L with | nil => exact absurd rfl hneL | cons x L => simp
              obtain ⟨n, hn⟩ : ∃ n, L.length = n + 1 := ⟨L.length - 1, by omega⟩
              obtain ⟨m, hm⟩ : ∃ m, M.length = m := ⟨_, rfl⟩
              obtain ⟨D, hD⟩ : ∃ D, L.dropLast = D := ⟨_, rfl⟩
              have hDn : D.length = n := by rw [← hD, List.length_dropLast, hn]; rfl
              have hLD : ∃ z, L = D ++ [z] := ⟨L.getLast hneL, by rw [← hD]; exact (List.dropLast_concat_getLast hneL).symm⟩
              rw [hD] at hJ
              obtain ⟨Q, hQ⟩ : ∃ Q, D ++ M.map (sh (s.size + 1)) = Q := ⟨_, rfl⟩
              rw [hQ] at hJ
              have hQl : Q.length = n + m := by rw [← hQ, List.length_append, List.length_map, hDn, hm]
              have C2 := Lib.hid (fun W => all_ok (s := t) (by omega) hM W)
              have C3 := Lib.hid (fun W => all_ok (s := s ++ ⟨#[32]⟩ ++ t) (by rw [ByteArray.size_append, ByteArray.size_append, show (⟨#[32]⟩ : ByteArray).size = 1 from rfl]; omega) hJ W)
              have HQ := Lib.hid hQ
              have HDN := Lib.hid hDn
              have HLD := Lib.hid hLD
              have HM := Lib.hid hm
              have HQL := Lib.hid hQl
              rw [hn] at hlL
              rw [hm] at hlM
              clear CU hL hM hJ HN hneL hL0 hD hDn hLD hQ
              go_wp2_with fail
              refine (C1.out _).mono ?_
              rintro e w1 ⟨⟨ao, cap, he, hr1⟩, hb1⟩
              rw [hn] at he
              subst he
              have HR1 := Lib.hid (hr1.alloc (.cells #[.int .i64 0, .int .i64 0, .int .i64 0, .int .i64 0] 33))
              have HA1 := Lib.hid (hb1.alloc hb1.size (.cells #[.int .i64 0, .int .i64 0, .int .i64 0, .int .i64 0] 33))
              have HF1 := Lib.hid (Own.fresh w1 33 [.int .i64 0, .int .i64 0, .int .i64 0, .int .i64 0])
              clear hr1 hb1 C1
              go_wp2_with fail
              refine (C2.out _).mono ?_
              rintro e w2 ⟨⟨bo, bcap, he, hr2⟩, hb2⟩
              rw [hm] at he
              subst he
              have HT2 := Lib.hid (own7_has (hr2.alloc (.cells #[.int .i64 0, .int .i64 0, .int .i64 0, .int .i64 0] 33)))
              have HR2 := Lib.hid ((own7_below HR1.out hb2).alloc (.cells #[.int .i64 0, .int .i64 0, .int .i64 0, .int .i64 0] 33))
              have HA2' := keepb HA1.out hb2
              have HA2 := Lib.hid (HA2'.alloc HA2'.size (.cells #[.int .i64 0, .int .i64 0, .int .i64 0, .int .i64 0] 33))
              have HF2 := Lib.hid ((HF1.out.under hb2 HF1.out.lt).on_alloc (.cells #[.int .i64 0, .int .i64 0, .int .i64 0, .int .i64 0] 33))
              have HG2 := Lib.hid (Own.fresh w2 33 [.int .i64 0, .int .i64 0, .int .i64 0, .int .i64 0])
              clear hr2 hb2 HA1 HF1 HA2' C2 HR1
              go_wp2_with fail
              refine (C3.out _).mono ?_
              rintro e w3 ⟨⟨co, ccap, he, hr3⟩, hb3⟩
              rw [hQl] at he
              subst he
              have HU3 := Lib.hid (own7_has (hr3.alloc (.cells #[.int .i64 0, .int .i64 0, .int .i64 0, .int .i64 0] 33)))
              have HT3 := Lib.hid ((HT2.out.below hb3).below ((Below.refl w3.heap.size w3).alloc (Nat.le_refl _) (.cells #[.int .i64 0, .int .i64 0, .int .i64 0, .int .i64 0] 33)))
              have HR3 := Lib.hid ((own7_below HR2.out hb3).alloc (.cells #[.int .i64 0, .int .i64 0, .int .i64 0, .int .i64 0] 33))
              have HA3' := keepb HA2.out hb3
              have HA3 := Lib.hid (HA3'.alloc HA3'.size (.cells #[.int .i64 0, .int .i64 0, .int .i64 0, .int .i64 0] 33))
              have HF3 := Lib.hid ((HF2.out.under hb3 HF2.out.lt).on_alloc (.cells #[.int .i64 0, .int .i64 0, .int .i64 0, .int .i64 0] 33))
              have HG3 := Lib.hid ((HG2.out.under hb3 HG2.out.lt).on_alloc (.cells #[.int .i64 0, .int .i64 0, .int .i64 0, .int .i64 0] 33))
              have HH3 := Lib.hid (Own.fresh w3 33 [.int .i64 0, .int .i64 0, .int .i64 0, .int .i64 0])
              clear hr3 hb3 HA2 HF2 HG2 HA3' C3 HR2 HT2
              go_upto_region 11 with fail
              generalize World.alloc w3 _ = W at *
              generalize w3.heap.size = g3 at *
              generalize w2.heap.size = g2 at *
              generalize w1.heap.size = g1 at *
              obtain ⟨f0, f1, f2, f3, -⟩ := HF3.out.four
              obtain ⟨j0, j1, j2, j3, -⟩ := HG3.out.four
              obtain ⟨r, hao, -, hrl, hcell⟩ := own7_cell HR3.out (by omega)
              subst hao
              have hcapn : n + 1 ≤ cap := by rw [← hn]; exact own7_cap HR3.out (by omega)
              have hcap : (n : Int) ≤ (cap : Int) := by omega
              have HCELL := Lib.hid hcell
              clear hcell
              have hen : ((n : Int) + 1 == 0) = false := beq_eq_false_iff_ne.2 (by omega)
              have hwn : IntKind.i64.wrap (n : Int) = (n : Int) := by rw [IntKind.wrap_i64]; omega
              have hws := HA3.out.size
              obtain ⟨i0, hi, hz0, hz1, hz2⟩ := info_parts7 info_tok
              have IL := Lib.hid (And.intro hi (And.intro hz0 (And.intro hz1 hz2)))
              have HNEWS := Lib.hid (show ∀ j u, (tokR D)[j]? = some u → (W.alloc (.cells #[] 27)).cell? ((⟨r, 0, none⟩ : Addr).add j) = some u from fun j u hj => by
                obtain ⟨z, hz⟩ := HLD.out
                have hlt := (List.getElem?_eq_some_iff.1 hj).1
                rw [tokR_len, HDN.out] at hlt
                rw [Addr.add_lit, Nat.zero_add]
                have h1 := HCELL.out j (by rw [hn]; omega)
                rw [hz, tokR_snoc, List.getElem?_append_left (by rw [tokR_len, HDN.out]; omega), hj] at h1
                exact keepc h1 ((Below.refl W.heap.size W).alloc (Nat.le_refl _) _))
              have HRL := Lib.hid (show (tokR D).length = n * 7 by rw [tokR_len, HDN.out])
              have HCEL := Lib.hid (tokR_cells D)
              clear hi hz0 hz1 hz2
              go_wp2_with (first
                | (at_builtin; refine wpList_append_own _ rfl _ _ 30 rfl W.heap.size 27 i0 (.agg #[.int .i64 0, .string ⟨#[]⟩, .int .u64 0, .int .u64 0, .int .u64 0, .int .u64 0, .int .i64 0]) 7 64 Try.underlying30 IL.out.1 IL.out.2.1 IL.out.2.2.1 IL.out.2.2.2 rfl (by decide) (.slice (some ⟨W.heap.size, 0, none⟩) 0 0) 0 [] rfl (World.ownsRow_lit W #[] 0 (Nat.le_refl _) (Nat.zero_le _) rfl) ⟨r, 0, none⟩ n cap (tokR D) rfl HRL.out HNEWS.out HCEL.out (by unfold maxLen; omega) (by omega) (by simp) ?_))
              intro v' w4 hown4 hgrow _
              obtain ⟨do', dcap, rfl⟩ := own7_form hown4
              have HB4 := Lib.hid (show Below W.heap.size W w4 from ((Below.refl W.heap.size W).alloc (Nat.le_refl _) _).trans ((But.grown (S := fun g => W.heap.size ≤ g) (But.refl _ _) hgrow (fun k hk _ => by simp [Value.ownBlock] at hk; omega)).below (by simp) (fun _ h => h)))
              have HR4 := Lib.hid (show w4.ownsRow W.heap.size 27 7 (.slice do' (n + 0) dcap) (n + 0) (tokR (D ++ (M.take 0).map (sh (s.size + 1)))) by simpa using hown4)
              have hg3 := HH3.out.lt
              clear hown4 hgrow HF3 HG3 HR3 HNEWS HCELL HRL HCEL f0 f1 f2 f3 j0 j1 j2 j3 hrl hws
              go_wp2_with fail
              go_loopw [12, 13] (fun b12 b13 wr => ∃ (k : Nat) (xo : Option Addr) (xcap : Nat), b12 = .slice xo (n + k) xcap ∧ b13 = .int .i64 (k : Int) ∧ (k : Int) ≤ m ∧ Hid (wr.ownsRow W.heap.size 27 7 (.slice xo (n + k) xcap) (n + k) (tokR (D ++ (M.take k).map (sh (s.size + 1))))) ∧
                  Hid (Below W.heap.size W wr)) (fun _ b13 _ => m - (intOf b13).toNat)
              case atStart => exact ⟨0, do', dcap, rfl, rfl, by omega, HR4, HB4⟩
              case round =>
                obtain ⟨k, xo, xcap, rfl, rfl, hk, HR, HB⟩ := hrel
                clear HR4 HB4
                by_cases hlt : (k : Int) < m
                · obtain ⟨y, hy⟩ : ∃ y, M[k]? = some y := ⟨_, List.getElem?_eq_getElem (by have := HM.out; omega)⟩
                  have hp : (y.pos : Int) ≤ 200 := by have := HPOS.out y (List.mem_of_getElem? hy); omega
                  have HTK := Lib.hid (show D ++ (M.take (k + 1)).map (sh (s.size + 1)) = (D ++ (M.take k).map (sh (s.size + 1))) ++ [sh (s.size + 1) y] by
                    have h := (List.getElem?_eq_some_iff.1 hy)
                    rw [List.take_succ_eq_append_getElem h.1, h.2, List.map_append, List.append_assoc]; rfl)
                  have HROW := Lib.hid (show (sh (s.size + 1) y).row = [.int .i64 (y.kd : Int), .string y.tx, .int .u64 (y.st.1 : Int), .int .u64 (y.st.2.1 : Int), .int .u64 (y.st.2.2.1 : Int), .int .u64 (y.st.2.2.2 : Int), .int .i64 ((y.pos : Int) + (s.size : Int) + 1)] by
                    show [Value.int .i64 (y.kd : Int), .string y.tx, .int .u64 (y.st.1 : Int), .int .u64 (y.st.2.1 : Int), .int .u64 (y.st.2.2.1 : Int), .int .u64 (y.st.2.2.2 : Int), .int .i64 ((s.size + 1 + y.pos : Nat) : Int)] = _
                    rw [show ((s.size + 1 + y.pos : Nat) : Int) = (y.pos : Int) + (s.size : Int) + 1 by omega])
                  have HTW := Lib.hid (HT3.out.below HB.out)
                  obtain ⟨b, off, hbo, hbl, c0, c1, c2, c3, c4, c5, c6⟩ := HTW.out k y hy
                  subst hbo
                  have hws := HB.out.size
                  have hg3w : g3 < wr.heap.size := by omega
                  clear hy HTW
                  go_upto_region 19 with fail
                  have HRV := Lib.hid (HR.out.alloc (.cells #[.int .i64 (y.kd : Int), .string y.tx, .int .u64 (y.st.1 : Int), .int .u64 (y.st.2.1 : Int), .int .u64 (y.st.2.2.1 : Int), .int .u64 (y.st.2.2.2 : Int), .int .i64 ((y.pos : Int) + (s.size : Int) + 1)] 27))
                  have HBV := Lib.hid (HB.out.alloc hws (.cells #[.int .i64 (y.kd : Int), .string y.tx, .int .u64 (y.st.1 : Int), .int .u64 (y.st.2.1 : Int), .int .u64 (y.st.2.2.1 : Int), .int .u64 (y.st.2.2.2 : Int), .int .i64 ((y.pos : Int) + (s.size : Int) + 1)] 27))
                  have HXV := Lib.hid (Own.fresh wr 27 [.int .i64 (y.kd : Int), .string y.tx, .int .u64 (y.st.1 : Int), .int .u64 (y.st.2.1 : Int), .int .u64 (y.st.2.2.1 : Int), .int .u64 (y.st.2.2.2 : Int), .int .i64 ((y.pos : Int) + (s.size : Int) + 1)])
                  have HLT := Lib.hid (own7_lt HR.out)
                  clear c0 c1 c2 c3 c4 c5 c6 HR HB
                  generalize World.alloc wr _ = V at *
                  generalize wr.heap.size = g7 at *
                  obtain ⟨x0, x1, x2, x3, x4, x5, x6⟩ := HXV.out.seven
                  have hVs := HBV.out.size
                  have HNW := Lib.hid (show ∀ j u, (sh (s.size + 1) y).row[j]? = some u → (V.alloc (.cells #[.int .i64 (y.kd : Int), .string y.tx, .int .u64 (y.st.1 : Int), .int .u64 (y.st.2.1 : Int), .int .u64 (y.st.2.2.1 : Int), .int .u64 (y.st.2.2.2 : Int), .int .i64 ((y.pos : Int) + (s.size : Int) + 1)] 27)).cell? ((⟨V.heap.size, 0, none⟩ : Addr).add j) = some u from fun j u hj => by
                    rw [Addr.add_lit, Nat.zero_add]; rw [HROW.out] at hj; exact ((Own.fresh V 27 [.int .i64 (y.kd : Int), .string y.tx, .int .u64 (y.st.1 : Int), .int .u64 (y.st.2.1 : Int), .int .u64 (y.st.2.2.1 : Int), .int .u64 (y.st.2.2.2 : Int), .int .i64 ((y.pos : Int) + (s.size : Int) + 1)]).cell j).trans hj)
                  have HCE := Lib.hid (tok_cells (sh (s.size + 1) y))
                  have hrl : (sh (s.size + 1) y).row.length = 1 * 7 := rfl
                  go_wp2_with (first
                    | (at_builtin; refine wpList_append_own _ rfl _ _ 30 rfl W.heap.size 27 i0 (.agg #[.int .i64 0, .string ⟨#[]⟩, .int .u64 0, .int .u64 0, .int .u64 0, .int .u64 0, .int .i64 0]) 7 64 Try.underlying30 IL.out.1 IL.out.2.1 IL.out.2.2.1 IL.out.2.2.2 rfl (by decide) (.slice xo (n + k) xcap) (n + k) (tokR (D ++ (M.take k).map (sh (s.size + 1)))) rfl (HRV.out.alloc _) ⟨V.heap.size, 0, none⟩ 1 1 (sh (s.size + 1) y).row rfl hrl HNW.out HCE.out (by unfold maxLen; omega) (by omega) (by simp; omega) ?_))
                  intro v' w6 hown6 hgrow _
                  have hown6' : w6.ownsRow W.heap.size 27 7 v' (n + (k + 1)) (tokR (D ++ (M.take (k + 1)).map (sh (s.size + 1)))) := by rw [HTK.out, tokR_snoc, List.map_take]; exact hown6
                  obtain ⟨xo', xcap', rfl⟩ := own7_form hown6'
                  have hge := own7_ge HRV.out
                  have HR6 := Lib.hid hown6'
                  have HB6 := Lib.hid (show Below W.heap.size W w6 from (HBV.out.alloc hVs (.cells #[.int .i64 (y.kd : Int), .string y.tx, .int .u64 (y.st.1 : Int), .int .u64 (y.st.2.1 : Int), .int .u64 (y.st.2.2.1 : Int), .int .u64 (y.st.2.2.2 : Int), .int .i64 ((y.pos : Int) + (s.size : Int) + 1)] 27)).trans ((But.grown (S := fun g => W.heap.size ≤ g) (But.refl _ _) hgrow (fun k hk _ => hge k hk)).below (by simp; omega) (fun _ h => h)))
                  clear hown6 hown6' hgrow HRV HBV HXV x0 x1 x2 x3 x4 x5 x6 hge
                  go_wp2
                  go_roundw
                  case rel => exact ⟨k + 1, xo', xcap', rfl, by go_num, by omega, HR6, HB6⟩
                  case measure => simp [intOf] <;> omega
                · obtain rfl : k = m := by omega
                  have HQR := Lib.hid (show D ++ (M.take k).map (sh (s.size + 1)) = Q by rw [List.take_of_length_le (by have := HM.out; omega)]; exact HQ.out)
                  have hql := HQL.out
                  have hR := HR.out
                  rw [HQR.out] at hR
                  have hR2 : wr.ownsRow W.heap.size 27 7 (.slice xo Q.length xcap) Q.length (tokR Q) := by rw [hql]; exact hR
                  have HW := Lib.hid (own7_has hR2)
                  have HAE := Lib.hid (keepb HA3.out HB.out)
                  have HHE := Lib.hid (HH3.out.under HB.out HH3.out.lt)
                  have HUE := Lib.hid (HU3.out.below HB.out)
                  have HQL2 := Lib.hid hql
                  clear hR hR2 hql HR HB HA3 HH3 HU3 HT3
                  go_wp2_with fail
                  refine (awake_any _).mono ?_
                  rintro e w7 ⟨rfl, hb7⟩
                  have HW7 := Lib.hid (HW.out.below hb7)
                  have HU7 := Lib.hid (HUE.out.below hb7)
                  have HA7 := Lib.hid (keepb HAE.out hb7)
                  have HH7 := Lib.hid (HHE.out.under hb7 HHE.out.lt)
                  clear hb7 HW HUE HAE HHE
                  obtain ⟨z0, z1, z2, z3, -⟩ := HH7.out.four
                  have HSM := Lib.hid (show Calls Try.prog 13 #[.slice co (n + k) ccap, .slice xo (n + k) xcap] w7 fun e w' => e = .returned (.bool true) ∧ Below w7.heap.size w7 w' from by
                    have h := same5_any Q Q co xo ccap xcap (by have := HQL2.out; omega) (by have := HQL2.out; omega) w7 HU7.out HW7.out
                    rw [HQL2.out, decide_eq_true rfl] at h
                    exact h)
                  go_wp2_with fail
                  refine HSM.out.mono ?_
                  rintro e w8 ⟨rfl, hb8⟩
                  go_wp2
                  go_ret
                  exact ⟨rfl, keepb HA7.out hb8⟩
    · go_enter Try.func4, Try.ntmps4
      go_wp2_with fail
      refine (awake_any _).mono ?_
      rintro e w9 ⟨rfl, hb9⟩
      go_wp2
      go_ret
      exact ⟨rfl, hb9⟩
  · go_enter Try.func4, Try.ntmps4
    go_wp2_with fail
    refine (awake_any _).mono ?_
    rintro e w9 ⟨rfl, hb9⟩
    go_wp2
    go_ret
    exact ⟨rfl, hb9⟩
end Go.Proofs.Ytinkgidncdjapab
