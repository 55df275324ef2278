/- What stands behind a bar, and ahead of one, is read as if it stood alone: the parts of a query. -/
import Derived.Test.YtialpofiagiclaaDoorQpP
import Derived.Test.YtialpofiagiclaaDoorQuoteS
namespace Go.Proofs.YtialpofiagiclaaDoor
set_option linter.unusedVariables false
set_option maxRecDepth 1000000
open Go.RowKit

/-- U is d bytes, and then t. -/
def Suf (U t : ByteArray) (d : Nat) : Prop := ∃ pre, U.data.toList = pre ++ t.data.toList ∧ pre.length = d
section
variable {U t : ByteArray} {d : Nat}
theorem Suf.size (h : Suf U t d) : U.size = d + t.size := by
  obtain ⟨pre, h, hd⟩ := h
  have h1 : U.data.toList.length = U.size := by simp
  have h2 : t.data.toList.length = t.size := by simp
  rw [← h1, h, List.length_append, hd, h2]
theorem Suf.byt (h : Suf U t d) (k : Nat) : byt U (d + k) = byt t k := by
  obtain ⟨pre, h, hd⟩ := h
  unfold Go.Proofs.YtialpofiagiclaaDoor.byt
  rw [h, List.getD_eq_getElem?_getD, List.getD_eq_getElem?_getD, List.getElem?_append_right (by omega), hd, Nat.add_sub_cancel_left]
theorem Suf.cut (h : Suf U t d) (a b : Nat) : U.extract (d + a) (d + b) = t.extract a b := by
  obtain ⟨pre, h, hd⟩ := h
  apply bytes_eq
  rw [ByteArray.data_extract, ByteArray.data_extract]
  simp only [Array.toList_extract, List.extract_eq_take_drop]
  rw [h, show d + b - (d + a) = b - a by omega, ← hd, List.drop_append, List.drop_of_length_le (by omega), List.nil_append, Nat.add_sub_cancel_left]
theorem Suf.stand (h : Suf U t d) (k : Nat) (c : Int) : standB U ((d + k : Nat) : Int) c = standB t (k : Int) c := by
  have := h.size
  by_cases g : k < t.size
  · rw [stand_in g, stand_in (by omega), h.byt]
  · rw [stand_out g, stand_out (by omega)]
def mv (d : Nat) {α : Type} : Option (α × Nat) → Option (α × Nat)
  | none => none
  | some (x, m) => some (x, d + m)
theorem Suf.hexN (h : Suf U t d) (a : Nat) : ∀ m, hexN U (d + a) m = hexN t a m
  | 0 => rfl
  | m + 1 => by
    have hs := h.size
    show (if Go.Proofs.YtialpofiagiclaaDoor.hexN U (d + a) m = m ∧ d + a + m < U.size ∧ 0 ≤ hexV (Go.Proofs.YtialpofiagiclaaDoor.byt U (d + a + m)) then m + 1 else Go.Proofs.YtialpofiagiclaaDoor.hexN U (d + a) m) = (if Go.Proofs.YtialpofiagiclaaDoor.hexN t a m = m ∧ a + m < t.size ∧ 0 ≤ hexV (Go.Proofs.YtialpofiagiclaaDoor.byt t (a + m)) then m + 1 else Go.Proofs.YtialpofiagiclaaDoor.hexN t a m)
    rw [h.hexN a m, Nat.add_assoc, h.byt]
    by_cases g : Go.Proofs.YtialpofiagiclaaDoor.hexN t a m = m ∧ a + m < t.size ∧ 0 ≤ hexV (Go.Proofs.YtialpofiagiclaaDoor.byt t (a + m))
    · rw [if_pos g, if_pos ⟨g.1, by omega, g.2.2⟩]
    · rw [if_neg g, if_neg (fun q => g ⟨q.1, by omega, q.2.2⟩)]
theorem Suf.valN (h : Suf U t d) (a : Nat) : ∀ m, valN U (d + a) m = valN t a m
  | 0 => rfl
  | m + 1 => by
    show Go.Proofs.YtialpofiagiclaaDoor.valN U (d + a) m * 16 + hexV (Go.Proofs.YtialpofiagiclaaDoor.byt U (d + a + m)) = Go.Proofs.YtialpofiagiclaaDoor.valN t a m * 16 + hexV (Go.Proofs.YtialpofiagiclaaDoor.byt t (a + m))
    rw [h.valN a m, Nat.add_assoc, h.byt]
theorem Suf.signO (h : Suf U t d) (a : Nat) : signO U (d + a) = mv d (signO t a) := by
  unfold Go.Proofs.YtialpofiagiclaaDoor.signO
  rw [h.hexN, h.valN, show d + a + Go.Proofs.YtialpofiagiclaaDoor.hexN t a 6 = d + (a + Go.Proofs.YtialpofiagiclaaDoor.hexN t a 6) by omega, h.stand]
  split
  · rfl
  · rfl
theorem Suf.escO (h : Suf U t d) (k : Nat) (sp : ByteArray) : escO U (d + k) sp = mv d (escO t k sp) := by
  have hs := h.size
  by_cases g : k < t.size
  · rw [escO_at g rfl, escO_at (show d + k < U.size by omega) (h.byt k), show d + k + 1 = d + (k + 1) by omega, show d + k + 2 = d + (k + 2) by omega, h.hexN, h.valN, h.stand, h.signO]
    split
    · rfl
    · split
      · rfl
      · split
        · rfl
        · split
          · split <;> rfl
          · split <;> rfl
  · rw [escO_out g, escO_out (by omega)]; rfl
theorem Suf.readO (h : Suf U t d) (k : Nat) (sp : ByteArray) : readO U (d + k) sp = mv d (readO t k sp) := by
  have hs := h.size
  by_cases g : k < t.size
  · rw [readO_at g rfl, readO_at (show d + k < U.size by omega) (h.byt k), show d + k + 1 = d + (k + 1) by omega, h.escO]
    split
    · rfl
    · split <;> rfl
  · rw [readO_out g, readO_out (by omega)]; rfl
theorem Suf.txtF (h : Suf U t d) : ∀ f k out, txtF U f (d + k) out = mv d (txtF t f k out)
  | 0, k, out => rfl
  | f + 1, k, out => by
    have hs := h.size
    rw [txtF.eq_2, txtF.eq_2, h.byt, h.readO]
    by_cases g : k < t.size
    · rw [if_pos g, if_pos (by omega)]
      split
      · split <;> rfl
      · cases hq : Go.Proofs.YtialpofiagiclaaDoor.readO t k spT with
        | none => rfl
        | some q => obtain ⟨u, m⟩ := q; exact h.txtF f m _
    · rw [if_neg g, if_neg (by omega)]; rfl
end
/-- More fuel changes nothing. -/
theorem txtF_fuel {s : ByteArray} : ∀ f g k out, s.size < f + k → s.size < g + k → txtF s f k out = txtF s g k out
  | 0, g, k, out, h1, h2 => by rw [txtF_out (by omega), txtF_out (by omega)]
  | f + 1, 0, k, out, h1, h2 => by rw [txtF_out (by omega), txtF_out (by omega)]
  | f + 1, g + 1, k, out, h1, h2 => by
    rw [txtF.eq_2, txtF.eq_2]
    split
    · split
      · rfl
      · cases hq : readO s k spT with
        | none => rfl
        | some q => obtain ⟨u, m⟩ := q; have := readO_bd hq; exact txtF_fuel f g m _ (by omega) (by omega)
    · rfl

section
variable {U t : ByteArray} {d : Nat}
theorem Suf.txtO (h : Suf U t d) (k : Nat) : txtO U ((d + k : Nat) : Int) = mv d (txtO t (k : Int)) := by
  have hs := h.size
  unfold Go.Proofs.YtialpofiagiclaaDoor.txtO
  rw [h.stand, Int.toNat_natCast, Int.toNat_natCast, Nat.add_assoc, h.txtF, txtF_fuel (U.size + 1) (t.size + 1) (k + 1) _ (by omega) (by omega)]
  split <;> rfl
theorem Suf.tk (h : Suf U t d) (k : Nat) (x : List UInt8) : tk U (d + k) x = tk t k x := by
  obtain ⟨pre, h, hd⟩ := h
  unfold Go.Proofs.YtialpofiagiclaaDoor.tk
  rw [h, ← hd, List.drop_append, List.drop_of_length_le (by omega), List.nil_append, Nat.add_sub_cancel_left]
theorem Suf.axR (h : Suf U t d) (k : Nat) : axR U (d + k) = ((axR t k).1, d + (axR t k).2) := by
  unfold Go.Proofs.YtialpofiagiclaaDoor.axR
  rw [h.tk, h.tk, h.tk, h.tk]
  split
  · rfl
  · split
    · rfl
    · split
      · rfl
      · split <;> rfl
theorem Suf.kwF (h : Suf U t d) (k : Nat) : ∀ f j, kwF U (d + k) f j = kwF t k f j
  | 0, j => rfl
  | f + 1, j => by
    show (if Go.Proofs.YtialpofiagiclaaDoor.tk U (d + k) (kwL j) = true then j else Go.Proofs.YtialpofiagiclaaDoor.kwF U (d + k) f (j + 1)) = (if Go.Proofs.YtialpofiagiclaaDoor.tk t k (kwL j) = true then j else Go.Proofs.YtialpofiagiclaaDoor.kwF t k f (j + 1))
    rw [h.tk, h.kwF k f (j + 1)]
theorem Suf.inW (h : Suf U t d) (k : Nat) : inW U (d + k) = inW t k := by
  unfold Go.Proofs.YtialpofiagiclaaDoor.inW
  rw [Nat.add_assoc, h.cut]
theorem Suf.nmF (h : Suf U t d) : ∀ f k, nmF U f (d + k) = d + nmF t f k
  | 0, k => rfl
  | f + 1, k => by
    have hs := h.size
    show (if d + k < U.size ∧ Go.Proofs.YtialpofiagiclaaDoor.inW U (d + k) = true then Go.Proofs.YtialpofiagiclaaDoor.nmF U f (d + k + 1) else d + k) = d + (if k < t.size ∧ Go.Proofs.YtialpofiagiclaaDoor.inW t k = true then Go.Proofs.YtialpofiagiclaaDoor.nmF t f (k + 1) else k)
    rw [h.inW, Nat.add_assoc, h.nmF f (k + 1)]
    by_cases g : k < t.size ∧ Go.Proofs.YtialpofiagiclaaDoor.inW t k = true
    · rw [if_pos g, if_pos ⟨by omega, g.2⟩]
    · rw [if_neg g, if_neg (fun q => g ⟨by omega, q.2⟩)]
def mvW (d : Nat) : Option (Int × ByteArray × Nat) → Option (Int × ByteArray × Nat)
  | none => none
  | some (a, b, m) => some (a, b, d + m)
theorem Suf.whR (h : Suf U t d) (k : Nat) : whR U (d + k) = mvW d (whR t k) := by
  unfold Go.Proofs.YtialpofiagiclaaDoor.whR
  rw [h.kwF, h.tk, h.nmF, h.cut]
  split
  · show some _ = some _; rw [Nat.add_assoc]
  · split
    · show some _ = some _; rw [Nat.add_assoc]
    · split <;> rfl
def mvE (d : Nat) {α : Type} : Except Nat (α × Nat) → Except Nat (α × Nat)
  | .error e => .error (d + e)
  | .ok (x, m) => .ok (x, d + m)
theorem Suf.litR (h : Suf U t d) (c : UInt8) (k : Nat) : litR c U (d + k) = mvE d (litR c t k) := by
  unfold Go.Proofs.YtialpofiagiclaaDoor.litR
  rw [h.tk, Nat.add_assoc, h.txtO]
  split
  · cases Go.Proofs.YtialpofiagiclaaDoor.txtO t ((k + 1 : Nat) : Int) with
    | none => rfl
    | some p => rfl
  · rfl
theorem Suf.digB (h : Suf U t d) (k : Nat) : digB U (d + k) = digB t k := by unfold Go.Proofs.YtialpofiagiclaaDoor.digB; rw [h.byt]
theorem Suf.dgF (h : Suf U t d) (b : Nat) : ∀ f k n, dgF U (d + b) f (d + k) n = ((dgF t b f k n).1, d + (dgF t b f k n).2)
  | 0, k, n => rfl
  | f + 1, k, n => by
    have hs := h.size
    show (if d + k < U.size ∧ Go.Proofs.YtialpofiagiclaaDoor.digB U (d + k) = true ∧ Go.Proofs.YtialpofiagiclaaDoor.byt U (d + b) ≠ 48 then Go.Proofs.YtialpofiagiclaaDoor.dgF U (d + b) f (d + k + 1) (10 * n + (Go.Proofs.YtialpofiagiclaaDoor.byt U (d + k) - 48)) else (n, d + k)) =
      ((if k < t.size ∧ Go.Proofs.YtialpofiagiclaaDoor.digB t k = true ∧ Go.Proofs.YtialpofiagiclaaDoor.byt t b ≠ 48 then Go.Proofs.YtialpofiagiclaaDoor.dgF t b f (k + 1) (10 * n + (Go.Proofs.YtialpofiagiclaaDoor.byt t k - 48)) else (n, k)).1, d + (if k < t.size ∧ Go.Proofs.YtialpofiagiclaaDoor.digB t k = true ∧ Go.Proofs.YtialpofiagiclaaDoor.byt t b ≠ 48 then Go.Proofs.YtialpofiagiclaaDoor.dgF t b f (k + 1) (10 * n + (Go.Proofs.YtialpofiagiclaaDoor.byt t k - 48)) else (n, k)).2)
    rw [h.digB, h.byt, h.byt, Nat.add_assoc, h.dgF b f (k + 1)]
    by_cases g : k < t.size ∧ Go.Proofs.YtialpofiagiclaaDoor.digB t k = true ∧ Go.Proofs.YtialpofiagiclaaDoor.byt t b ≠ 48
    · rw [if_pos g, if_pos ⟨by omega, g.2⟩]
    · rw [if_neg g, if_neg (fun q => g ⟨by omega, q.2⟩)]
theorem Suf.nthR (h : Suf U t d) (k : Nat) : nthR U (d + k) = mvE d (nthR t k) := by
  unfold Go.Proofs.YtialpofiagiclaaDoor.nthR
  rw [h.tk, Nat.add_assoc, h.dgF]
  simp only [h.tk, Nat.add_assoc]
  split
  · split <;> rfl
  · rfl
theorem Suf.hopR (h : Suf U t d) (k : Nat) : hopR U (d + k) = mvE d (hopR t k) := by
  unfold Go.Proofs.YtialpofiagiclaaDoor.hopR
  rw [h.axR]
  simp only []
  split
  · rfl
  · rw [h.whR]
    cases Go.Proofs.YtialpofiagiclaaDoor.whR t (Go.Proofs.YtialpofiagiclaaDoor.axR t k).2 with
    | none => rfl
    | some p =>
      obtain ⟨kd, nm, k2⟩ := p
      simp only [mvW]
      rw [h.litR]
      cases Go.Proofs.YtialpofiagiclaaDoor.litR 61 t k2 with
      | error e => rfl
      | ok p =>
        obtain ⟨is, k3⟩ := p
        simp only [mvE]
        rw [h.litR]
        cases Go.Proofs.YtialpofiagiclaaDoor.litR 126 t k3 with
        | error e => rfl
        | ok p =>
          obtain ⟨has, k4⟩ := p
          simp only [mvE]
          rw [h.nthR]
          cases Go.Proofs.YtialpofiagiclaaDoor.nthR t k4 with
          | error e => rfl
          | ok p => obtain ⟨n, k5⟩ := p; rfl
end
/-- U is s, a bar, and something more. -/
def Pre (U s : ByteArray) : Prop := ∃ r, U.data.toList = s.data.toList ++ (124 :: r)
section
variable {U s : ByteArray}
theorem Pre.size (h : Pre U s) : s.size < U.size := by
  obtain ⟨r, h⟩ := h
  have h1 : U.data.toList.length = U.size := by simp
  have h2 : s.data.toList.length = s.size := by simp
  rw [← h1, h, List.length_append, h2, List.length_cons]; omega
theorem Pre.byt (h : Pre U s) {k : Nat} (hk : k < s.size) : byt U k = byt s k := by
  obtain ⟨r, h⟩ := h
  have h2 : s.data.toList.length = s.size := by simp
  unfold Go.Proofs.YtialpofiagiclaaDoor.byt
  rw [h, List.getD_eq_getElem?_getD, List.getD_eq_getElem?_getD, List.getElem?_append_left (by omega)]
theorem Pre.blank (h : Pre U s) : Go.Proofs.YtialpofiagiclaaDoor.byt U s.size = 124 := by
  obtain ⟨r, h⟩ := h
  have h2 : s.data.toList.length = s.size := by simp
  unfold Go.Proofs.YtialpofiagiclaaDoor.byt
  rw [h, List.getD_eq_getElem?_getD, List.getElem?_append_right (by omega), h2, Nat.sub_self]; rfl
theorem Pre.cut (h : Pre U s) (a : Nat) {b : Nat} (hb : b ≤ s.size) : U.extract a b = s.extract a b := by
  obtain ⟨r, h⟩ := h
  have h2 : s.data.toList.length = s.size := by simp
  apply bytes_eq
  rw [ByteArray.data_extract, ByteArray.data_extract]
  simp only [Array.toList_extract, List.extract_eq_take_drop]
  rw [h]
  by_cases g : a ≤ b
  · rw [List.drop_append_of_le_length (by omega), List.take_append_of_le_length (by rw [List.length_drop]; omega)]
  · rw [show b - a = 0 by omega]; simp
theorem Pre.stand (h : Pre U s) {k : Nat} (hk : k ≤ s.size) {c : Int} (hc : c ≠ 124) : standB U (k : Int) c = standB s (k : Int) c := by
  have hs := h.size
  by_cases g : k < s.size
  · rw [stand_in g, stand_in (by omega), h.byt g]
  · obtain rfl : k = s.size := by omega
    rw [stand_out g, stand_in hs, h.blank]
    exact beq_eq_false_iff_ne.2 (fun e => hc e.symm)
theorem Pre.hexN (h : Pre U s) {a : Nat} (ha : a ≤ s.size) : ∀ m, hexN U a m = hexN s a m ∧ a + hexN s a m ≤ s.size
  | 0 => ⟨rfl, ha⟩
  | m + 1 => by
    have hs := h.size
    obtain ⟨h1, h2⟩ := h.hexN ha m
    show (if Go.Proofs.YtialpofiagiclaaDoor.hexN U a m = m ∧ a + m < U.size ∧ 0 ≤ hexV (Go.Proofs.YtialpofiagiclaaDoor.byt U (a + m)) then m + 1 else Go.Proofs.YtialpofiagiclaaDoor.hexN U a m) = (if Go.Proofs.YtialpofiagiclaaDoor.hexN s a m = m ∧ a + m < s.size ∧ 0 ≤ hexV (Go.Proofs.YtialpofiagiclaaDoor.byt s (a + m)) then m + 1 else Go.Proofs.YtialpofiagiclaaDoor.hexN s a m) ∧
      a + (if Go.Proofs.YtialpofiagiclaaDoor.hexN s a m = m ∧ a + m < s.size ∧ 0 ≤ hexV (Go.Proofs.YtialpofiagiclaaDoor.byt s (a + m)) then m + 1 else Go.Proofs.YtialpofiagiclaaDoor.hexN s a m) ≤ s.size
    rw [h1]
    by_cases g : Go.Proofs.YtialpofiagiclaaDoor.hexN s a m = m ∧ a + m < s.size ∧ 0 ≤ hexV (Go.Proofs.YtialpofiagiclaaDoor.byt s (a + m))
    · rw [if_pos g, if_pos ⟨g.1, by omega, by rw [h.byt g.2.1]; exact g.2.2⟩]
      exact ⟨rfl, by omega⟩
    · rw [if_neg g, if_neg]
      · exact ⟨rfl, h2⟩
      · rintro ⟨q1, q2, q3⟩
        by_cases q4 : a + m < s.size
        · rw [h.byt q4] at q3; exact g ⟨q1, q4, q3⟩
        · rw [show a + m = s.size by omega, h.blank] at q3
          revert q3; decide
theorem Pre.valN (h : Pre U s) {a : Nat} : ∀ m, a + m ≤ s.size → valN U a m = valN s a m
  | 0, _ => rfl
  | m + 1, hm => by
    show Go.Proofs.YtialpofiagiclaaDoor.valN U a m * 16 + hexV (Go.Proofs.YtialpofiagiclaaDoor.byt U (a + m)) = Go.Proofs.YtialpofiagiclaaDoor.valN s a m * 16 + hexV (Go.Proofs.YtialpofiagiclaaDoor.byt s (a + m))
    rw [h.valN m (by omega), h.byt (by omega)]
theorem Pre.signO (h : Pre U s) {a : Nat} (ha : a ≤ s.size) : signO U a = signO s a := by
  obtain ⟨h1, h2⟩ := h.hexN ha 6
  unfold Go.Proofs.YtialpofiagiclaaDoor.signO
  rw [h1, h.valN _ h2, h.stand h2 (by decide)]
theorem Pre.escO (h : Pre U s) {k : Nat} (hk : k ≤ s.size) {sp : ByteArray} (hsp : isSp sp 124 = false) : escO U k sp = escO s k sp := by
  have hs := h.size
  by_cases g : k < s.size
  · rw [escO_at g rfl, escO_at (show k < U.size by omega) (h.byt g), (h.hexN (a := k + 1) (by omega) 2).1, h.stand (k := k + 1) (by omega) (by decide)]
    have hx := (h.hexN (a := k + 1) (by omega) 2).2
    have e1 : (if Go.Proofs.YtialpofiagiclaaDoor.hexN s (k + 1) 2 = 2 then some (strOfNums [Go.Proofs.YtialpofiagiclaaDoor.valN U (k + 1) 2], k + 3) else none) = (if Go.Proofs.YtialpofiagiclaaDoor.hexN s (k + 1) 2 = 2 then some (strOfNums [Go.Proofs.YtialpofiagiclaaDoor.valN s (k + 1) 2], k + 3) else none) := by
      split
      · rename_i q; rw [h.valN 2 (by omega)]
      · rfl
    have e2 : (if Go.Proofs.YtialpofiagiclaaDoor.byt s k = 117 ∧ standB s ((k + 1 : Nat) : Int) 123 = true then Go.Proofs.YtialpofiagiclaaDoor.signO U (k + 2) else none) = (if Go.Proofs.YtialpofiagiclaaDoor.byt s k = 117 ∧ standB s ((k + 1 : Nat) : Int) 123 = true then Go.Proofs.YtialpofiagiclaaDoor.signO s (k + 2) else none) := by
      split
      · rename_i q; have := (stand_iff.1 q.2).1; rw [h.signO (by omega)]
      · rfl
    rw [e1, e2]
  · obtain rfl : k = s.size := by omega
    rw [escO_out g, escO_at hs h.blank, if_neg (by decide), if_neg (by decide), hsp]; rfl
theorem signO_end {a m : Nat} {u : ByteArray} (h : signO s a = some (u, m)) : m ≤ s.size := by
  unfold Go.Proofs.YtialpofiagiclaaDoor.signO at h
  split at h
  · rename_i g; have := (stand_iff.1 g.2.1).1; injection h with h; injection h with h1 h2; omega
  · cases h
theorem escO_end {k m : Nat} {sp u : ByteArray} (h : escO s k sp = some (u, m)) : m ≤ s.size := by
  by_cases hk : k < s.size
  · rw [escO_at hk rfl] at h
    split at h
    · injection h with h; injection h with h1 h2; omega
    · split at h
      · injection h with h; injection h with h1 h2; omega
      · split at h
        · injection h with h; injection h with h1 h2; omega
        · split at h
          · split at h
            · rename_i g
              injection h with h; injection h with h1 h2
              have key : ∀ n, Go.Proofs.YtialpofiagiclaaDoor.hexN s (k + 1) n = n → 0 < n → k + 1 + n ≤ s.size := fun n => by
                intro hn h0
                obtain ⟨q, rfl⟩ : ∃ q, n = q + 1 := ⟨n - 1, by omega⟩
                have hle := hexN_le s (k + 1) q
                by_cases c : Go.Proofs.YtialpofiagiclaaDoor.hexN s (k + 1) q = q ∧ k + 1 + q < s.size ∧ 0 ≤ hexV (Go.Proofs.YtialpofiagiclaaDoor.byt s (k + 1 + q))
                · omega
                · have : Go.Proofs.YtialpofiagiclaaDoor.hexN s (k + 1) (q + 1) = Go.Proofs.YtialpofiagiclaaDoor.hexN s (k + 1) q := by show (if _ then _ else _) = _; rw [if_neg c]
                  omega
              have := key 2 g (by decide); omega
            · cases h
          · split at h
            · exact signO_end h
            · cases h
  · rw [escO_out hk] at h; cases h
theorem readO_end {k m : Nat} {sp u : ByteArray} (h : readO s k sp = some (u, m)) : m ≤ s.size := by
  by_cases hk : k < s.size
  · rw [readO_at hk rfl] at h
    split at h
    · injection h with h; injection h with h1 h2; omega
    · split at h
      · exact escO_end h
      · cases h
  · rw [readO_out hk] at h; cases h
theorem Pre.readO (h : Pre U s) {k : Nat} (hk : k < s.size) {sp : ByteArray} (hsp : isSp sp 124 = false) : readO U k sp = readO s k sp := by
  have hs := h.size
  rw [readO_at hk rfl, readO_at (show k < U.size by omega) (h.byt hk), h.escO (by omega) hsp]
theorem Pre.txtF (h : Pre U s) : ∀ f k out q, txtF s f k out = some q → txtF U f k out = some q
  | 0, k, out, q, hq => by cases hq
  | f + 1, k, out, q, hq => by
    have hs := h.size
    rw [txtF.eq_2] at hq ⊢
    split at hq
    · rename_i hk
      rw [if_pos (by omega), h.byt hk, h.readO hk (by decide +kernel)]
      split at hq
      · rename_i hc; rw [if_pos hc]; exact hq
      · rename_i hc
        rw [if_neg hc]
        cases hr : Go.Proofs.YtialpofiagiclaaDoor.readO s k spT with
        | none => rw [hr] at hq; cases hq
        | some p => obtain ⟨u, m⟩ := p; rw [hr] at hq; exact h.txtF f m _ q hq
    · cases hq
theorem Pre.txtO (h : Pre U s) {k : Nat} (hk : k < s.size) {q : ByteArray × Nat} (hq : txtO s (k : Int) = some q) : txtO U (k : Int) = some q := by
  have hs := h.size
  unfold Go.Proofs.YtialpofiagiclaaDoor.txtO at hq ⊢
  rw [h.stand (by omega) (by decide)]
  split at hq
  · rename_i g
    rw [if_pos g, Int.toNat_natCast, txtF_fuel (U.size + 1) (U.size + 1 + 0) _ _ (by omega) (by omega)]
    rw [Int.toNat_natCast, txtF_fuel (s.size + 1) (U.size + 1) _ _ (by omega) (by omega)] at hq
    exact h.txtF _ _ _ _ hq
  · cases hq
theorem pre_bar : ∀ (x l r : List UInt8), (∀ c ∈ x, c ≠ 124) → x.isPrefixOf (l ++ 124 :: r) = x.isPrefixOf l
  | [], l, r, _ => by simp
  | a :: x, [], r, h => by
    have := h a (.head _)
    show (a == 124 && x.isPrefixOf r) = false
    rw [beq_eq_false_iff_ne.2 this, Bool.false_and]
  | a :: x, b :: l, r, h => by
    show (a == b && x.isPrefixOf (l ++ 124 :: r)) = (a == b && x.isPrefixOf l)
    rw [pre_bar x l r fun c hc => h c (.tail _ hc)]
theorem Pre.tk (h : Pre U s) {k : Nat} (hk : k ≤ s.size) {x : List UInt8} (hx : ∀ c ∈ x, c ≠ 124) : tk U k x = tk s k x := by
  obtain ⟨r, h⟩ := h
  unfold Go.Proofs.YtialpofiagiclaaDoor.tk
  rw [h, List.drop_append_of_le_length (by simpa using hk), pre_bar _ _ _ hx]
theorem Pre.axR (h : Pre U s) {k : Nat} (hk : k ≤ s.size) : axR U k = axR s k := by
  unfold Go.Proofs.YtialpofiagiclaaDoor.axR
  rw [h.tk hk (by decide), h.tk hk (by decide), h.tk hk (by decide), h.tk hk (by decide)]
theorem kwL_bar (j : Nat) : ∀ c ∈ kwL j, c ≠ 124 := by
  unfold kwL
  split <;> decide
theorem Pre.kwF (h : Pre U s) {k : Nat} (hk : k ≤ s.size) : ∀ f j, kwF U k f j = kwF s k f j
  | 0, j => rfl
  | f + 1, j => by
    show (if Go.Proofs.YtialpofiagiclaaDoor.tk U k (kwL j) = true then j else Go.Proofs.YtialpofiagiclaaDoor.kwF U k f (j + 1)) = (if Go.Proofs.YtialpofiagiclaaDoor.tk s k (kwL j) = true then j else Go.Proofs.YtialpofiagiclaaDoor.kwF s k f (j + 1))
    rw [h.tk hk (kwL_bar j), h.kwF hk f (j + 1)]
theorem Pre.nmF (h : Pre U s) : ∀ f k, k ≤ s.size → nmF U f k = nmF s f k
  | 0, k, _ => rfl
  | f + 1, k, hk => by
    have hs := h.size
    show (if k < U.size ∧ inW U k = true then Go.Proofs.YtialpofiagiclaaDoor.nmF U f (k + 1) else k) = (if k < s.size ∧ inW s k = true then Go.Proofs.YtialpofiagiclaaDoor.nmF s f (k + 1) else k)
    by_cases g : k < s.size
    · have e : inW U k = inW s k := by rw [inW_ok (by omega), inW_ok g, h.byt g]
      rw [e]
      by_cases g2 : inW s k = true
      · rw [if_pos ⟨by omega, g2⟩, if_pos ⟨g, g2⟩, h.nmF f (k + 1) (by omega)]
      · rw [if_neg (fun q => g2 q.2), if_neg (fun q => g2 q.2)]
    · obtain rfl : k = s.size := by omega
      have e : inW U s.size = false := by rw [inW_ok hs, h.blank]; rfl
      rw [e, if_neg (fun q => by cases q.2), if_neg (fun q => g q.1)]
theorem Pre.whR (h : Pre U s) {k : Nat} (hk : k ≤ s.size) : whR U k = whR s k := by
  unfold Go.Proofs.YtialpofiagiclaaDoor.whR
  rw [h.kwF hk, h.tk hk (by decide), h.nmF 12 k hk, h.cut k (nmF_bd s 12 k hk).2.1]
theorem Pre.litR (h : Pre U s) {c : UInt8} (hc : c ≠ 124) {k : Nat} (hk : k ≤ s.size) {p : ByteArray × Nat} (hq : litR c s k = .ok p) : litR c U k = .ok p := by
  unfold Go.Proofs.YtialpofiagiclaaDoor.litR at hq ⊢
  rw [h.tk hk (by intro x hx; rw [List.mem_singleton] at hx; rw [hx]; exact hc)]
  split at hq
  · rename_i g
    rw [if_pos g]
    cases ht : Go.Proofs.YtialpofiagiclaaDoor.txtO s ((k + 1 : Nat) : Int) with
    | none => rw [ht] at hq; cases hq
    | some q =>
      rw [ht] at hq
      obtain ⟨u, m⟩ := q
      have hb := txtO_bd ht
      rw [h.txtO (by omega) ht]
      exact hq
  · rename_i g
    rw [if_neg g]
    exact hq
theorem Pre.dgF (h : Pre U s) {b : Nat} : ∀ f k n, b ≤ k → k ≤ s.size → dgF U b f k n = dgF s b f k n
  | 0, k, n, _, _ => rfl
  | f + 1, k, n, hb, hk => by
    have hs := h.size
    show (if k < U.size ∧ digB U k = true ∧ Go.Proofs.YtialpofiagiclaaDoor.byt U b ≠ 48 then Go.Proofs.YtialpofiagiclaaDoor.dgF U b f (k + 1) (10 * n + (Go.Proofs.YtialpofiagiclaaDoor.byt U k - 48)) else (n, k)) = (if k < s.size ∧ digB s k = true ∧ Go.Proofs.YtialpofiagiclaaDoor.byt s b ≠ 48 then Go.Proofs.YtialpofiagiclaaDoor.dgF s b f (k + 1) (10 * n + (Go.Proofs.YtialpofiagiclaaDoor.byt s k - 48)) else (n, k))
    by_cases g : k < s.size
    · have e : digB U k = digB s k := by unfold digB; rw [h.byt g]
      rw [e, h.byt g, h.byt (show b < s.size by omega)]
      by_cases g2 : digB s k = true ∧ Go.Proofs.YtialpofiagiclaaDoor.byt s b ≠ 48
      · rw [if_pos ⟨by omega, g2⟩, if_pos ⟨g, g2⟩, h.dgF f (k + 1) _ (by omega) (by omega)]
      · rw [if_neg (fun q => g2 q.2), if_neg (fun q => g2 q.2)]
    · obtain rfl : k = s.size := by omega
      have e : digB U s.size = false := by unfold digB; rw [h.blank]; rfl
      rw [if_neg (fun q => by rw [e] at q; cases q.2.1), if_neg (fun q => g q.1)]
theorem Pre.nthR (h : Pre U s) {k : Nat} (hk : k ≤ s.size) : nthR U k = nthR s k := by
  unfold Go.Proofs.YtialpofiagiclaaDoor.nthR
  rw [h.tk hk (by decide)]
  split
  · rename_i g
    have h2 := tk_size g hk
    simp at h2
    have hb := dgF_bd s (k + 1) 4 (k + 1) 0 h2 (by omega)
    rw [h.dgF 4 (k + 1) 0 (Nat.le_refl _) h2, h.tk hb.2.1 (by decide)]
  · rfl
theorem Pre.hopR (h : Pre U s) {k : Nat} (hk : k ≤ s.size) {p : Hp × Nat} (hq : hopR s k = .ok p) : hopR U k = .ok p := by
  have ha := axR_bd s k hk
  unfold Go.Proofs.YtialpofiagiclaaDoor.hopR at hq ⊢
  rw [h.axR hk, h.whR ha.2.1]
  by_cases h0 : (Go.Proofs.YtialpofiagiclaaDoor.axR s k).1 = 0
  · rw [if_pos h0] at hq; cases hq
  · rw [if_neg h0] at hq ⊢
    cases hw : Go.Proofs.YtialpofiagiclaaDoor.whR s (Go.Proofs.YtialpofiagiclaaDoor.axR s k).2 with
    | none => rw [hw] at hq; cases hq
    | some p =>
      obtain ⟨kd, nm, k2⟩ := p
      have h2 := whR_bd ha.2.1 hw
      rw [hw] at hq
      simp only [] at hq ⊢
      cases h3 : Go.Proofs.YtialpofiagiclaaDoor.litR 61 s k2 with
      | error e => rw [h3] at hq; cases hq
      | ok p =>
        obtain ⟨is, k3⟩ := p
        have l1 := (litR_bd (c := 61) h2.2.1).1 is k3 h3
        rw [h3] at hq
        rw [h.litR (by decide) h2.2.1 h3]
        simp only [] at hq ⊢
        cases h4 : Go.Proofs.YtialpofiagiclaaDoor.litR 126 s k3 with
        | error e => rw [h4] at hq; cases hq
        | ok p =>
          obtain ⟨has, k4⟩ := p
          have l2 := (litR_bd (c := 126) l1.2.1).1 has k4 h4
          rw [h4] at hq
          rw [h.litR (by decide) l1.2.1 h4]
          simp only [] at hq ⊢
          rw [h.nthR l2.2.1]
          exact hq
end
end Go.Proofs.YtialpofiagiclaaDoor
