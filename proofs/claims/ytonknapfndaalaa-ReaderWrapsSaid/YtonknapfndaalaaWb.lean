/- What is written, as tokens: what an expression is that may be, and with what it begins. Math alone. -/
import Derived.Test.YtonknapfndaalaaWa
import Derived.Test.YtonknapfndaalaaWrt
import Derived.Test.YtonknapfndaalaaRgW
namespace Go.Proofs.Ytonknapfndaalaa
set_option linter.unusedVariables false
set_option maxRecDepth 1000000
open Go.RowKit Ex
theorem index_at : ∀ {s sub : List UInt8} {i : Nat}, Lib.index s sub = (i : Int) → sub.isPrefixOf (s.drop i) = true
 | [], sub, i, h => by
  unfold Lib.index at h
  split at h
  ·
   rename_i g
   obtain rfl : i = 0 := by omega
   cases sub with
   | nil => rfl
   | cons a l => cases g
  ·
   omega
 | b :: l, sub, i, h => by
  unfold Lib.index at h
  split at h
  ·
   rename_i g
   obtain rfl : i = 0 := by omega
   exact g
  ·
   split at h
   ·
    omega
   ·
    have hge := Lib.index_ge l sub
    obtain ⟨j, rfl⟩ : ∃ j, i = j + 1 := ⟨i - 1, by rename_i g1 g2; have : Lib.index l sub ≠ -1 := fun e => g2 (by rw [e]; rfl); omega⟩
    exact index_at (s := l) (by omega)
theorem z_of {a b c d : Int} (h : zB a b c d = true) : a = 0 ∧ b = 0 ∧ c = 0 ∧ d = 0 := by
 unfold zB at h
 simp only [Bool.and_eq_true, beq_iff_eq] at h
 exact ⟨h.1.1.1, h.1.1.2, h.1.2, h.2⟩
/-- The bytes around one kid's, of an operation that has one. -/
def beW (o : Int) (t : ByteArray) : List UInt8 := if o = 9 then [38] else if o = 10 then [33] else if o = 12 then t.data.toList ++ [58] else if o = 13 then [126] else []
def afW (o : Int) : List UInt8 := if o = 6 then [42] else if o = 7 then [43] else if o = 8 then [63] else if o = 13 then [126] else []
theorem prX_one (n : Nat) (o : Int) (t : ByteArray) (y : Ex) (ho : o = 6 ∨ o = 7 ∨ o = 8 ∨ o = 9 ∨ o = 10 ∨ o = 12 ∨ o = 13) : prX (n + 1) (.mk o t 0 0 0 0 [y]) = beW o t ++ (kdX (prX n) o y ++ afW o) := by
 rcases ho with rfl | rfl | rfl | rfl | rfl | rfl | rfl <;> simp [prX, rowX, Ex.op, Ex.kids, Ex.text, Lib.join_one, beW, afW]
theorem prX_row (n : Nat) (o : Int) (y : Ex) (K : List Ex) (ho : o = 4 ∨ o = 5) : prX (n + 1) (.mk o ⟨#[]⟩ 0 0 0 0 (y :: K)) = kdX (prX n) o y ++ Lib.joinTail (sepX o) (K.map (kdX (prX n) o)) := by
 rcases ho with rfl | rfl <;> simp [prX, rowX, Ex.op, Ex.kids, Lib.join_cons]
theorem word_bytes {t : ByteArray} (h : wordB t = true) : t.size ≤ 12 ∧ ∃ c l, t.data.toList = c :: l ∧ letB (c.toNat : Int) = true ∧ ∀ x ∈ c :: l, innB (x.toNat : Int) = true := by
 unfold wordB at h
 simp only [Bool.and_eq_true, Bool.not_eq_true'] at h
 obtain ⟨⟨h1, h2⟩, h3⟩ := h
 have h3' := of_decide_eq_true h3
 have hall : ∀ n, allAt t n = true → ∀ j, j < n → okAt j (byt t j) = true := fun n => by
  induction n with
  | zero => intro _ j hj; omega
  | succ n ih =>
   intro g j hj
   unfold allAt at g
   rw [Bool.and_eq_true] at g
   by_cases e : j = n
   ·
    subst e; exact g.2
   ·
    exact ih g.1 j (by omega)
 have hA := hall t.size h2
 have hne : t.size ≠ 0 := fun e => by
  unfold resB at h1
  rw [show t.toList.isEmpty = true by rw [isEmpty_size, e]; rfl] at h1
  simp at h1
 have hlen := size_list t
 refine ⟨by omega, ?_⟩
 cases hl : t.data.toList with
 | nil => rw [hl] at hlen; simp at hlen; omega
 | cons c l =>
  have hb : ∀ j x, (c :: l)[j]? = some x → byt t j = (x.toNat : Int) := fun j x e => by
   unfold byt; rw [hl, List.getD_eq_getElem?_getD, e]; rfl
  have hlt : ∀ z : Int, isLet z = letB z := fun z => rfl
  refine ⟨c, l, rfl, ?_, fun x hx => ?_⟩
  ·
   have := hA 0 (by omega)
   rw [hb 0 c rfl] at this
   unfold okAt at this
   simpa [hlt] using this
  ·
   obtain ⟨j, hj, e⟩ := List.getElem_of_mem hx
   have := hA j (by rw [hl] at hlen; omega)
   rw [hb j x (by rw [List.getElem?_eq_getElem hj, e])] at this
   unfold okAt isDig at this
   unfold innB
   rw [← hlt]
   revert this
   cases isLet (x.toNat : Int) <;> cases (decide (48 ≤ (x.toNat : Int)) && decide ((x.toNat : Int) ≤ 57)) <;> cases ((x.toNat : Int) == 95) <;> simp
end Go.Proofs.Ytonknapfndaalaa
