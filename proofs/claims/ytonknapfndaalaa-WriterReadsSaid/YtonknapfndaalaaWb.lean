/- What is written, as tokens: what an expression is that may be, and with what it begins. Math alone. -/
import Derived.Test.YtonknapfndaalaaWa
import Derived.Test.YtonknapfndaalaaWrt
import Derived.Test.YtonknapfndaalaaRgW
namespace Go.Proofs.Ytonknapfndaalaa
set_option linter.unusedVariables false
set_option maxRecDepth 1000000
open Go.RowKit Ex
theorem index_at : ∀ {s sub : List UInt8} {i : Nat}, Lib.index s sub = (i : Int) → sub.isPrefixOf (s.drop i) = true
 | [], sub, i, h => by
  unfold Lib.index at h
  split at h
  ·
   rename_i g
   obtain rfl : i = 0 := by omega
   cases sub with
   | nil => rfl
   | cons a l => cases g
  ·
   omega
 | b :: l, sub, i, h => by
  unfold Lib.index at h
  split at h
  ·
   rename_i g
   obtain rfl : i = 0 := by omega
   exact g
  ·
   split at h
   ·
    omega
   ·
    have hge := Lib.index_ge l sub
    obtain ⟨j, rfl⟩ : ∃ j, i = j + 1 := ⟨i - 1, by rename_i g1 g2; have : Lib.index l sub ≠ -1 := fun e => g2 (by rw [e]; rfl); omega⟩
    exact index_at (s := l) (by omega)
theorem cut_is {t : ByteArray} (h : (cutS t).2.2 = true) : t.data.toList = (cutS t).1 ++ 58 :: 58 :: (cutS t).2.1 := by
 unfold cutS Lib.cut at h ⊢
 by_cases g : 0 ≤ Lib.index t.data.toList [58, 58]
 ·
  rw [if_pos g]
  obtain ⟨i, hi⟩ : ∃ i : Nat, Lib.index t.data.toList [58, 58] = (i : Int) := ⟨_, (Int.toNat_of_nonneg g).symm⟩
  rw [hi, Int.toNat_natCast]
  obtain ⟨r, hr⟩ := List.isPrefixOf_iff_prefix.1 (index_at hi)
  have h2 : t.data.toList.drop (i + 2) = r := by rw [← List.drop_drop, ← hr]; rfl
  show t.data.toList = t.data.toList.take i ++ 58 :: 58 :: t.data.toList.drop (i + 2)
  rw [h2, show 58 :: 58 :: r = t.data.toList.drop i from hr, List.take_append_drop]
 ·
  rw [if_neg g] at h; cases h
theorem empty_of {t : ByteArray} (h : t.toList.isEmpty = true) : t = ⟨#[]⟩ := by
 rw [isEmpty_size] at h
 have := of_decide_eq_true h
 apply bytes_eq
 rw [List.eq_nil_of_length_eq_zero (show t.data.toList.length = 0 by rw [size_list, this])]
theorem z_of {a b c d : Int} (h : zB a b c d = true) : a = 0 ∧ b = 0 ∧ c = 0 ∧ d = 0 := by
 unfold zB at h
 simp only [Bool.and_eq_true, beq_iff_eq] at h
 exact ⟨h.1.1.1, h.1.1.2, h.1.2, h.2⟩
/-- What an expression is that may be. -/
theorem own_cases {x : Ex} (h : ownX x = true) :
  (∃ t, x = .mk 1 t 0 0 0 0 [] ∧ 1 ≤ t.size ∧ t.size ≤ 40) ∨ (∃ a b c d, x = .mk 2 ⟨#[]⟩ a b c d [] ∧ zB a b c d = false) ∨ x = .mk 3 ⟨#[]⟩ 0 0 0 0 [] ∨
  (∃ t, x = .mk 11 t 0 0 0 0 [] ∧ splitB t = true) ∨ (∃ o y z K, (o = 4 ∨ o = 5) ∧ x = .mk o ⟨#[]⟩ 0 0 0 0 (y :: z :: K)) ∨
  (∃ o y, (o = 6 ∨ o = 7 ∨ o = 8 ∨ o = 9 ∨ o = 10 ∨ o = 13) ∧ x = .mk o ⟨#[]⟩ 0 0 0 0 [y]) ∨ ∃ t y, x = .mk 12 t 0 0 0 0 [y] ∧ wordB t = true := by
 obtain ⟨o, t, a, b, c, d, K⟩ := x
 unfold ownX ownB at h
 simp only [Ex.op, Ex.text, Ex.s0, Ex.s1, Ex.s2, Ex.s3, Ex.kids, Bool.and_eq_true, Bool.not_eq_true', beq_eq_false_iff_ne] at h
 obtain ⟨⟨h1, h2⟩, h3⟩ := h
 have one : (K.length == 1) = true → ∃ y, K = [y] := fun g => by
  match K, g with
  | [y], _ => exact ⟨y, rfl⟩
 have nil : (K.length == 0) = true → K = [] := fun g => List.eq_nil_of_length_eq_zero (by simpa using g)
 have zz : o ≠ 2 → a = 0 ∧ b = 0 ∧ c = 0 ∧ d = 0 := fun g => z_of (by
  cases hz : zB a b c d
  ·
   rw [hz] at h3; exact absurd (beq_eq_false_iff_ne.2 g) h3
  ·
   rfl)
 by_cases e2 : o = 2
 ·
  subst e2
  have hz : zB a b c d = false := by
   cases hz : zB a b c d
   ·
    rfl
   ·
    rw [hz] at h3; exact absurd rfl h3
  exact .inr (.inl ⟨a, b, c, d, by rw [empty_of h1, nil h2], hz⟩)
 obtain ⟨rfl, rfl, rfl, rfl⟩ := zz e2
 clear zz h3
 by_cases e1 : o = 1
 ·
  subst e1
  have h1' : (!t.toList.isEmpty && decide ((t.size : Int) ≤ 40)) = true := h1
  rw [isEmpty_size] at h1'
  simp at h1'
  refine .inl ⟨t, by rw [nil h2], ?_, by omega⟩
  have := h1'.1
  by_cases g : t.size = 0
  ·
   exact absurd (show t = ByteArray.empty from by apply bytes_eq; rw [List.eq_nil_of_length_eq_zero (show t.data.toList.length = 0 by rw [size_list, g])]; rfl) (by simpa using this)
  ·
   omega
 by_cases e3 : o = 3
 ·
  subst e3; exact .inr (.inr (.inl (by rw [empty_of h1, nil h2])))
 by_cases e11 : o = 11
 ·
  subst e11; exact .inr (.inr (.inr (.inl ⟨t, by rw [nil h2], h1⟩)))
 by_cases e12 : o = 12
 ·
  subst e12
  obtain ⟨y, rfl⟩ := one h2
  exact .inr (.inr (.inr (.inr (.inr (.inr ⟨t, y, rfl, h1⟩)))))
 unfold textB at h1
 rw [if_neg e1, if_neg e11, if_neg e12] at h1
 unfold kidsB at h2
 rw [if_neg (by omega)] at h2
 by_cases e45 : o = 4 ∨ o = 5
 ·
  rw [if_pos e45] at h2
  have h2' := of_decide_eq_true h2
  match K, h2' with
  | y :: z :: K, _ => exact .inr (.inr (.inr (.inr (.inl ⟨o, y, z, K, e45, by rw [empty_of h1]⟩))))
 ·
  rw [if_neg e45] at h2
  split at h2
  ·
   rename_i g
   obtain ⟨y, rfl⟩ := one h2
   exact .inr (.inr (.inr (.inr (.inr (.inl ⟨o, y, by omega, by rw [empty_of h1]⟩)))))
  ·
   cases h2
/-- An expression's tokens, as it is written. -/
def setX (x : Ex) : Set4 := (x.s0.toNat, x.s1.toNat, x.s2.toNat, x.s3.toNat)
def refT (t : ByteArray) : List Tkn := if (cutS t).2.2 = true then [nmT (ofL (cutS t).1), sgT [58, 58], nmT (ofL (cutS t).2.1)] else [nmT t]
def parT (b : Bool) (l : List Tkn) : List Tkn := if b = true then sgT [40] :: (l ++ [sgT [41]]) else l
def kdT (f : Ex → List Tkn) (op : Int) (y : Ex) : List Tkn := parT (decide (cloX y.op ≤ cloX op)) (f y)
def tailT (sep : List Tkn) (r : List (List Tkn)) : List Tkn := (r.map (sep ++ ·)).flatten
def joinT (sep : List Tkn) : List (List Tkn) → List Tkn
 | [] => []
 | a :: r => a ++ tailT sep r
def sepT (op : Int) : List Tkn := if op = 5 then [sgT [47]] else []
def rwT (f : Ex → List Tkn) (x : Ex) : List Tkn := joinT (sepT x.op) (x.kids.map (kdT f x.op))
def tsX : Nat → Ex → List Tkn
 | 0, _ => []
 | n + 1, x =>
  if x.op = 1 then [(2, x.text, set0)] else if x.op = 2 then [(3, ⟨#[]⟩, setX x)] else if x.op = 3 then [sgT [46]] else if x.op = 11 then refT x.text
  else if x.op = 4 then rwT (tsX n) x else if x.op = 5 then rwT (tsX n) x
  else if x.op = 6 then rwT (tsX n) x ++ [sgT [42]] else if x.op = 7 then rwT (tsX n) x ++ [sgT [43]] else if x.op = 8 then rwT (tsX n) x ++ [sgT [63]]
  else if x.op = 9 then sgT [38] :: rwT (tsX n) x else if x.op = 10 then sgT [33] :: rwT (tsX n) x
  else if x.op = 12 then nmT x.text :: sgT [58] :: rwT (tsX n) x else if x.op = 13 then sgT [126] :: (rwT (tsX n) x ++ [sgT [126]]) else []
/-- The bytes around one kid's, of an operation that has one. -/
def beW (o : Int) (t : ByteArray) : List UInt8 := if o = 9 then [38] else if o = 10 then [33] else if o = 12 then t.data.toList ++ [58] else if o = 13 then [126] else []
def afW (o : Int) : List UInt8 := if o = 6 then [42] else if o = 7 then [43] else if o = 8 then [63] else if o = 13 then [126] else []
def beT (o : Int) (t : ByteArray) : List Tkn := if o = 9 then [sgT [38]] else if o = 10 then [sgT [33]] else if o = 12 then [nmT t, sgT [58]] else if o = 13 then [sgT [126]] else []
def afT (o : Int) : List Tkn := if o = 6 then [sgT [42]] else if o = 7 then [sgT [43]] else if o = 8 then [sgT [63]] else if o = 13 then [sgT [126]] else []
theorem prX_one (n : Nat) (o : Int) (t : ByteArray) (y : Ex) (ho : o = 6 ∨ o = 7 ∨ o = 8 ∨ o = 9 ∨ o = 10 ∨ o = 12 ∨ o = 13) : prX (n + 1) (.mk o t 0 0 0 0 [y]) = beW o t ++ (kdX (prX n) o y ++ afW o) := by
 rcases ho with rfl | rfl | rfl | rfl | rfl | rfl | rfl <;> simp [prX, rowX, Ex.op, Ex.kids, Ex.text, Lib.join_one, beW, afW]
theorem tsX_one (n : Nat) (o : Int) (t : ByteArray) (y : Ex) (ho : o = 6 ∨ o = 7 ∨ o = 8 ∨ o = 9 ∨ o = 10 ∨ o = 12 ∨ o = 13) : tsX (n + 1) (.mk o t 0 0 0 0 [y]) = beT o t ++ (kdT (tsX n) o y ++ afT o) := by
 rcases ho with rfl | rfl | rfl | rfl | rfl | rfl | rfl <;> simp [tsX, rwT, Ex.op, Ex.kids, Ex.text, joinT, tailT, beT, afT]
theorem prX_row (n : Nat) (o : Int) (y : Ex) (K : List Ex) (ho : o = 4 ∨ o = 5) : prX (n + 1) (.mk o ⟨#[]⟩ 0 0 0 0 (y :: K)) = kdX (prX n) o y ++ Lib.joinTail (sepX o) (K.map (kdX (prX n) o)) := by
 rcases ho with rfl | rfl <;> simp [prX, rowX, Ex.op, Ex.kids, Lib.join_cons]
theorem tsX_row (n : Nat) (o : Int) (y : Ex) (K : List Ex) (ho : o = 4 ∨ o = 5) : tsX (n + 1) (.mk o ⟨#[]⟩ 0 0 0 0 (y :: K)) = kdT (tsX n) o y ++ tailT (sepT o) (K.map (kdT (tsX n) o)) := by
 rcases ho with rfl | rfl <;> simp [tsX, rwT, Ex.op, Ex.kids, joinT]
/-- The byte with which it begins. -/
def hdOk (c : UInt8) : Prop := blkB (c.toNat : Int) = false ∧ (c.toNat : Int) ≠ 35 ∧ c ≠ 58
theorem word_bytes {t : ByteArray} (h : wordB t = true) : t.size ≤ 12 ∧ ∃ c l, t.data.toList = c :: l ∧ letB (c.toNat : Int) = true ∧ ∀ x ∈ c :: l, innB (x.toNat : Int) = true := by
 unfold wordB at h
 simp only [Bool.and_eq_true, Bool.not_eq_true'] at h
 obtain ⟨⟨h1, h2⟩, h3⟩ := h
 have h3' := of_decide_eq_true h3
 have hall : ∀ n, allAt t n = true → ∀ j, j < n → okAt j (byt t j) = true := fun n => by
  induction n with
  | zero => intro _ j hj; omega
  | succ n ih =>
   intro g j hj
   unfold allAt at g
   rw [Bool.and_eq_true] at g
   by_cases e : j = n
   ·
    subst e; exact g.2
   ·
    exact ih g.1 j (by omega)
 have hA := hall t.size h2
 have hne : t.size ≠ 0 := fun e => by
  unfold resB at h1
  rw [show t.toList.isEmpty = true by rw [isEmpty_size, e]; rfl] at h1
  simp at h1
 have hlen := size_list t
 refine ⟨by omega, ?_⟩
 cases hl : t.data.toList with
 | nil => rw [hl] at hlen; simp at hlen; omega
 | cons c l =>
  have hb : ∀ j x, (c :: l)[j]? = some x → byt t j = (x.toNat : Int) := fun j x e => by
   unfold byt; rw [hl, List.getD_eq_getElem?_getD, e]; rfl
  have hlt : ∀ z : Int, isLet z = letB z := fun z => rfl
  refine ⟨c, l, rfl, ?_, fun x hx => ?_⟩
  ·
   have := hA 0 (by omega)
   rw [hb 0 c rfl] at this
   unfold okAt at this
   simpa [hlt] using this
  ·
   obtain ⟨j, hj, e⟩ := List.getElem_of_mem hx
   have := hA j (by rw [hl] at hlen; omega)
   rw [hb j x (by rw [List.getElem?_eq_getElem hj, e])] at this
   unfold okAt isDig at this
   unfold innB
   rw [← hlt]
   revert this
   cases isLet (x.toNat : Int) <;> cases (decide (48 ≤ (x.toNat : Int)) && decide ((x.toNat : Int) ≤ 57)) <;> cases ((x.toNat : Int) == 95) <;> simp
theorem hd_let {c : UInt8} (h : letB (c.toNat : Int) = true) : hdOk c := by
 obtain ⟨h1, h2, h3, -⟩ := let_plain h
 exact ⟨h1, h2, fun e => h3 (by rw [e]; rfl)⟩
/-- What may be begins with a byte that is no blank, none of a note. -/
theorem pr_head : ∀ (n : Nat) (x : Ex), allX n x = true → ∃ c l, prX n x = c :: l ∧ hdOk c
 | 0, x, h => by cases h
 | n + 1, x, h => by
  rw [allX_succ, Bool.and_eq_true, List.all_eq_true] at h
  obtain ⟨h1, h2⟩ := h
  have hk : ∀ y ∈ x.kids, ∀ o, ∃ c l, kdX (prX n) o y = c :: l ∧ hdOk c := fun y hy o => by
   obtain ⟨c, l, e, hc⟩ := pr_head n y (h2 y hy)
   unfold kdX parX
   split
   ·
    exact ⟨40, _, rfl, by decide, by decide, by decide⟩
   ·
    exact ⟨c, l, e, hc⟩
  rcases own_cases h1 with ⟨t, rfl, -, -⟩ | ⟨a, b, c, d, rfl, -⟩ | rfl | ⟨t, rfl, ht⟩ | ⟨o, y, z, K, ho, rfl⟩ | ⟨o, y, ho, rfl⟩ | ⟨t, y, rfl, ht⟩
  ·
   obtain ⟨r, hr⟩ := txt_head t
   exact ⟨34, r, by simp [prX, Ex.op, Ex.text, hr], by decide, by decide, by decide⟩
  ·
   obtain ⟨r, hr⟩ := cls_head (inX (.mk 2 ⟨#[]⟩ a b c d []))
   exact ⟨91, r, by simp [prX, Ex.op, hr], by decide, by decide, by decide⟩
  ·
   exact ⟨46, [], by simp [prX, Ex.op], by decide, by decide, by decide⟩
  ·
   have e : prX (n + 1) (.mk 11 t 0 0 0 0 []) = t.data.toList := by simp [prX, Ex.op, Ex.text]
   rw [e]
   unfold splitB at ht
   split at ht
   ·
    rename_i g
    rw [Bool.and_eq_true] at ht
    obtain ⟨-, c, l, e1, hc, -⟩ := word_bytes ht.1
    have e2 : (cutS t).1 = c :: l := by rw [← e1]; show _ = ((cutS t).1.toArray).toList; simp
    exact ⟨c, l ++ 58 :: 58 :: (cutS t).2.1, by rw [cut_is g, e2]; rfl, hd_let hc⟩
   ·
    obtain ⟨-, c, l, e1, hc, -⟩ := word_bytes ht
    exact ⟨c, l, e1, hd_let hc⟩
  ·
   obtain ⟨c, l, e, hc⟩ := hk y (by simp [Ex.kids]) o
   exact ⟨c, _, by rw [prX_row n o y (z :: K) ho, e]; rfl, hc⟩
  ·
   obtain ⟨c, l, e, hc⟩ := hk y (by simp [Ex.kids]) o
   rw [prX_one n o _ y (by omega), e]
   rcases ho with rfl | rfl | rfl | rfl | rfl | rfl
   ·
    exact ⟨c, _, rfl, hc⟩
   ·
    exact ⟨c, _, rfl, hc⟩
   ·
    exact ⟨c, _, rfl, hc⟩
   ·
    exact ⟨38, _, rfl, by decide, by decide, by decide⟩
   ·
    exact ⟨33, _, rfl, by decide, by decide, by decide⟩
   ·
    exact ⟨126, _, rfl, by decide, by decide, by decide⟩
  ·
   obtain ⟨-, c, l, e1, hc, -⟩ := word_bytes ht
   rw [prX_one n 12 t y (by omega)]
   exact ⟨c, _, by show (t.data.toList ++ [58]) ++ _ = _; rw [e1]; rfl, hd_let hc⟩
end Go.Proofs.Ytonknapfndaalaa
