/- What is written, within parentheses and with a note behind: the tokens, and what they are. Math alone. -/
import Derived.Test.YtonknapfndaalaaWi
namespace Go.Proofs.Ytonknapfndaalaa
set_option linter.unusedVariables false
set_option maxRecDepth 1000000
open Go.RowKit Ex
/-- Texts and sets, as they are quoted, are of bytes from 32 to 126. -/
def BytB : Prop := (∀ (s : ByteArray), ∀ x ∈ (textS s).data.toList, 32 ≤ x.toNat ∧ x.toNat ≤ 126) ∧ ∀ (h : Nat → Bool), ∀ x ∈ (classS h).data.toList, 32 ≤ x.toNat ∧ x.toNat ≤ 126
def no10 (l : List UInt8) : Prop := ∀ c ∈ l, (c.toNat : Int) ≠ 10
theorem no10_app {a b : List UInt8} (h : no10 a) (g : no10 b) : no10 (a ++ b) := fun c hc => (List.mem_append.1 hc).elim (h c) (g c)
theorem no10_cons {a : UInt8} {b : List UInt8} (h : (a.toNat : Int) ≠ 10) (g : no10 b) : no10 (a :: b) := fun c hc => (List.mem_cons.1 hc).elim (fun e => by rw [e]; exact h) (g c)
theorem no10_nil : no10 [] := fun c hc => absurd hc List.not_mem_nil
theorem no10_of {l : List UInt8} (h : ∀ x ∈ l, 32 ≤ x.toNat ∧ x.toNat ≤ 126) : no10 l := fun c hc => by have := h c hc; omega
theorem word_no10 {t : ByteArray} (ht : wordB t = true) : no10 t.data.toList := by
 obtain ⟨-, c, l, e, -, h⟩ := word_bytes ht
 rw [e]
 exact fun x hx g => by
  have := h x hx
  rw [g] at this
  revert this
  decide
theorem tail_no10 {sep : List UInt8} (hs : no10 sep) (K : List (List UInt8)) (h : ∀ l ∈ K, no10 l) : no10 (Lib.joinTail sep K) := fun c hc => by
 unfold Lib.joinTail at hc
 obtain ⟨l, hl, hcl⟩ := List.mem_flatten.1 hc
 obtain ⟨u, hu, rfl⟩ := List.mem_map.1 hl
 exact (List.mem_append.1 hcl).elim (hs c) (h u hu c)
theorem pr_no10 (HB : BytB) : ∀ (n : Nat) (x : Ex), allX n x = true → no10 (prX n x)
 | 0, x, h => by cases h
 | n + 1, x, h => by
  rw [allX_succ, Bool.and_eq_true, List.all_eq_true] at h
  obtain ⟨h1, h2⟩ := h
  have hk : ∀ y ∈ x.kids, ∀ o, no10 (kdX (prX n) o y) := fun y hy o => by
   have := pr_no10 HB n y (h2 y hy)
   unfold kdX parX
   split
   ·
    exact no10_cons (by decide) (no10_app this (no10_cons (by decide) no10_nil))
   ·
    exact this
  rcases own_cases h1 with ⟨t, rfl, -, -⟩ | ⟨a, b, c, d, rfl, -⟩ | rfl | ⟨t, rfl, ht⟩ | ⟨o, y, z, K, ho, rfl⟩ | ⟨o, y, ho, rfl⟩ | ⟨t, y, rfl, ht⟩
  ·
   have e : prX (n + 1) (.mk 1 t 0 0 0 0 []) = (textS t).data.toList := by simp [prX, Ex.op, Ex.text]
   rw [e]; exact no10_of (HB.1 t)
  ·
   have e : prX (n + 1) (.mk 2 ⟨#[]⟩ a b c d []) = (classS (inX (.mk 2 ⟨#[]⟩ a b c d []))).data.toList := by simp [prX, Ex.op]
   rw [e]; exact no10_of (HB.2 _)
  ·
   have e : prX (n + 1) (.mk 3 ⟨#[]⟩ 0 0 0 0 []) = [46] := by simp [prX, Ex.op]
   rw [e]; exact no10_cons (by decide) no10_nil
  ·
   have e : prX (n + 1) (.mk 11 t 0 0 0 0 []) = t.data.toList := by simp [prX, Ex.op, Ex.text]
   rw [e]
   unfold splitB at ht
   split at ht
   ·
    rename_i g
    rw [Bool.and_eq_true] at ht
    have e1 : (ofL (cutS t).1).data.toList = (cutS t).1 := ofL_list _
    have e2 : (ofL (cutS t).2.1).data.toList = (cutS t).2.1 := ofL_list _
    rw [cut_is g, ← e1, ← e2]
    exact no10_app (word_no10 ht.1) (no10_cons (by decide) (no10_cons (by decide) (word_no10 ht.2)))
   ·
    exact word_no10 ht
  ·
   rw [prX_row n o y (z :: K) ho]
   refine no10_app (hk y (by simp [Ex.kids]) o) (tail_no10 ?_ _ fun l hl => ?_)
   ·
    rcases ho with rfl | rfl
    ·
     exact no10_cons (by decide) no10_nil
    ·
     exact no10_cons (by decide) (no10_cons (by decide) (no10_cons (by decide) no10_nil))
   ·
    obtain ⟨u, hu, rfl⟩ := List.mem_map.1 hl
    exact hk u (by simp [Ex.kids]; exact .inr (by simpa using hu)) o
  ·
   rw [prX_one n o _ y (by omega)]
   refine no10_app ?_ (no10_app (hk y (by simp [Ex.kids]) o) ?_)
   ·
    rcases ho with rfl | rfl | rfl | rfl | rfl | rfl <;> first | exact no10_nil | exact no10_cons (by decide) no10_nil
   ·
    rcases ho with rfl | rfl | rfl | rfl | rfl | rfl <;> first | exact no10_nil | exact no10_cons (by decide) no10_nil
  ·
   rw [prX_one n 12 t y (by omega)]
   exact no10_app (no10_app (word_no10 ht) (no10_cons (by decide) no10_nil)) (no10_app (hk y (by simp [Ex.kids]) 12) no10_nil)
section
variable {U : ByteArray}
theorem note_end : ∀ (f k : Nat), U.size ≤ f + k → (∀ j, k ≤ j → j < U.size → byt U j ≠ 10) → U.size ≤ k + runB (fun c => c != 10) U f k
 | 0, k, h, _ => by unfold runB; omega
 | f + 1, k, h, hn => by
  unfold runB
  split
  ·
   have := note_end f (k + 1) (by omega) fun j hj => hn j (by omega)
   omega
  ·
   rename_i g
   rcases Nat.lt_or_ge k U.size with g2 | g2
   ·
    exact absurd ⟨g2, by simpa using hn k (Nat.le_refl _) g2⟩ g
   ·
    omega
/-- A note up to the end. -/
theorem skO_note {k : Nat} (hk : k < U.size) (h : byt U k = 35) (hn : ∀ j, k ≤ j → j < U.size → byt U j ≠ 10) : U.size ≤ skO U k := by
 have h1 : U.size ≤ k + ntO U k := note_end U.size k (by omega) hn
 unfold skO
 rw [skF_note (by omega) hk h, skF_out (by omega)]
 exact h1
end
/-- As it is written, within parentheses and with a note behind. -/
def parW (l : List UInt8) : List UInt8 := 32 :: 40 :: 32 :: (l ++ 32 :: 41 :: 32 :: 35 :: 32 :: l)
theorem par_all (HB : BytB) {n : Nat} {x : Ex} (h : allX n x = true) (hS : SetsOk n x) : ∃ L, allO (ofL (parW (prX n x))) = .ok L ∧ L.map Tok.k = sgT [40] :: (tsX n x ++ [sgT [41]]) ++ [(0, ⟨#[]⟩, set0)] := by
 obtain ⟨U, hU⟩ : ∃ U, ofL (parW (prX n x)) = U := ⟨_, rfl⟩
 have hz : U.size = (prX n x).length + 8 + (prX n x).length := by
  rw [← hU, ← size_list, ofL_list]
  unfold parW
  simp only [List.length_cons, List.length_append]
  omega
 have hA : At U 0 (32 :: 40 :: 32 :: (prX n x ++ 32 :: 41 :: 32 :: 35 :: 32 :: prX n x)) := ⟨[], [], by rw [← hU, ofL_list]; unfold parW; simp, rfl⟩
 rw [hU]
 obtain ⟨k0, b0, A1⟩ := hA.cons
 obtain ⟨k1, b1, A2⟩ := A1.cons
 obtain ⟨k2, b2, A3⟩ := A2.cons
 obtain ⟨A4, A5⟩ := A3.app
 obtain ⟨k5, b5, A6⟩ := A5.cons
 obtain ⟨k6, b6, A7⟩ := A6.cons
 obtain ⟨k7, b7, A8⟩ := A7.cons
 obtain ⟨k8, b8, A9⟩ := A8.cons
 have hl := lx_ex n x h hS _ A4 (Stop.at A5 (by decide))
 have g1 : Lx U (0 + 1 + 1 + 1 + (prX n x).length) [sgT [41]] (0 + 1 + 1 + 1 + (prX n x).length + 1 + 1) := Lx.blanks k5 (by rw [b5]; rfl) (by simp) (Lx.sign A6 (by decide))
 have g3 := Lx.blanks k2 (by rw [b2]; rfl) (by simp) (hl.app g1)
 have g4 := (Lx.sign A1 (by decide)).app g3
 have g5 := Lx.blanks k0 (by rw [b0]; rfl) (by simp) g4
 have hlen := g5.len (Nat.zero_le _)
 have hn : no10 (35 :: 32 :: prX n x) := no10_cons (by decide) (no10_cons (by decide) (pr_no10 HB n x h))
 refine g5.all ?_ _ (by omega)
 rw [skO_blank k7 (by rw [b7]; rfl)]
 refine skO_note k8 (by rw [b8]; rfl) fun j hj hj2 => ?_
 obtain ⟨i, hi⟩ : ∃ i, j = 0 + 1 + 1 + 1 + (prX n x).length + 1 + 1 + 1 + i := ⟨j - (0 + 1 + 1 + 1 + (prX n x).length + 1 + 1 + 1), by omega⟩
 have hlt : i < (35 :: 32 :: prX n x).length := by
  rw [List.length_cons, List.length_cons]; omega
 have := (A8.get (j := i) (List.getElem?_eq_getElem hlt)).2
 rw [hi, this]
 exact hn _ (List.getElem_mem hlt)
/-- What is written is parsed as it was, within parentheses and with a note behind, too. -/
theorem psO_par (HB : BytB) {n : Nat} {x : Ex} {M : Nat} (h : allX n x = true) (hS : SetsOk n x) (hd : deepX n x ≤ 12) (hf : fit M n x = true) (hn : n ≤ 60) : psO (ofL (parW (prX n x))) = .ok x := by
 obtain ⟨L, h1, h2⟩ := par_all HB h hS
 have hT : TA L 0 (sgT [40] :: (tsX n x ++ [sgT [41]]) ++ [(0, ⟨#[]⟩, set0)]) := ⟨[], [], by rw [h2]; simp, rfl⟩
 obtain ⟨-, b0, t1⟩ := (show TA L 0 (sgT [40] :: ((tsX n x ++ [sgT [41]]) ++ [(0, ⟨#[]⟩, set0)])) from hT).cons
 obtain ⟨t2, t3⟩ := t1.app
 obtain ⟨t4, t5⟩ := t2.app
 obtain ⟨-, b1, -⟩ := t5.cons
 obtain ⟨-, b2, -⟩ := t3.cons
 rw [List.length_append] at b2
 change (tkA L (0 + 1 + ((tsX n x).length + 1))).k = _ at b2
 have hin : exO L 11 (0 + 1) = .ok (x, 0 + 1 + (tsX n x).length) := (rd_ex n x h hS 11 (0 + 1) (by omega) t4 (by rw [b1]; decide)).ex (by rw [b1]; decide) (by rw [b1]; decide) (by rw [b1]; decide)
 obtain ⟨p1, p2, p3⟩ := tk_parts (show (tkA L 0).k = (4, ofL [40], set0) from b0)
 have hp : primO L (subX L 12) (big 12) 0 = .ok (x, 0 + 1 + ((tsX n x).length + 1)) := by
  unfold primO
  rw [p1, if_neg (by decide), if_neg (by decide), if_neg (by decide), show isS L 0 [46] = false by rw [isS_is b0]; decide, if_neg (by decide), show isS L 0 [40] = true by rw [isS_is b0]; decide, if_pos rfl, if_neg (by decide)]
  show (match exO L 11 (0 + 1) with | .ok (e, m) => if isS L m [41] = true then Except.ok (e, m + 1) else badF L 2 m | .error e => .error e) = _
  rw [hin]
  simp only
  rw [show isS L (0 + 1 + (tsX n x).length) [41] = true by rw [isS_is b1]; decide, if_pos rfl, Nat.add_assoc]
 have hx : exO L 12 0 = .ok (x, 0 + 1 + ((tsX n x).length + 1)) := (Rdx.of_prim ⟨by rw [b0]; decide, fun e => by rw [b0] at e; exact absurd e (by decide)⟩ hp).ex
  (by rw [b2]; unfold repT; rw [isT_not (by decide), isT_not (by decide), isT_not (by decide)]; rfl)
  (by rw [b2]; unfold staT; rw [isT_not (by decide), isT_not (by decide), isT_not (by decide), isT_not (by decide), isT_not (by decide)]; rfl)
  (by rw [b2]; rw [isT_not (by decide)])
 unfold psO rdO
 rw [h1]
 simp only
 rw [hx]
 simp only
 rw [if_neg (by have := deep_fit n 60 x hf hn; omega)]
 unfold psL
 simp only
 rw [if_pos (tk_parts b2).1]
end Go.Proofs.Ytonknapfndaalaa
