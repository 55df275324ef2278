/- What is written, as tokens: the whole. Math alone. Tokens of what is written, read: rows and choices. Math alone. What is written is read as it was; unlike ones are written otherwise. Math alone. -/
import Derived.Test.YtonknapfndaalaaWb
namespace Go.Proofs.Ytonknapfndaalaa
set_option linter.unusedVariables false
set_option maxRecDepth 1000000
open Go.RowKit Ex
theorem ofL_list (l : List UInt8) : (ofL l).data.toList = l := by show l.toArray.toList = l; simp
theorem fits_of {x : Ex} (h0 : 0 ≤ x.s0 ∧ x.s0 < P64) (h1 : 0 ≤ x.s1 ∧ x.s1 < P64) (h2 : 0 ≤ x.s2 ∧ x.s2 < P64) (h3 : 0 ≤ x.s3 ∧ x.s3 < P64) : fits (setX x) := ⟨by show x.s0.toNat < _; omega, by show x.s1.toNat < _; omega, by show x.s2.toNat < _; omega, by show x.s3.toNat < _; omega⟩
section
variable {U : ByteArray}
theorem At.none {l : List UInt8} {p : Nat} (h : At U p ([] ++ l)) : At U p l := h
/-- A name's bytes, as a token. -/
theorem Lx.word {p : Nat} {t : ByteArray} (ht : wordB t = true) (h : At U p t.data.toList) (hs : Stop U (p + t.data.toList.length)) : Lx U p [nmT t] (p + t.data.toList.length) := by
 obtain ⟨h12, c, l, e, hc, hl⟩ := word_bytes ht
 have hz := size_list t
 rw [e] at h hs hz ⊢
 have := Lx.name h hc hl (by omega) hs
 rw [show ofL (c :: l) = t by rw [← e]; apply bytes_eq; rw [ofL_list]] at this
 exact this
theorem lx_kid {n : Nat} {o : Int} {y : Ex} (IH : ∀ p, At U p (prX n y) → Stop U (p + (prX n y).length) → Lx U p (tsX n y) (p + (prX n y).length)) {p : Nat} (h : At U p (kdX (prX n) o y)) (hs : Stop U (p + (kdX (prX n) o y).length)) :
  Lx U p (kdT (tsX n) o y) (p + (kdX (prX n) o y).length) := by
 unfold kdX parX at h hs ⊢
 unfold kdT parT
 cases hb : decide (cloX y.op ≤ cloX o)
 ·
  rw [hb, if_neg (by decide)] at h hs
  rw [if_neg (by decide), if_neg (by decide)]
  exact IH p h hs
 ·
  rw [hb, if_pos rfl] at h hs
  rw [if_pos rfl, if_pos rfl]
  obtain ⟨-, -, h1⟩ := h.cons
  obtain ⟨h2, h3⟩ := h1.app
  have g1 := Lx.sign h (by decide)
  have g2 := IH (p + 1) h2 (Stop.at h3 (by decide))
  have g3 := Lx.sign h3 (by decide)
  have := (g1.app g2).app g3
  rw [show p + (40 :: (prX n y ++ [41])).length = p + 1 + (prX n y).length + 1 by simp; omega]
  simpa using this
theorem kd_head {n : Nat} {o : Int} {y : Ex} (h : allX n y = true) : ∃ c l, kdX (prX n) o y = c :: l ∧ hdOk c := by
 obtain ⟨c, l, e, hc⟩ := pr_head n y h
 unfold kdX parX
 split
 ·
  exact ⟨40, _, rfl, by decide, by decide, by decide⟩
 ·
  exact ⟨c, l, e, hc⟩
theorem Lx.blanks {p q : Nat} {L : List Tkn} (hk : p < U.size) (hb : blkB (byt U p) = true) (hL : L ≠ []) (h : Lx U (p + 1) L q) : Lx U p L q := by
 cases L with
 | nil => exact absurd rfl hL
 | cons t l => exact h.blank hk hb
theorem lx_tail {n : Nat} {o : Int} (ho : o = 4 ∨ o = 5) : ∀ (K : List Ex), (∀ y ∈ K, kdT (tsX n) o y ≠ [] ∧ ∀ p, At U p (kdX (prX n) o y) → Stop U (p + (kdX (prX n) o y).length) → Lx U p (kdT (tsX n) o y) (p + (kdX (prX n) o y).length)) →
  ∀ p, At U p (Lib.joinTail (sepX o) (K.map (kdX (prX n) o))) → Stop U (p + (Lib.joinTail (sepX o) (K.map (kdX (prX n) o))).length) →
  Lx U p (tailT (sepT o) (K.map (kdT (tsX n) o))) (p + (Lib.joinTail (sepX o) (K.map (kdX (prX n) o))).length) ∧ Stop U p
 | [], IH, p, h, hs => ⟨.nil p, hs⟩
 | y :: K, IH, p, h, hs => by
  have e1 : Lib.joinTail (sepX o) ((y :: K).map (kdX (prX n) o)) = sepX o ++ (kdX (prX n) o y ++ Lib.joinTail (sepX o) (K.map (kdX (prX n) o))) := by simp [Lib.joinTail]
  have e2 : tailT (sepT o) ((y :: K).map (kdT (tsX n) o)) = sepT o ++ (kdT (tsX n) o y ++ tailT (sepT o) (K.map (kdT (tsX n) o))) := by simp [tailT]
  rw [e1] at h hs ⊢
  rw [e2]
  clear e1 e2
  obtain ⟨hne, hy⟩ := IH y (List.mem_cons_self ..)
  obtain ⟨h1, h2⟩ := h.app
  obtain ⟨h3, h4⟩ := h2.app
  have hs' : Stop U (p + (sepX o).length + (kdX (prX n) o y).length + (Lib.joinTail (sepX o) (K.map (kdX (prX n) o))).length) := by
   rw [List.length_append, List.length_append] at hs
   rw [show p + (sepX o).length + (kdX (prX n) o y).length + (Lib.joinTail (sepX o) (K.map (kdX (prX n) o))).length = p + ((sepX o).length + ((kdX (prX n) o y).length + (Lib.joinTail (sepX o) (K.map (kdX (prX n) o))).length)) by omega]
   exact hs
  obtain ⟨g1, g2⟩ := lx_tail ho K (fun z hz => IH z (List.mem_cons_of_mem _ hz)) _ h4 hs'
  have g3 := (hy _ h3 g2).app g1
  have hne2 : kdT (tsX n) o y ++ tailT (sepT o) (K.map (kdT (tsX n) o)) ≠ [] := fun e => hne (List.append_eq_nil_iff.1 e).1
  rw [show p + (sepX o ++ (kdX (prX n) o y ++ Lib.joinTail (sepX o) (K.map (kdX (prX n) o)))).length = p + (sepX o).length + (kdX (prX n) o y).length + (Lib.joinTail (sepX o) (K.map (kdX (prX n) o))).length by rw [List.length_append, List.length_append]; omega]
  rcases ho with rfl | rfl
  ·
   obtain ⟨b1, b2, -⟩ := (show At U p (32 :: []) from h1).cons
   have b2' : byt U p = 32 := b2
   refine ⟨Lx.blanks b1 (by rw [b2']; rfl) hne2 g3, fun g => ?_⟩
   rw [b2'] at g; exact absurd g.2 (by decide)
  ·
   obtain ⟨b1, b2, h5⟩ := (show At U p (32 :: 47 :: 32 :: []) from h1).cons
   obtain ⟨-, -, h6⟩ := h5.cons
   obtain ⟨b3, b4, -⟩ := h6.cons
   have b2' : byt U p = 32 := b2
   have b4' : byt U (p + 1 + 1) = 32 := b4
   refine ⟨?_, fun g => ?_⟩
   ·
    have g4 : Lx U (p + 1 + 1) (kdT (tsX n) 5 y ++ tailT (sepT 5) (K.map (kdT (tsX n) 5))) _ := Lx.blanks b3 (by rw [b4']; rfl) hne2 g3
    exact Lx.blanks b1 (by rw [b2']; rfl) (by simp [sepT]) ((Lx.sign h5 (by decide)).app g4)
   ·
    rw [b2'] at g; exact absurd g.2 (by decide)
theorem ts_ne : ∀ (n : Nat) (x : Ex), allX n x = true → tsX n x ≠ []
 | 0, x, h => by cases h
 | n + 1, x, h => by
  rw [allX_succ, Bool.and_eq_true, List.all_eq_true] at h
  obtain ⟨h1, h2⟩ := h
  have hk : ∀ y ∈ x.kids, ∀ o, kdT (tsX n) o y ≠ [] := fun y hy o => by
   unfold kdT parT
   split
   ·
    simp
   ·
    exact ts_ne n y (h2 y hy)
  rcases own_cases h1 with ⟨t, rfl, -, -⟩ | ⟨a, b, c, d, rfl, -⟩ | rfl | ⟨t, rfl, ht⟩ | ⟨o, y, z, K, ho, rfl⟩ | ⟨o, y, ho, rfl⟩ | ⟨t, y, rfl, ht⟩
  ·
   simp [tsX, Ex.op]
  ·
   simp [tsX, Ex.op]
  ·
   simp [tsX, Ex.op]
  ·
   by_cases g : (cutS t).2.2 = true <;> simp [tsX, Ex.op, Ex.text, refT, g]
  ·
   rw [tsX_row n o y (z :: K) ho]; exact fun e => hk y (by simp [Ex.kids]) o (List.append_eq_nil_iff.1 e).1
  ·
   rw [tsX_one n o _ y (by omega)]; exact fun e => hk y (by simp [Ex.kids]) o (List.append_eq_nil_iff.1 (List.append_eq_nil_iff.1 e).2).1
  ·
   rw [tsX_one n 12 t y (by omega)]; simp [beT]
/-- What is written is those tokens. -/
theorem lx_ex : ∀ (n : Nat) (x : Ex), allX n x = true → SetsOk n x → ∀ p, At U p (prX n x) → Stop U (p + (prX n x).length) → Lx U p (tsX n x) (p + (prX n x).length)
 | 0, x, h, _, p, hA, hs => by cases h
 | n + 1, x, h, hS, p, hA, hs => by
  rw [allX_succ, Bool.and_eq_true, List.all_eq_true] at h
  obtain ⟨h1, h2⟩ := h
  have hk : ∀ y ∈ x.kids, ∀ o, kdT (tsX n) o y ≠ [] ∧ ∀ p, At U p (kdX (prX n) o y) → Stop U (p + (kdX (prX n) o y).length) → Lx U p (kdT (tsX n) o y) (p + (kdX (prX n) o y).length) := fun y hy o => by
   obtain ⟨k, hk, e⟩ := List.getElem_of_mem hy
   refine ⟨?_, fun p => lx_kid (lx_ex n y (h2 y hy) (hS.2 k y (by rw [List.getElem?_eq_getElem hk, e])))⟩
   unfold kdT parT
   split
   ·
    simp
   ·
    exact ts_ne n y (h2 y hy)
  rcases own_cases h1 with ⟨t, rfl, t1, t2⟩ | ⟨a, b, c, d, rfl, hz⟩ | rfl | ⟨t, rfl, ht⟩ | ⟨o, y, z, K, ho, rfl⟩ | ⟨o, y, ho, rfl⟩ | ⟨t, y, rfl, ht⟩
  ·
   have e : prX (n + 1) (.mk 1 t 0 0 0 0 []) = (textS t).data.toList := by simp [prX, Ex.op, Ex.text]
   have e2 : tsX (n + 1) (.mk 1 t 0 0 0 0 []) = [(2, t, set0)] := by simp [tsX, Ex.op, Ex.text]
   rw [e] at hA ⊢
   rw [e2]
   exact Lx.text hA t1 t2
  ·
   have e : prX (n + 1) (.mk 2 ⟨#[]⟩ a b c d []) = (classS (inS (setX (.mk 2 ⟨#[]⟩ a b c d [])))).data.toList := by simp [prX, Ex.op]; rfl
   have e2 : tsX (n + 1) (.mk 2 ⟨#[]⟩ a b c d []) = [(3, ⟨#[]⟩, setX (.mk 2 ⟨#[]⟩ a b c d []))] := by simp [tsX, Ex.op]
   rw [e] at hA ⊢
   rw [e2]
   obtain ⟨⟨f0, f1, f2, f3⟩, -⟩ := hS
   refine Lx.set hA (fits_of f0 f1 f2 f3) fun g => ?_
   have g' : (a.toNat, b.toNat, c.toNat, d.toNat) = ((0, 0, 0, 0) : Set4) := g
   simp only [Prod.mk.injEq] at g'
   have f0' : 0 ≤ a := f0.1
   have f1' : 0 ≤ b := f1.1
   have f2' : 0 ≤ c := f2.1
   have f3' : 0 ≤ d := f3.1
   obtain rfl : a = 0 := by omega
   obtain rfl : b = 0 := by omega
   obtain rfl : c = 0 := by omega
   obtain rfl : d = 0 := by omega
   cases hz
  ·
   have e : prX (n + 1) (.mk 3 ⟨#[]⟩ 0 0 0 0 []) = [46] := by simp [prX, Ex.op]
   have e2 : tsX (n + 1) (.mk 3 ⟨#[]⟩ 0 0 0 0 []) = [sgT [46]] := by simp [tsX, Ex.op]
   rw [e] at hA ⊢
   rw [e2]
   exact Lx.sign hA (by decide)
  ·
   have e : prX (n + 1) (.mk 11 t 0 0 0 0 []) = t.data.toList := by simp [prX, Ex.op, Ex.text]
   have e2 : tsX (n + 1) (.mk 11 t 0 0 0 0 []) = refT t := by simp [tsX, Ex.op, Ex.text]
   rw [e] at hA hs ⊢
   rw [e2]
   unfold splitB at ht
   unfold refT
   split at ht
   ·
    rename_i g
    rw [if_pos g]
    rw [Bool.and_eq_true] at ht
    have hc := cut_is g
    generalize (cutS t).1 = l1 at *
    generalize (cutS t).2.1 = l2 at *
    rw [hc] at hA hs ⊢
    obtain ⟨a1, a2⟩ := hA.app
    obtain ⟨-, -, a3⟩ := a2.cons
    obtain ⟨-, -, a4⟩ := a3.cons
    have e1 := ofL_list l1
    have e2 := ofL_list l2
    have b1 : Lx U p [nmT (ofL l1)] (p + l1.length) := by
     have := Lx.word (U := U) (p := p) ht.1 (by rw [e1]; exact a1) (by rw [e1]; exact Stop.at a2 (by decide))
     rwa [e1] at this
    have b2 : Lx U (p + l1.length) [sgT [58, 58]] (p + l1.length + 2) := Lx.colons a2
    have b3 : Lx U (p + l1.length + 2) [nmT (ofL l2)] (p + l1.length + 2 + l2.length) := by
     have := Lx.word (U := U) (p := p + l1.length + 2) ht.2 (by rw [e2]; exact a4) (by rw [e2]; rw [show p + l1.length + 2 + l2.length = p + (l1 ++ 58 :: 58 :: l2).length by simp; omega]; exact hs)
     rwa [e2] at this
    rw [show p + (l1 ++ 58 :: 58 :: l2).length = p + l1.length + 2 + l2.length by simp; omega]
    exact (b1.app b2).app b3
   ·
    rename_i g
    rw [if_neg g]
    exact Lx.word ht hA hs
  ·
   rw [prX_row n o y (z :: K) ho] at hA hs ⊢
   rw [tsX_row n o y (z :: K) ho]
   obtain ⟨a1, a2⟩ := hA.app
   rw [List.length_append, ← Nat.add_assoc] at hs ⊢
   obtain ⟨g1, g2⟩ := lx_tail ho (z :: K) (fun u hu => hk u (List.mem_cons_of_mem _ hu) o) _ a2 hs
   exact ((hk y (List.mem_cons_self ..) o).2 p a1 g2).app g1
  ·
   rw [prX_one n o _ y (by omega)] at hA hs ⊢
   rw [tsX_one n o _ y (by omega)]
   obtain ⟨a1, a2⟩ := hA.app
   obtain ⟨a3, a4⟩ := a2.app
   rw [List.length_append, List.length_append, ← Nat.add_assoc, ← Nat.add_assoc] at hs ⊢
   have hb : Lx U p (beT o ⟨#[]⟩) (p + (beW o ⟨#[]⟩).length) := by
    rcases ho with rfl | rfl | rfl | rfl | rfl | rfl
    ·
     exact .nil p
    ·
     exact .nil p
    ·
     exact .nil p
    ·
     exact Lx.sign a1 (by decide)
    ·
     exact Lx.sign a1 (by decide)
    ·
     exact Lx.sign a1 (by decide)
   have ha : Lx U (p + (beW o ⟨#[]⟩).length + (kdX (prX n) o y).length) (afT o) (p + (beW o ⟨#[]⟩).length + (kdX (prX n) o y).length + (afW o).length) ∧ Stop U (p + (beW o ⟨#[]⟩).length + (kdX (prX n) o y).length) := by
    rcases ho with rfl | rfl | rfl | rfl | rfl | rfl
    ·
     exact ⟨Lx.sign a4 (by decide), Stop.at a4 (by decide)⟩
    ·
     exact ⟨Lx.sign a4 (by decide), Stop.at a4 (by decide)⟩
    ·
     exact ⟨Lx.sign a4 (by decide), Stop.at a4 (by decide)⟩
    ·
     exact ⟨.nil _, hs⟩
    ·
     exact ⟨.nil _, hs⟩
    ·
     exact ⟨Lx.sign a4 (by decide), Stop.at a4 (by decide)⟩
   exact hb.app (((hk y (List.mem_cons_self ..) o).2 _ a3 ha.2).app ha.1)
  ·
   rw [prX_one n 12 t y (by omega)] at hA hs ⊢
   rw [tsX_one n 12 t y (by omega)]
   change At U p ((t.data.toList ++ [58]) ++ (kdX (prX n) 12 y ++ [])) at hA
   change Stop U (p + ((t.data.toList ++ [58]) ++ (kdX (prX n) 12 y ++ [])).length) at hs
   show Lx U p ([nmT t, sgT [58]] ++ (kdT (tsX n) 12 y ++ [])) (p + ((t.data.toList ++ [58]) ++ (kdX (prX n) 12 y ++ [])).length)
   rw [List.append_nil] at hA hs ⊢
   rw [List.append_nil]
   obtain ⟨a1, a2⟩ := hA.app
   obtain ⟨a3, a4⟩ := a1.app
   obtain ⟨c, l, ec, hc⟩ := kd_head (n := n) (o := 12) (h2 y (List.mem_cons_self ..))
   have b0 := hA
   rw [List.append_assoc, ec] at b0
   have b1 := Lx.word ht a3 (Stop.at a4 (by decide))
   have b2 : Lx U (p + t.data.toList.length) [sgT [58]] (p + t.data.toList.length + 1) := Lx.colon b0.app.2 hc.2.2
   have e9 : p + ((t.data.toList ++ [58]) ++ kdX (prX n) 12 y).length = p + (t.data.toList ++ [58]).length + (kdX (prX n) 12 y).length := by rw [List.length_append, Nat.add_assoc]
   rw [e9] at hs ⊢
   have b3 := (hk y (List.mem_cons_self ..) 12).2 _ a2 hs
   have e10 : p + (t.data.toList ++ [58]).length = p + t.data.toList.length + 1 := by rw [List.length_append]; rfl
   rw [e10] at b3 ⊢
   exact (b1.app b2).app b3
/-- The tokens of what is written. -/
theorem all_ex {n : Nat} {x : Ex} (h : allX n x = true) (hS : SetsOk n x) : ∃ L, allO (ofL (prX n x)) = .ok L ∧ L.map Tok.k = tsX n x ++ [(0, ⟨#[]⟩, set0)] := by
 have hz : (ofL (prX n x)).size = (prX n x).length := by rw [← size_list, ofL_list]
 have hA : At (ofL (prX n x)) 0 (prX n x) := ⟨[], [], by rw [ofL_list]; simp, rfl⟩
 have hl := lx_ex (U := ofL (prX n x)) n x h hS 0 hA (fun g => by omega)
 have h1 := hl.len (Nat.zero_le _)
 exact hl.all (by rw [show skO (ofL (prX n x)) (0 + (prX n x).length) = 0 + (prX n x).length from skF_out (by omega)]; omega) _ (by omega)
end
end Go.Proofs.Ytonknapfndaalaa

namespace Go.Proofs.Ytonknapfndaalaa
set_option linter.unusedVariables false
set_option maxRecDepth 1000000
open Go.RowKit Ex
section
variable {L : List Tok}
/-- The tokens ts stand among L from k on. -/
def TA (L : List Tok) (k : Nat) (ts : List Tkn) : Prop := ∃ pre post, L.map Tok.k = pre ++ (ts ++ post) ∧ pre.length = k
theorem TA.app {k : Nat} {a b : List Tkn} (h : TA L k (a ++ b)) : TA L k a ∧ TA L (k + a.length) b := by
 obtain ⟨pre, post, h, hk⟩ := h
 exact ⟨⟨pre, b ++ post, by rw [h, List.append_assoc], hk⟩, ⟨pre ++ a, post, by rw [h]; simp, by rw [List.length_append, hk]⟩⟩
theorem TA.cons {k : Nat} {t : Tkn} {l : List Tkn} (h : TA L k (t :: l)) : k < L.length ∧ (tkA L k).k = t ∧ TA L (k + 1) l := by
 obtain ⟨pre, post, h, hk⟩ := h
 have h1 : k < L.length := by
  have : (L.map Tok.k).length = L.length := by simp
  rw [← this, h, List.length_append, List.length_append, List.length_cons]; omega
 refine ⟨h1, ?_, ⟨pre ++ [t], post, by rw [h]; simp, by rw [List.length_append, hk]; rfl⟩⟩
 have h2 : (L.map Tok.k)[k]? = some t := by rw [h, List.getElem?_append_right (by omega)]; simp [hk]
 rw [List.getElem?_map] at h2
 unfold tkA
 rw [List.getD_eq_getElem?_getD]
 cases hq : L[k]? with
 | none => rw [hq] at h2; cases h2
 | some u => rw [hq] at h2; simpa using h2
theorem TA.le {k : Nat} {ts : List Tkn} (h : TA L k ts) : k + ts.length ≤ L.length := by
 obtain ⟨pre, post, h, hk⟩ := h
 have : (L.map Tok.k).length = L.length := by simp
 rw [← this, h, List.length_append, List.length_append]; omega
def isT (t : Tkn) (s : List UInt8) : Bool := t.1 == 4 && t.2.1.data.toList == s
theorem isS_is {k : Nat} {t : Tkn} (h : (tkA L k).k = t) (s : List UInt8) : isS L k s = isT t s := by subst h; rfl
theorem isT_not {t : Tkn} (h : t.1 ≠ 4) (s : List UInt8) : isT t s = false := by unfold isT; rw [beq_eq_false_iff_ne.2 h]; rfl
/-- No repeat's sign, and no colon. -/
def repT (t : Tkn) : Bool := !isT t [42] && !isT t [43] && !isT t [63]
def colT (t : Tkn) : Bool := !isT t [58] && !isT t [58, 58]
def folT (t : Tkn) : Bool := repT t && colT t
def staT (t : Tkn) : Bool := t.1 == 1 || t.1 == 2 || t.1 == 3 || isT t [38] || isT t [33] || isT t [126] || isT t [46] || isT t [40]
theorem sta_is {k : Nat} {t : Tkn} (h : (tkA L k).k = t) : startsO L k = staT t := by subst h; rfl
theorem sta_fol {t : Tkn} (h : staT t = true) : folT t = true ∧ isT t [47] = false := by
 obtain ⟨kd, tx, st⟩ := t
 by_cases h4 : kd = 4
 ·
  subst h4
  unfold staT isT at h
  unfold folT repT colT isT
  generalize tx.data.toList = l at *
  simp only [Bool.or_eq_true, Bool.and_eq_true, beq_iff_eq] at h
  simp at h
  rcases h with (((rfl | rfl) | rfl) | rfl) | rfl <;> exact ⟨rfl, rfl⟩
 ·
  have := isT_not (t := (kd, tx, st)) h4
  unfold folT repT colT
  simp [this]
/-- The parentheses that may still be opened: what reads within them. -/
def subX (L : List Tok) : Nat → Nat → Rs
 | 0 => fun _ => .error (0, 0)
 | d + 1 => exO L d
def big (d : Nat) : Bool := d == 0
theorem exO_eq (d : Nat) : exO L d = chO L (seqO L (preO L (subX L d) (big d))) := by cases d <;> rfl
theorem suf_of {X : Nat → Rs} {b : Bool} {k m : Nat} {e : Ex} {t : Tkn} (h : primO L X b k = .ok (e, m)) (ht : (tkA L m).k = t) (hf : repT t = true) : sufO L X b k = .ok (e, m) := by
 unfold sufO
 rw [h]
 simp only
 unfold repT at hf
 simp only [Bool.and_eq_true, Bool.not_eq_true'] at hf
 rw [isS_is ht, isS_is ht, isS_is ht, hf.1.1, hf.1.2, hf.2]; rfl
/-- The token t doesn't begin what only a prefix reads. -/
def plnT (t : Tkn) : Bool := !isT t [38] && !isT t [33] && !isT t [126]
theorem pre_of {X : Nat → Rs} {b : Bool} {k m : Nat} {e : Ex} {t u : Tkn} (h : sufO L X b k = .ok (e, m)) (ht : (tkA L k).k = t) (hp : plnT t = true) (hu : t.1 = 1 → (tkA L (k + 1)).k = u ∧ isT u [58] = false) : preO L X b k = .ok (e, m) := by
 unfold preO
 unfold plnT at hp
 simp only [Bool.and_eq_true, Bool.not_eq_true'] at hp
 rw [isS_is ht, isS_is ht, isS_is ht, hp.1.1, hp.1.2, hp.2, if_neg (by decide), if_neg (by decide), if_neg (by decide)]
 rw [if_neg]
 ·
  exact h
 ·
  intro g
  simp only [Bool.and_eq_true, beq_iff_eq] at g
  obtain ⟨h1, h2⟩ := hu (by rw [← ht]; exact g.1.1)
  rw [isS_is h1, h2] at g
  exact absurd g.2 (by decide)
theorem seq_of {pre : Nat → Rs} {k m : Nat} {e : Ex} {t : Tkn} (h : pre k = .ok (e, m)) (ht : (tkA L m).k = t) (hf : staT t = false) : seqO L pre k = .ok (e, m) := by
 unfold seqO
 rw [h]
 simp only
 unfold seqL
 rw [sta_is ht, hf]; rfl
theorem ch_of {sq : Nat → Rs} {k m : Nat} {e : Ex} {t : Tkn} (h : sq k = .ok (e, m)) (ht : (tkA L m).k = t) (hf : isT t [47] = false) : chO L sq k = .ok (e, m) := by
 unfold chO
 rw [h]
 simp only
 unfold chL
 rw [isS_is ht, hf]; rfl
theorem deep_kid {n : Nat} {x y : Ex} (h : y ∈ x.kids) : deepX n y + 1 ≤ deepX (n + 1) x := by
 have key : ∀ (K : List Ex) (a : Int), y ∈ K ∨ deepX n y ≤ a → deepX n y ≤ K.foldl (fun m y => max m (deepX n y)) a := fun K => by
  induction K with
  | nil => intro a h; simpa using h
  | cons z K ih =>
   intro a h
   rw [List.foldl_cons]
   refine ih _ ?_
   rcases h with h | h
   ·
    rcases List.mem_cons.1 h with rfl | h
    ·
     exact .inr (by omega)
    ·
     exact .inl h
   ·
    exact .inr (by omega)
 have := key x.kids 0 (.inl h)
 show _ ≤ x.kids.foldl (fun m y => max m (deepX n y)) 0 + 1
 omega
/-- How it begins, if it isn't a prefix's. -/
def HdT (L : List Tok) (k : Nat) : Prop := plnT (tkA L k).k = true ∧ ((tkA L k).k.1 = 1 → isT (tkA L (k + 1)).k [58] = false)
/-- What reads an expression of a level: what stands at k, up to m, is x. -/
structure Rdx (L : List Tok) (d : Nat) (lv : Int) (k m : Nat) (x : Ex) : Prop where
 hd : 3 ≤ lv → HdT L k
 prim : lv = 4 → primO L (subX L d) (big d) k = .ok (x, m)
 suf : 3 ≤ lv → repT (tkA L m).k = true → sufO L (subX L d) (big d) k = .ok (x, m)
 pre : 2 ≤ lv → repT (tkA L m).k = true → preO L (subX L d) (big d) k = .ok (x, m)
 seq : 1 ≤ lv → repT (tkA L m).k = true → staT (tkA L m).k = false → seqO L (preO L (subX L d) (big d)) k = .ok (x, m)
 ex : repT (tkA L m).k = true → staT (tkA L m).k = false → isT (tkA L m).k [47] = false → exO L d k = .ok (x, m)
theorem Rdx.of_seq {d k m : Nat} {x : Ex} (h : repT (tkA L m).k = true → staT (tkA L m).k = false → seqO L (preO L (subX L d) (big d)) k = .ok (x, m)) : Rdx L d 1 k m x where
 hd := fun h => by omega
 prim := fun h => by omega
 suf := fun h => by omega
 pre := fun h => by omega
 seq := fun _ => h
 ex := fun hr hs hc => by rw [exO_eq]; exact ch_of (h hr hs) rfl hc
theorem Rdx.of_pre {d k m : Nat} {x : Ex} (h : repT (tkA L m).k = true → preO L (subX L d) (big d) k = .ok (x, m)) : Rdx L d 2 k m x where
 hd := fun h => by omega
 prim := fun h => by omega
 suf := fun h => by omega
 pre := fun _ => h
 seq := fun _ hr hs => seq_of (h hr) rfl hs
 ex := fun hr hs hc => by rw [exO_eq]; exact ch_of (seq_of (h hr) rfl hs) rfl hc
theorem Rdx.of_suf {d k m : Nat} {x : Ex} (hh : HdT L k) (h : repT (tkA L m).k = true → sufO L (subX L d) (big d) k = .ok (x, m)) : Rdx L d 3 k m x :=
 have hp := fun hr => pre_of (h hr) rfl hh.1 fun g => ⟨rfl, hh.2 g⟩
 have h2 := Rdx.of_pre hp
 { hd := fun _ => hh, prim := fun h => by omega, suf := fun _ => h, pre := fun _ => hp, seq := fun _ => h2.seq (by decide), ex := h2.ex }
theorem Rdx.of_prim {d k m : Nat} {x : Ex} (hh : HdT L k) (h : primO L (subX L d) (big d) k = .ok (x, m)) : Rdx L d 4 k m x :=
 have h3 := Rdx.of_suf hh fun hr => suf_of h rfl hr
 { hd := fun _ => hh, prim := fun _ => h, suf := fun _ => h3.suf (by decide), pre := fun _ => h3.pre (by decide), seq := fun _ => h3.seq (by decide), ex := h3.ex }
theorem tk_parts {k kd : Nat} {tx : ByteArray} {st : Set4} (h : (tkA L k).k = (kd, tx, st)) : (tkA L k).kd = kd ∧ (tkA L k).tx = tx ∧ (tkA L k).st = st :=
 ⟨congrArg (·.1) h, congrArg (·.2.1) h, congrArg (·.2.2) h⟩
theorem isS_not {k kd : Nat} {tx : ByteArray} {st : Set4} (h : (tkA L k).k = (kd, tx, st)) (h4 : kd ≠ 4) (s : List UInt8) : isS L k s = false := by rw [isS_is h, isT_not h4]
/-- With what an expression begins. -/
theorem ts_head : ∀ (n : Nat) (x : Ex), allX n x = true → ∃ t r, tsX n x = t :: r ∧ staT t = true
 | 0, x, h => by cases h
 | n + 1, x, h => by
  rw [allX_succ, Bool.and_eq_true, List.all_eq_true] at h
  obtain ⟨h1, h2⟩ := h
  have hk : ∀ y ∈ x.kids, ∀ o, ∃ t r, kdT (tsX n) o y = t :: r ∧ staT t = true := fun y hy o => by
   obtain ⟨c, l, e, hc⟩ := ts_head n y (h2 y hy)
   unfold kdT parT
   split
   ·
    exact ⟨sgT [40], _, rfl, by decide⟩
   ·
    exact ⟨c, l, e, hc⟩
  rcases own_cases h1 with ⟨t, rfl, -, -⟩ | ⟨a, b, c, d, rfl, -⟩ | rfl | ⟨t, rfl, ht⟩ | ⟨o, y, z, K, ho, rfl⟩ | ⟨o, y, ho, rfl⟩ | ⟨t, y, rfl, ht⟩
  ·
   exact ⟨_, [], by simp only [tsX, Ex.op]; simp; rfl, rfl⟩
  ·
   exact ⟨_, [], by simp only [tsX, Ex.op]; simp; rfl, rfl⟩
  ·
   exact ⟨sgT [46], [], by simp [tsX, Ex.op], by decide⟩
  ·
   have e2 : tsX (n + 1) (.mk 11 t 0 0 0 0 []) = refT t := by simp [tsX, Ex.op, Ex.text]
   rw [e2]; unfold refT
   split
   ·
    exact ⟨_, _, rfl, rfl⟩
   ·
    exact ⟨_, _, rfl, rfl⟩
  ·
   obtain ⟨c, l, e, hc⟩ := hk y (by simp [Ex.kids]) o
   exact ⟨c, _, by rw [tsX_row n o y (z :: K) ho, e]; rfl, hc⟩
  ·
   obtain ⟨c, l, e, hc⟩ := hk y (by simp [Ex.kids]) o
   rw [tsX_one n o _ y (by omega), e]
   rcases ho with rfl | rfl | rfl | rfl | rfl | rfl
   ·
    exact ⟨c, _, rfl, hc⟩
   ·
    exact ⟨c, _, rfl, hc⟩
   ·
    exact ⟨c, _, rfl, hc⟩
   ·
    exact ⟨sgT [38], _, rfl, by decide⟩
   ·
    exact ⟨sgT [33], _, rfl, by decide⟩
   ·
    exact ⟨sgT [126], _, rfl, by decide⟩
  ·
   rw [tsX_one n 12 t y (by omega)]
   exact ⟨_, _, rfl, rfl⟩
theorem kdT_head {n : Nat} {o : Int} {y : Ex} (h : allX n y = true) : ∃ t r, kdT (tsX n) o y = t :: r ∧ staT t = true := by
 obtain ⟨c, l, e, hc⟩ := ts_head n y h
 unfold kdT parT
 split
 ·
  exact ⟨sgT [40], _, rfl, by decide⟩
 ·
  exact ⟨c, l, e, hc⟩
/-- A part of an expression: what reads it, closer than the whole. -/
def KidRd (L : List Tok) (d n : Nat) (o : Int) (y : Ex) : Prop := ∀ k, TA L k (kdT (tsX n) o y) → colT (tkA L (k + (kdT (tsX n) o y).length)).k = true → ∃ lv, cloX o < lv ∧ lv ≤ 4 ∧ Rdx L d lv k (k + (kdT (tsX n) o y).length) y
theorem rd_kid {n d : Nat} {o : Int} {y : Ex} (ho : cloX y.op ≤ 4) (hcl : cloX o < 4) (hd : deepX n y ≤ (d : Int)) (hp : 1 ≤ deepX n y)
  (IH : ∀ (d k : Nat), deepX n y ≤ (d : Int) + 1 → TA L k (tsX n y) → colT (tkA L (k + (tsX n y).length)).k = true → Rdx L d (cloX y.op) k (k + (tsX n y).length) y) : KidRd L d n o y := fun k h hc => by
 unfold kdT parT at h hc ⊢
 cases hb : decide (cloX y.op ≤ cloX o)
 ·
  rw [hb, if_neg (by decide)] at h hc
  rw [if_neg (by decide)]
  have := of_decide_eq_false hb
  exact ⟨cloX y.op, by omega, ho, IH d k (by omega) h hc⟩
 ·
  rw [hb, if_pos rfl] at h hc
  rw [if_pos rfl]
  have hle := of_decide_eq_true hb
  obtain ⟨e, rfl⟩ : ∃ e, d = e + 1 := ⟨d - 1, by omega⟩
  obtain ⟨b1, b2, h1⟩ := h.cons
  obtain ⟨h2, h3⟩ := h1.app
  obtain ⟨b3, b4, -⟩ := h3.cons
  have g := IH e (k + 1) (by omega) h2 (by rw [b4]; decide)
  have gx := g.ex (by rw [b4]; decide) (by rw [b4]; decide) (by rw [b4]; decide)
  have hprim : primO L (subX L (e + 1)) (big (e + 1)) k = .ok (y, k + (sgT [40] :: (tsX n y ++ [sgT [41]])).length) := by
   obtain ⟨p1, p2, p3⟩ := tk_parts b2
   have s40 : isS L k [40] = true := by rw [isS_is b2]; decide
   have s46 : isS L k [46] = false := by rw [isS_is b2]; decide
   have s41 : isS L (k + 1 + (tsX n y).length) [41] = true := by rw [isS_is b4]; decide
   unfold primO
   rw [p1, if_neg (by decide), if_neg (by decide), if_neg (by decide), s46, if_neg (by decide), s40, if_pos rfl, show big (e + 1) = false from rfl, if_neg (by decide)]
   show (match exO L e (k + 1) with | .ok (e, m) => _ | .error e => _) = _
   rw [gx]
   simp only
   rw [s41, if_pos rfl]
   rw [show k + 1 + (tsX n y).length + 1 = k + (sgT [40] :: (tsX n y ++ [sgT [41]])).length by rw [List.length_cons, List.length_append, List.length_cons, List.length_nil]; omega]
  exact ⟨4, hcl, by omega, Rdx.of_prim ⟨by rw [b2]; decide, fun g => by rw [b2] at g; exact absurd g (by decide)⟩ hprim⟩
theorem clo_one {o : Int} : cloX o ≤ 4 ∧ 0 ≤ cloX o := by constructor <;> unfold cloX <;> (repeat' split) <;> omega
theorem deepX_one (n : Nat) (x : Ex) : 1 ≤ deepX (n + 1) x := by
 have key : ∀ (K : List Ex) (a : Int), 0 ≤ a → 0 ≤ K.foldl (fun m y => max m (deepX n y)) a := fun K => by
  induction K with
  | nil => intro a h; exact h
  | cons z K ih => intro a h; rw [List.foldl_cons]; exact ih _ (by omega)
 have := key x.kids 0 (by omega)
 show _ ≤ x.kids.foldl (fun m y => max m (deepX n y)) 0 + 1
 omega
theorem deep_pos {n : Nat} {x : Ex} (h : allX n x = true) : 1 ≤ deepX n x := by
 cases n with
 | zero => cases h
 | succ n => exact deepX_one n x
/-- The parts of a row behind the first. -/
theorem seq_tail {n d : Nat} : ∀ (K : List Ex), (∀ y ∈ K, allX n y = true ∧ KidRd L d n 4 y) → ∀ (A : List Ex) (f k : Nat), K.length < f → TA L k (tailT [] (K.map (kdT (tsX n) 4))) →
  colT (tkA L (k + (tailT [] (K.map (kdT (tsX n) 4))).length)).k = true → repT (tkA L (k + (tailT [] (K.map (kdT (tsX n) 4))).length)).k = true → staT (tkA L (k + (tailT [] (K.map (kdT (tsX n) 4))).length)).k = false →
  seqL L (preO L (subX L d) (big d)) f A k = .ok (A ++ K, k + (tailT [] (K.map (kdT (tsX n) 4))).length) ∧ repT (tkA L k).k = true ∧ colT (tkA L k).k = true
 | [], hK, A, f, k, hf, hT, hc, hr, hs => by
  obtain ⟨g, rfl⟩ : ∃ g, f = g + 1 := ⟨f - 1, by simp at hf; omega⟩
  refine ⟨?_, hr, hc⟩
  unfold seqL
  rw [sta_is rfl, show staT (tkA L k).k = false from hs]; simp [tailT]
 | y :: K, hK, A, f, k, hf, hT, hc, hr, hs => by
  obtain ⟨g, rfl⟩ : ∃ g, f = g + 1 := ⟨f - 1, by simp at hf; omega⟩
  have e1 : tailT [] ((y :: K).map (kdT (tsX n) 4)) = kdT (tsX n) 4 y ++ tailT [] (K.map (kdT (tsX n) 4)) := by simp [tailT]
  rw [e1] at hT hc hr hs ⊢
  rw [List.length_append, ← Nat.add_assoc] at hc hr hs ⊢
  obtain ⟨hy, hk⟩ := hK y (List.mem_cons_self ..)
  obtain ⟨t1, t2⟩ := hT.app
  obtain ⟨i1, i2, i3⟩ := seq_tail K (fun z hz => hK z (List.mem_cons_of_mem _ hz)) (A ++ [y]) g _ (by simp at hf; omega) t2 hc hr hs
  obtain ⟨lv, v1, v2, v3⟩ := hk k t1 i3
  obtain ⟨t, r, e2, hst⟩ := kdT_head (n := n) (o := 4) hy
  rw [e2] at t1
  obtain ⟨-, c2, -⟩ := t1.cons
  have hfo := sta_fol hst
  unfold folT at hfo
  rw [Bool.and_eq_true] at hfo
  refine ⟨?_, by rw [c2]; exact hfo.1.1, by rw [c2]; exact hfo.1.2⟩
  unfold seqL
  rw [sta_is c2, hst, if_pos rfl, v3.pre (by have : cloX 4 = 1 := rfl; omega) i2]
  simp only
  rw [i1]; simp
theorem seq_row {n d k : Nat} {y : Ex} {K : List Ex} (hK : ∀ z ∈ y :: K, allX n z = true ∧ KidRd L d n 4 z) (hne : K ≠ []) (hT : TA L k (kdT (tsX n) 4 y ++ tailT [] (K.map (kdT (tsX n) 4))))
  (hc : colT (tkA L (k + (kdT (tsX n) 4 y ++ tailT [] (K.map (kdT (tsX n) 4))).length)).k = true) (hr : repT (tkA L (k + (kdT (tsX n) 4 y ++ tailT [] (K.map (kdT (tsX n) 4))).length)).k = true) (hs : staT (tkA L (k + (kdT (tsX n) 4 y ++ tailT [] (K.map (kdT (tsX n) 4))).length)).k = false) :
  seqO L (preO L (subX L d) (big d)) k = .ok (.mk 4 ⟨#[]⟩ 0 0 0 0 (y :: K), k + (kdT (tsX n) 4 y ++ tailT [] (K.map (kdT (tsX n) 4))).length) := by
 have hle := hT.le
 rw [List.length_append] at hle
 rw [List.length_append, ← Nat.add_assoc] at hc hr hs ⊢
 obtain ⟨t1, t2⟩ := hT.app
 have hl : K.length ≤ (tailT [] (K.map (kdT (tsX n) 4))).length := by
  clear hT hle hc hr hs t1 t2 hne
  induction K with
  | nil => simp
  | cons z K ih =>
   obtain ⟨t, r, e, -⟩ := kdT_head (n := n) (o := 4) (hK z (by simp)).1
   have := ih (fun u hu => hK u (by rcases List.mem_cons.1 hu with rfl | h <;> simp [*]))
   simp only [List.map_cons, tailT, List.nil_append, List.flatten_cons, List.length_append, List.length_cons, e] at this ⊢
   omega
 obtain ⟨i1, i2, i3⟩ := seq_tail K (fun z hz => hK z (List.mem_cons_of_mem _ hz)) [y] (L.length + 1) _ (by omega) t2 hc hr hs
 obtain ⟨lv, v1, v2, v3⟩ := (hK y (List.mem_cons_self ..)).2 k t1 i3
 unfold seqO
 rw [v3.pre (by have : cloX 4 = 1 := rfl; omega) i2]
 simp only
 rw [i1]
 match K, hne with
 | z :: K, _ => rfl
/-- The parts of a choice behind the first. -/
theorem ch_tail {n d : Nat} : ∀ (K : List Ex), (∀ y ∈ K, allX n y = true ∧ KidRd L d n 5 y) → ∀ (A : List Ex) (f k : Nat), K.length < f → TA L k (tailT [sgT [47]] (K.map (kdT (tsX n) 5))) →
  colT (tkA L (k + (tailT [sgT [47]] (K.map (kdT (tsX n) 5))).length)).k = true → repT (tkA L (k + (tailT [sgT [47]] (K.map (kdT (tsX n) 5))).length)).k = true → staT (tkA L (k + (tailT [sgT [47]] (K.map (kdT (tsX n) 5))).length)).k = false →
  isT (tkA L (k + (tailT [sgT [47]] (K.map (kdT (tsX n) 5))).length)).k [47] = false →
  chL L (seqO L (preO L (subX L d) (big d))) f A k = .ok (A ++ K, k + (tailT [sgT [47]] (K.map (kdT (tsX n) 5))).length) ∧ repT (tkA L k).k = true ∧ colT (tkA L k).k = true ∧ staT (tkA L k).k = false
 | [], hK, A, f, k, hf, hT, hc, hr, hs, h47 => by
  obtain ⟨g, rfl⟩ : ∃ g, f = g + 1 := ⟨f - 1, by simp at hf; omega⟩
  refine ⟨?_, hr, hc, hs⟩
  unfold chL
  rw [isS_is rfl, show isT (tkA L k).k [47] = false from h47]; simp [tailT]
 | y :: K, hK, A, f, k, hf, hT, hc, hr, hs, h47 => by
  obtain ⟨g, rfl⟩ : ∃ g, f = g + 1 := ⟨f - 1, by simp at hf; omega⟩
  have e1 : tailT [sgT [47]] ((y :: K).map (kdT (tsX n) 5)) = sgT [47] :: (kdT (tsX n) 5 y ++ tailT [sgT [47]] (K.map (kdT (tsX n) 5))) := by simp [tailT]
  rw [e1] at hT hc hr hs h47 ⊢
  have e3 : k + (sgT [47] :: (kdT (tsX n) 5 y ++ tailT [sgT [47]] (K.map (kdT (tsX n) 5)))).length = k + 1 + (kdT (tsX n) 5 y).length + (tailT [sgT [47]] (K.map (kdT (tsX n) 5))).length := by
   rw [List.length_cons, List.length_append]; omega
  rw [e3] at hc hr hs h47 ⊢
  obtain ⟨hy, hk⟩ := hK y (List.mem_cons_self ..)
  obtain ⟨-, c0, t0⟩ := hT.cons
  obtain ⟨t1, t2⟩ := t0.app
  obtain ⟨i1, i2, i3, i4⟩ := ch_tail K (fun z hz => hK z (List.mem_cons_of_mem _ hz)) (A ++ [y]) g _ (by simp at hf; omega) t2 hc hr hs h47
  obtain ⟨lv, v1, v2, v3⟩ := hk (k + 1) t1 i3
  refine ⟨?_, by rw [c0]; decide, by rw [c0]; decide, by rw [c0]; decide⟩
  unfold chL
  rw [isS_is c0, show isT (sgT [47]) [47] = true by decide, if_pos rfl, v3.seq (by have : cloX 5 = 0 := rfl; omega) i2 i4]
  simp only
  rw [i1]; simp
theorem ch_row {n d k : Nat} {y : Ex} {K : List Ex} (hK : ∀ z ∈ y :: K, allX n z = true ∧ KidRd L d n 5 z) (hne : K ≠ []) (hT : TA L k (kdT (tsX n) 5 y ++ tailT [sgT [47]] (K.map (kdT (tsX n) 5))))
  (hc : colT (tkA L (k + (kdT (tsX n) 5 y ++ tailT [sgT [47]] (K.map (kdT (tsX n) 5))).length)).k = true) (hr : repT (tkA L (k + (kdT (tsX n) 5 y ++ tailT [sgT [47]] (K.map (kdT (tsX n) 5))).length)).k = true) (hs : staT (tkA L (k + (kdT (tsX n) 5 y ++ tailT [sgT [47]] (K.map (kdT (tsX n) 5))).length)).k = false)
  (h47 : isT (tkA L (k + (kdT (tsX n) 5 y ++ tailT [sgT [47]] (K.map (kdT (tsX n) 5))).length)).k [47] = false) :
  exO L d k = .ok (.mk 5 ⟨#[]⟩ 0 0 0 0 (y :: K), k + (kdT (tsX n) 5 y ++ tailT [sgT [47]] (K.map (kdT (tsX n) 5))).length) := by
 have hle := hT.le
 rw [List.length_append] at hle
 rw [List.length_append, ← Nat.add_assoc] at hc hr hs h47 ⊢
 obtain ⟨t1, t2⟩ := hT.app
 have hl : K.length ≤ (tailT [sgT [47]] (K.map (kdT (tsX n) 5))).length := by
  clear hT hle hc hr hs t1 t2 hne h47 hK
  induction K with
  | nil => simp
  | cons z K ih =>
   simp only [List.map_cons, tailT, List.flatten_cons, List.length_append, List.length_cons, List.length_nil] at ih ⊢
   omega
 obtain ⟨i1, i2, i3, i4⟩ := ch_tail K (fun z hz => hK z (List.mem_cons_of_mem _ hz)) [y] (L.length + 1) _ (by omega) t2 hc hr hs h47
 obtain ⟨lv, v1, v2, v3⟩ := (hK y (List.mem_cons_self ..)).2 k t1 i3
 rw [exO_eq]
 unfold chO
 rw [v3.seq (by have : cloX 5 = 0 := rfl; omega) i2 i4]
 simp only
 rw [i1]
 match K, hne with
 | z :: K, _ => rfl
end
end Go.Proofs.Ytonknapfndaalaa

namespace Go.Proofs.Ytonknapfndaalaa
set_option linter.unusedVariables false
set_option maxRecDepth 1000000
open Go.RowKit Ex
section
variable {L : List Tok}
theorem one_four : (1 : Nat) ≠ 4 := by decide
theorem Rdx.of_ex {d k m : Nat} {x : Ex} (h : repT (tkA L m).k = true → staT (tkA L m).k = false → isT (tkA L m).k [47] = false → exO L d k = .ok (x, m)) : Rdx L d 0 k m x where
 hd := fun h => by omega
 prim := fun h => by omega
 suf := fun h => by omega
 pre := fun h => by omega
 seq := fun h => by omega
 ex := h
/-- What is written is read as it was. -/
theorem rd_ex : ∀ (n : Nat) (x : Ex), allX n x = true → SetsOk n x → ∀ (d k : Nat), deepX n x ≤ (d : Int) + 1 → TA L k (tsX n x) → colT (tkA L (k + (tsX n x).length)).k = true → Rdx L d (cloX x.op) k (k + (tsX n x).length) x
 | 0, x, h, _, d, k, _, _, _ => by cases h
 | n + 1, x, h, hS, d, k, hd, hT, hc => by
  rw [allX_succ, Bool.and_eq_true, List.all_eq_true] at h
  obtain ⟨h1, h2⟩ := h
  have hk : ∀ y ∈ x.kids, ∀ o, cloX o < 4 → allX n y = true ∧ KidRd L d n o y := fun y hy o ho => by
   obtain ⟨j, hj, e⟩ := List.getElem_of_mem hy
   have := deep_kid (n := n) hy
   exact ⟨h2 y hy, rd_kid clo_one.1 ho (by omega) (deep_pos (h2 y hy)) (rd_ex n y (h2 y hy) (hS.2 j y (by rw [List.getElem?_eq_getElem hj, e])))⟩
  rcases own_cases h1 with ⟨t, rfl, t1, t2⟩ | ⟨a, b, c, d', rfl, hz⟩ | rfl | ⟨t, rfl, ht⟩ | ⟨o, y, z, K, ho, rfl⟩ | ⟨o, y, ho, rfl⟩ | ⟨t, y, rfl, ht⟩
  ·
   have e2 : tsX (n + 1) (.mk 1 t 0 0 0 0 []) = [(2, t, set0)] := by simp [tsX, Ex.op, Ex.text]
   rw [e2] at hT hc ⊢
   obtain ⟨-, b2, -⟩ := hT.cons
   obtain ⟨p1, p2, p3⟩ := tk_parts b2
   refine Rdx.of_prim ⟨by rw [b2]; rfl, fun g => absurd (p1.symm.trans (show (tkA L k).kd = 1 from g)) (by decide)⟩ ?_
   unfold primO
   rw [p1, if_pos rfl, p2]; rfl
  ·
   have e2 : tsX (n + 1) (.mk 2 ⟨#[]⟩ a b c d' []) = [(3, ⟨#[]⟩, setX (.mk 2 ⟨#[]⟩ a b c d' []))] := by simp [tsX, Ex.op]
   rw [e2] at hT hc ⊢
   obtain ⟨-, b2, -⟩ := hT.cons
   obtain ⟨p1, p2, p3⟩ := tk_parts b2
   obtain ⟨⟨f0, f1, f2, f3⟩, -⟩ := hS
   have g0 : ((a.toNat : Nat) : Int) = a := Int.toNat_of_nonneg f0.1
   have g1 : ((b.toNat : Nat) : Int) = b := Int.toNat_of_nonneg f1.1
   have g2 : ((c.toNat : Nat) : Int) = c := Int.toNat_of_nonneg f2.1
   have g3 : ((d'.toNat : Nat) : Int) = d' := Int.toNat_of_nonneg f3.1
   refine Rdx.of_prim ⟨by rw [b2]; rfl, fun g => absurd (p1.symm.trans (show (tkA L k).kd = 1 from g)) (by decide)⟩ ?_
   unfold primO
   rw [p1, if_neg (by decide), if_pos rfl, p3]
   show Except.ok (Ex.mk 2 ⟨#[]⟩ ((a.toNat : Nat) : Int) ((b.toNat : Nat) : Int) ((c.toNat : Nat) : Int) ((d'.toNat : Nat) : Int) [], k + 1) = _
   rw [g0, g1, g2, g3]; rfl
  ·
   have e2 : tsX (n + 1) (.mk 3 ⟨#[]⟩ 0 0 0 0 []) = [sgT [46]] := by simp [tsX, Ex.op]
   rw [e2] at hT hc ⊢
   obtain ⟨-, b2, -⟩ := hT.cons
   obtain ⟨p1, p2, p3⟩ := tk_parts b2
   refine Rdx.of_prim ⟨by rw [b2]; decide, fun g => by rw [b2] at g; exact absurd g (by decide)⟩ ?_
   unfold primO
   rw [p1, if_neg (by decide), if_neg (by decide), if_neg (by decide), show isS L k [46] = true by rw [isS_is b2]; decide, if_pos rfl]; rfl
  ·
   have e2 : tsX (n + 1) (.mk 11 t 0 0 0 0 []) = refT t := by simp [tsX, Ex.op, Ex.text]
   rw [e2] at hT hc ⊢
   unfold refT at hT hc ⊢
   unfold splitB at ht
   by_cases g : (cutS t).2.2 = true
   ·
    rw [if_pos g] at hT hc ht ⊢
    rw [Bool.and_eq_true] at ht
    have hcut := cut_is g
    generalize (cutS t).1 = l1 at *
    generalize (cutS t).2.1 = l2 at *
    obtain ⟨-, b2, t3⟩ := hT.cons
    obtain ⟨-, b4, t5⟩ := t3.cons
    obtain ⟨-, b6, -⟩ := t5.cons
    obtain ⟨p1, p2, p3⟩ := tk_parts b2
    obtain ⟨q1, q2, q3⟩ := tk_parts b6
    refine Rdx.of_prim ⟨by rw [b2]; unfold plnT; rw [isT_not (t := nmT _) one_four, isT_not (t := nmT _) one_four, isT_not (t := nmT _) one_four]; rfl, fun _ => by rw [b4]; decide⟩ ?_
    unfold primO refO
    rw [p1, if_neg (by decide), if_neg (by decide), if_pos rfl, p2, if_pos ht.1, show isS L (k + 1) [58, 58] = true by rw [isS_is b4]; decide, if_pos rfl, q1, q2, ht.2, show ((1 : Nat) == 1 && true) = true from rfl, if_pos rfl]
    rw [show ofL l1 ++ (⟨#[58, 58]⟩ : ByteArray) ++ ofL l2 = t by
     apply bytes_eq
     rw [hcut, ByteArray.data_append, ByteArray.data_append]
     simp only [Array.toList_append]
     rw [ofL_list, ofL_list]; simp]
    rfl
   ·
    rw [if_neg g] at hT hc ht ⊢
    obtain ⟨-, b2, -⟩ := hT.cons
    obtain ⟨p1, p2, p3⟩ := tk_parts b2
    have hc' : colT (tkA L (k + 1)).k = true := hc
    unfold colT at hc'
    simp only [Bool.and_eq_true, Bool.not_eq_true'] at hc'
    refine Rdx.of_prim ⟨by rw [b2]; unfold plnT; rw [isT_not (t := nmT _) one_four, isT_not (t := nmT _) one_four, isT_not (t := nmT _) one_four]; rfl, fun _ => hc'.1⟩ ?_
    unfold primO refO
    rw [p1, if_neg (by decide), if_neg (by decide), if_pos rfl, p2, if_pos ht, show isS L (k + 1) [58, 58] = false from hc'.2, if_neg (by decide)]
    rfl
  ·
   rw [tsX_row n o y (z :: K) ho] at hT hc ⊢
   rcases ho with rfl | rfl
   ·
    exact Rdx.of_seq fun hr hs => seq_row (fun u hu => hk u hu 4 (by decide)) (by simp) hT hc hr hs
   ·
    have key := fun hr hs h47 => ch_row (fun u hu => hk u hu 5 (by decide)) (by simp) hT hc hr hs h47
    exact Rdx.of_ex key
  ·
   rw [tsX_one n o _ y (by omega)] at hT hc ⊢
   obtain ⟨t1, t2⟩ := hT.app
   obtain ⟨t3, t4⟩ := t2.app
   rw [List.length_append, List.length_append, ← Nat.add_assoc, ← Nat.add_assoc] at hc ⊢
   rcases ho with rfl | rfl | rfl | rfl | rfl | rfl
   ·
    obtain ⟨-, b2, -⟩ := (show TA L (k + (kdT (tsX n) 6 y).length) [sgT [42]] from t4).cons
    obtain ⟨lv, v1, v2, v3⟩ := (hk y (List.mem_cons_self ..) 6 (by decide)).2 k t3 (by rw [b2]; decide)
    have : cloX 6 = 3 := rfl
    refine Rdx.of_suf (v3.hd (by omega)) fun _ => ?_
    unfold sufO
    rw [v3.prim (by omega)]
    simp only
    rw [show isS L (k + (kdT (tsX n) 6 y).length) [42] = true by rw [isS_is b2]; decide, if_pos rfl]; rfl
   ·
    obtain ⟨-, b2, -⟩ := (show TA L (k + (kdT (tsX n) 7 y).length) [sgT [43]] from t4).cons
    obtain ⟨lv, v1, v2, v3⟩ := (hk y (List.mem_cons_self ..) 7 (by decide)).2 k t3 (by rw [b2]; decide)
    have : cloX 7 = 3 := rfl
    refine Rdx.of_suf (v3.hd (by omega)) fun _ => ?_
    unfold sufO
    rw [v3.prim (by omega)]
    simp only
    rw [show isS L (k + (kdT (tsX n) 7 y).length) [42] = false by rw [isS_is b2]; decide, if_neg (by decide), show isS L (k + (kdT (tsX n) 7 y).length) [43] = true by rw [isS_is b2]; decide, if_pos rfl]; rfl
   ·
    obtain ⟨-, b2, -⟩ := (show TA L (k + (kdT (tsX n) 8 y).length) [sgT [63]] from t4).cons
    obtain ⟨lv, v1, v2, v3⟩ := (hk y (List.mem_cons_self ..) 8 (by decide)).2 k t3 (by rw [b2]; decide)
    have : cloX 8 = 3 := rfl
    refine Rdx.of_suf (v3.hd (by omega)) fun _ => ?_
    unfold sufO
    rw [v3.prim (by omega)]
    simp only
    rw [show isS L (k + (kdT (tsX n) 8 y).length) [42] = false by rw [isS_is b2]; decide, if_neg (by decide), show isS L (k + (kdT (tsX n) 8 y).length) [43] = false by rw [isS_is b2]; decide, if_neg (by decide), show isS L (k + (kdT (tsX n) 8 y).length) [63] = true by rw [isS_is b2]; decide, if_pos rfl]; rfl
   ·
    obtain ⟨-, b2, -⟩ := (show TA L k [sgT [38]] from t1).cons
    refine Rdx.of_pre fun hr => ?_
    obtain ⟨lv, v1, v2, v3⟩ := (hk y (List.mem_cons_self ..) 9 (by decide)).2 (k + 1) t3 hc
    have : cloX 9 = 2 := rfl
    unfold preO
    rw [show isS L k [38] = true by rw [isS_is b2]; decide, if_pos rfl, v3.suf (by omega) hr]; rfl
   ·
    obtain ⟨-, b2, -⟩ := (show TA L k [sgT [33]] from t1).cons
    refine Rdx.of_pre fun hr => ?_
    obtain ⟨lv, v1, v2, v3⟩ := (hk y (List.mem_cons_self ..) 10 (by decide)).2 (k + 1) t3 hc
    have : cloX 10 = 2 := rfl
    unfold preO
    rw [show isS L k [38] = false by rw [isS_is b2]; decide, if_neg (by decide), show isS L k [33] = true by rw [isS_is b2]; decide, if_pos rfl, v3.suf (by omega) hr]; rfl
   ·
    obtain ⟨-, b2, -⟩ := (show TA L k [sgT [126]] from t1).cons
    obtain ⟨-, b4, -⟩ := (show TA L (k + 1 + (kdT (tsX n) 13 y).length) [sgT [126]] from t4).cons
    refine Rdx.of_pre fun hr => ?_
    obtain ⟨lv, v1, v2, v3⟩ := (hk y (List.mem_cons_self ..) 13 (by decide)).2 (k + 1) t3 (by rw [b4]; decide)
    have : cloX 13 = 2 := rfl
    unfold preO
    rw [show isS L k [38] = false by rw [isS_is b2]; decide, if_neg (by decide), show isS L k [33] = false by rw [isS_is b2]; decide, if_neg (by decide), show isS L k [126] = true by rw [isS_is b2]; decide, if_pos rfl, v3.suf (by omega) (by rw [b4]; decide)]
    simp only
    rw [show isS L (k + 1 + (kdT (tsX n) 13 y).length) [126] = true by rw [isS_is b4]; decide, if_pos rfl]; rfl
  ·
   rw [tsX_one n 12 t y (by omega)] at hT hc ⊢
   change TA L k (nmT t :: sgT [58] :: (kdT (tsX n) 12 y ++ [])) at hT
   change colT (tkA L (k + (nmT t :: sgT [58] :: (kdT (tsX n) 12 y ++ [])).length)).k = true at hc
   show Rdx L d 2 k (k + (nmT t :: sgT [58] :: (kdT (tsX n) 12 y ++ [])).length) _
   rw [List.append_nil] at hT hc ⊢
   have e3 : k + (nmT t :: sgT [58] :: kdT (tsX n) 12 y).length = k + 2 + (kdT (tsX n) 12 y).length := by rw [List.length_cons, List.length_cons]; omega
   rw [e3] at hc ⊢
   obtain ⟨-, b2, t2⟩ := hT.cons
   obtain ⟨b3, b4, t3⟩ := t2.cons
   obtain ⟨p1, p2, p3⟩ := tk_parts b2
   refine Rdx.of_pre fun hr => ?_
   obtain ⟨lv, v1, v2, v3⟩ := (hk y (List.mem_cons_self ..) 12 (by decide)).2 (k + 2) t3 hc
   have : cloX 12 = 2 := rfl
   unfold preO
   rw [isS_not b2 (by decide), isS_not b2 (by decide), isS_not b2 (by decide), if_neg (by decide), if_neg (by decide), if_neg (by decide), p1, p2, show isS L (k + 1) [58] = true by rw [isS_is b4]; decide, decide_eq_true b3, show ((1 : Nat) == 1 && true && true) = true from rfl, if_pos rfl, if_pos ht, v3.suf (by omega) hr]; rfl
end
/-- An expression that may be, as it is written, is read as it was: the tokens, and what they are. -/
theorem wr_back {n : Nat} {x : Ex} (h : allX n x = true) (hS : SetsOk n x) (hd : deepX n x ≤ 12) : ∃ L, allO (ofL (prX n x)) = .ok L ∧ exO L 12 0 = .ok (x, (tsX n x).length) ∧ (tkA L (tsX n x).length).kd = 0 := by
 obtain ⟨L, h1, h2⟩ := all_ex h hS
 have hT : TA L 0 (tsX n x ++ [(0, ⟨#[]⟩, set0)]) := ⟨[], [], by rw [h2]; simp, rfl⟩
 obtain ⟨t1, t2⟩ := hT.app
 obtain ⟨-, b2, -⟩ := t2.cons
 have := (rd_ex n x h hS 12 0 (by omega) t1 (by rw [b2]; unfold colT; rw [isT_not (by decide), isT_not (by decide)]; rfl)).ex
  (by rw [b2]; unfold repT; rw [isT_not (by decide), isT_not (by decide), isT_not (by decide)]; rfl)
  (by rw [b2]; unfold staT; rw [isT_not (by decide), isT_not (by decide), isT_not (by decide), isT_not (by decide), isT_not (by decide)]; rfl)
  (by rw [b2]; rw [isT_not (by decide)])
 rw [Nat.zero_add] at this b2
 exact ⟨L, h1, this, (tk_parts b2).1⟩
end Go.Proofs.Ytonknapfndaalaa
