/- What is written, as tokens: the whole. Math alone. Tokens of what is written, read: rows and choices. Math alone. What is written is read as it was; unlike ones are written otherwise. Math alone. -/
import Derived.Test.YtonknapfndaalaaWb
namespace Go.Proofs.Ytonknapfndaalaa
set_option linter.unusedVariables false
set_option maxRecDepth 1000000
open Go.RowKit Ex
theorem ofL_list (l : List UInt8) : (ofL l).data.toList = l := by show l.toArray.toList = l; simp
section
variable {U : ByteArray}
theorem At.none {l : List UInt8} {p : Nat} (h : At U p ([] ++ l)) : At U p l := h
/-- A name's bytes, as a token. -/
theorem Lx.word {p : Nat} {t : ByteArray} (ht : wordB t = true) (h : At U p t.data.toList) (hs : Stop U (p + t.data.toList.length)) : Lx U p [nmT t] (p + t.data.toList.length) := by
 obtain ⟨h12, c, l, e, hc, hl⟩ := word_bytes ht
 have hz := size_list t
 rw [e] at h hs hz ⊢
 have := Lx.name h hc hl (by omega) hs
 rw [show ofL (c :: l) = t by rw [← e]; apply bytes_eq; rw [ofL_list]] at this
 exact this
theorem Lx.blanks {p q : Nat} {L : List Tkn} (hk : p < U.size) (hb : blkB (byt U p) = true) (hL : L ≠ []) (h : Lx U (p + 1) L q) : Lx U p L q := by
 cases L with
 | nil => exact absurd rfl hL
 | cons t l => exact h.blank hk hb
end
end Go.Proofs.Ytonknapfndaalaa

namespace Go.Proofs.Ytonknapfndaalaa
set_option linter.unusedVariables false
set_option maxRecDepth 1000000
open Go.RowKit Ex
section
variable {L : List Tok}
/-- The tokens ts stand among L from k on. -/
def TA (L : List Tok) (k : Nat) (ts : List Tkn) : Prop := ∃ pre post, L.map Tok.k = pre ++ (ts ++ post) ∧ pre.length = k
theorem TA.app {k : Nat} {a b : List Tkn} (h : TA L k (a ++ b)) : TA L k a ∧ TA L (k + a.length) b := by
 obtain ⟨pre, post, h, hk⟩ := h
 exact ⟨⟨pre, b ++ post, by rw [h, List.append_assoc], hk⟩, ⟨pre ++ a, post, by rw [h]; simp, by rw [List.length_append, hk]⟩⟩
theorem TA.cons {k : Nat} {t : Tkn} {l : List Tkn} (h : TA L k (t :: l)) : k < L.length ∧ (tkA L k).k = t ∧ TA L (k + 1) l := by
 obtain ⟨pre, post, h, hk⟩ := h
 have h1 : k < L.length := by
  have : (L.map Tok.k).length = L.length := by simp
  rw [← this, h, List.length_append, List.length_append, List.length_cons]; omega
 refine ⟨h1, ?_, ⟨pre ++ [t], post, by rw [h]; simp, by rw [List.length_append, hk]; rfl⟩⟩
 have h2 : (L.map Tok.k)[k]? = some t := by rw [h, List.getElem?_append_right (by omega)]; simp [hk]
 rw [List.getElem?_map] at h2
 unfold tkA
 rw [List.getD_eq_getElem?_getD]
 cases hq : L[k]? with
 | none => rw [hq] at h2; cases h2
 | some u => rw [hq] at h2; simpa using h2
theorem TA.le {k : Nat} {ts : List Tkn} (h : TA L k ts) : k + ts.length ≤ L.length := by
 obtain ⟨pre, post, h, hk⟩ := h
 have : (L.map Tok.k).length = L.length := by simp
 rw [← this, h, List.length_append, List.length_append]; omega
def isT (t : Tkn) (s : List UInt8) : Bool := t.1 == 4 && t.2.1.data.toList == s
theorem isS_is {k : Nat} {t : Tkn} (h : (tkA L k).k = t) (s : List UInt8) : isS L k s = isT t s := by subst h; rfl
theorem isT_not {t : Tkn} (h : t.1 ≠ 4) (s : List UInt8) : isT t s = false := by unfold isT; rw [beq_eq_false_iff_ne.2 h]; rfl
/-- No repeat's sign, and no colon. -/
def repT (t : Tkn) : Bool := !isT t [42] && !isT t [43] && !isT t [63]
def staT (t : Tkn) : Bool := t.1 == 1 || t.1 == 2 || t.1 == 3 || isT t [38] || isT t [33] || isT t [126] || isT t [46] || isT t [40]
theorem sta_is {k : Nat} {t : Tkn} (h : (tkA L k).k = t) : startsO L k = staT t := by subst h; rfl
/-- The parentheses that may still be opened: what reads within them. -/
def subX (L : List Tok) : Nat → Nat → Rs
 | 0 => fun _ => .error (0, 0)
 | d + 1 => exO L d
def big (d : Nat) : Bool := d == 0
theorem exO_eq (d : Nat) : exO L d = chO L (seqO L (preO L (subX L d) (big d))) := by cases d <;> rfl
theorem suf_of {X : Nat → Rs} {b : Bool} {k m : Nat} {e : Ex} {t : Tkn} (h : primO L X b k = .ok (e, m)) (ht : (tkA L m).k = t) (hf : repT t = true) : sufO L X b k = .ok (e, m) := by
 unfold sufO
 rw [h]
 simp only
 unfold repT at hf
 simp only [Bool.and_eq_true, Bool.not_eq_true'] at hf
 rw [isS_is ht, isS_is ht, isS_is ht, hf.1.1, hf.1.2, hf.2]; rfl
/-- The token t doesn't begin what only a prefix reads. -/
def plnT (t : Tkn) : Bool := !isT t [38] && !isT t [33] && !isT t [126]
theorem pre_of {X : Nat → Rs} {b : Bool} {k m : Nat} {e : Ex} {t u : Tkn} (h : sufO L X b k = .ok (e, m)) (ht : (tkA L k).k = t) (hp : plnT t = true) (hu : t.1 = 1 → (tkA L (k + 1)).k = u ∧ isT u [58] = false) : preO L X b k = .ok (e, m) := by
 unfold preO
 unfold plnT at hp
 simp only [Bool.and_eq_true, Bool.not_eq_true'] at hp
 rw [isS_is ht, isS_is ht, isS_is ht, hp.1.1, hp.1.2, hp.2, if_neg (by decide), if_neg (by decide), if_neg (by decide)]
 rw [if_neg]
 ·
  exact h
 ·
  intro g
  simp only [Bool.and_eq_true, beq_iff_eq] at g
  obtain ⟨h1, h2⟩ := hu (by rw [← ht]; exact g.1.1)
  rw [isS_is h1, h2] at g
  exact absurd g.2 (by decide)
theorem seq_of {pre : Nat → Rs} {k m : Nat} {e : Ex} {t : Tkn} (h : pre k = .ok (e, m)) (ht : (tkA L m).k = t) (hf : staT t = false) : seqO L pre k = .ok (e, m) := by
 unfold seqO
 rw [h]
 simp only
 unfold seqL
 rw [sta_is ht, hf]; rfl
theorem ch_of {sq : Nat → Rs} {k m : Nat} {e : Ex} {t : Tkn} (h : sq k = .ok (e, m)) (ht : (tkA L m).k = t) (hf : isT t [47] = false) : chO L sq k = .ok (e, m) := by
 unfold chO
 rw [h]
 simp only
 unfold chL
 rw [isS_is ht, hf]; rfl
/-- How it begins, if it isn't a prefix's. -/
def HdT (L : List Tok) (k : Nat) : Prop := plnT (tkA L k).k = true ∧ ((tkA L k).k.1 = 1 → isT (tkA L (k + 1)).k [58] = false)
/-- What reads an expression of a level: what stands at k, up to m, is x. -/
structure Rdx (L : List Tok) (d : Nat) (lv : Int) (k m : Nat) (x : Ex) : Prop where
 hd : 3 ≤ lv → HdT L k
 prim : lv = 4 → primO L (subX L d) (big d) k = .ok (x, m)
 suf : 3 ≤ lv → repT (tkA L m).k = true → sufO L (subX L d) (big d) k = .ok (x, m)
 pre : 2 ≤ lv → repT (tkA L m).k = true → preO L (subX L d) (big d) k = .ok (x, m)
 seq : 1 ≤ lv → repT (tkA L m).k = true → staT (tkA L m).k = false → seqO L (preO L (subX L d) (big d)) k = .ok (x, m)
 ex : repT (tkA L m).k = true → staT (tkA L m).k = false → isT (tkA L m).k [47] = false → exO L d k = .ok (x, m)
theorem Rdx.of_pre {d k m : Nat} {x : Ex} (h : repT (tkA L m).k = true → preO L (subX L d) (big d) k = .ok (x, m)) : Rdx L d 2 k m x where
 hd := fun h => by omega
 prim := fun h => by omega
 suf := fun h => by omega
 pre := fun _ => h
 seq := fun _ hr hs => seq_of (h hr) rfl hs
 ex := fun hr hs hc => by rw [exO_eq]; exact ch_of (seq_of (h hr) rfl hs) rfl hc
theorem Rdx.of_suf {d k m : Nat} {x : Ex} (hh : HdT L k) (h : repT (tkA L m).k = true → sufO L (subX L d) (big d) k = .ok (x, m)) : Rdx L d 3 k m x :=
 have hp := fun hr => pre_of (h hr) rfl hh.1 fun g => ⟨rfl, hh.2 g⟩
 have h2 := Rdx.of_pre hp
 { hd := fun _ => hh, prim := fun h => by omega, suf := fun _ => h, pre := fun _ => hp, seq := fun _ => h2.seq (by decide), ex := h2.ex }
theorem Rdx.of_prim {d k m : Nat} {x : Ex} (hh : HdT L k) (h : primO L (subX L d) (big d) k = .ok (x, m)) : Rdx L d 4 k m x :=
 have h3 := Rdx.of_suf hh fun hr => suf_of h rfl hr
 { hd := fun _ => hh, prim := fun _ => h, suf := fun _ => h3.suf (by decide), pre := fun _ => h3.pre (by decide), seq := fun _ => h3.seq (by decide), ex := h3.ex }
theorem tk_parts {k kd : Nat} {tx : ByteArray} {st : Set4} (h : (tkA L k).k = (kd, tx, st)) : (tkA L k).kd = kd ∧ (tkA L k).tx = tx ∧ (tkA L k).st = st :=
 ⟨congrArg (·.1) h, congrArg (·.2.1) h, congrArg (·.2.2) h⟩
theorem clo_one {o : Int} : cloX o ≤ 4 ∧ 0 ≤ cloX o := by constructor <;> unfold cloX <;> (repeat' split) <;> omega
end
end Go.Proofs.Ytonknapfndaalaa

namespace Go.Proofs.Ytonknapfndaalaa
set_option linter.unusedVariables false
set_option maxRecDepth 1000000
open Go.RowKit Ex
section
variable {L : List Tok}
end
end Go.Proofs.Ytonknapfndaalaa
