/- What is written, as tokens: one token. Math alone. -/
import Derived.Test.YtonknapfndaalaaGj
import Derived.Test.YtonknapfndaalaaGs
import Derived.Test.YtonknapfndaalaaGl
namespace Go.Proofs.Ytonknapfndaalaa
set_option linter.unusedVariables false
set_option maxRecDepth 1000000
open Go.RowKit Ex
theorem skF_fuel {s : ByteArray} : ∀ f g k, s.size < f + k → s.size < g + k → skF s f k = skF s g k
 | 0, g, k, h1, h2 => by rw [skF_out (by omega), skF_out (by omega)]
 | f + 1, 0, k, h1, h2 => by rw [skF_out (by omega), skF_out (by omega)]
 | f + 1, g + 1, k, h1, h2 => by
  rw [skF.eq_2, skF.eq_2]
  split
  ·
   rename_i hk
   split
   ·
    exact skF_fuel f g (k + 1) (by omega) (by omega)
   ·
    split
    ·
     rename_i h35
     have := ntO_pos hk h35
     exact skF_fuel f g _ (by omega) (by omega)
    ·
     rfl
  ·
   rfl
theorem skO_blank {s : ByteArray} {k : Nat} (hk : k < s.size) (h : blkB (byt s k) = true) : skO s k = skO s (k + 1) := by
 unfold skO
 rw [skF_blank (by omega) hk h, skF_fuel (s.size + 1 - 1) (s.size + 1) (k + 1) (by omega) (by omega)]
theorem txt_head (s : ByteArray) : ∃ r, (textS s).data.toList = 34 :: r := by
 obtain ⟨r, hr⟩ := wrT_head s
 exact ⟨r ++ [34], by rw [text_data, hr]; rfl⟩
theorem cls_head (h : Nat → Bool) : ∃ r, (classS h).data.toList = 91 :: r := ⟨_, cls_data h⟩
/-- A token without its place. -/
abbrev Tkn := Nat × ByteArray × Set4
def Tok.k (t : Tok) : Tkn := (t.kd, t.tx, t.st)
def sgT (l : List UInt8) : Tkn := (4, ofL l, set0)
def nmT (t : ByteArray) : Tkn := (1, t, set0)
/-- The tokens l stand in U from p on, up to q. -/
inductive Lx (U : ByteArray) : Nat → List Tkn → Nat → Prop
 | nil (p : Nat) : Lx U p [] p
 | cons {p m q : Nat} {t : Tok} {l : List Tkn} : nextO U p = some (t, m) → t.kd ≠ 0 → Lx U m l q → Lx U p (t.k :: l) q
section
variable {U : ByteArray}
theorem Lx.app {p q r : Nat} {a b : List Tkn} (h : Lx U p a q) (g : Lx U q b r) : Lx U p (a ++ b) r := by
 induction h with
 | nil => exact g
 | cons h1 h2 _ ih => exact .cons h1 h2 (ih g)
theorem Lx.one {p m : Nat} {t : Tok} {u : Tkn} (h : nextO U p = some (t, m)) (h0 : t.kd ≠ 0) (e : t.k = u) : Lx U p [u] m := e ▸ .cons h h0 (.nil m)
theorem Lx.len {p q : Nat} {l : List Tkn} (h : Lx U p l q) (hp : p ≤ U.size) : p + l.length ≤ q ∧ q ≤ U.size := by
 induction h with
 | nil => exact ⟨by simp, hp⟩
 | cons h1 h2 _ ih =>
  have h3 := nextO_bd h1
  have h4 := h3.2.1 h2
  have := ih h3.1
  simp only [List.length_cons]; omega
/-- All the tokens of a text. -/
theorem Lx.all {p q : Nat} {l : List Tkn} (h : Lx U p l q) (hq : U.size ≤ skO U q) : ∀ f, l.length < f → ∃ L, allF U f p = .ok L ∧ L.map Tok.k = l ++ [(0, ⟨#[]⟩, set0)] := by
 induction h with
 | nil p =>
  intro f hf
  obtain ⟨g, rfl⟩ : ∃ g, f = g + 1 := ⟨f - 1, by omega⟩
  refine ⟨[⟨0, ⟨#[]⟩, set0, U.size⟩], ?_, rfl⟩
  unfold allF nextO
  rw [if_pos hq]; rfl
 | cons h1 h2 _ ih =>
  intro f hf
  obtain ⟨g, rfl⟩ : ∃ g, f = g + 1 := ⟨f - 1, by omega⟩
  obtain ⟨L, h3, h4⟩ := ih hq g (by simp at hf; omega)
  refine ⟨_ :: L, ?_, by rw [List.map_cons, h4]; rfl⟩
  unfold allF
  rw [h1]; simp only; rw [if_neg h2, h3]
theorem next_at {k : Nat} (hk : k < U.size) (h : blkB (byt U k) = false) (h2 : byt U k ≠ 35) : nextO U k = tkO U k := by
 have h3 : skO U k = k := skF_stop h h2
 unfold nextO; rw [h3, if_neg (by omega)]
theorem next_blank {k : Nat} (hk : k < U.size) (h : blkB (byt U k) = true) : nextO U k = nextO U (k + 1) := by
 unfold nextO; rw [skO_blank hk h]
theorem Lx.blank {p q : Nat} {t : Tkn} {l : List Tkn} (hk : p < U.size) (hb : blkB (byt U p) = true) (h : Lx U (p + 1) (t :: l) q) : Lx U p (t :: l) q := by
 cases h with
 | cons h1 h2 h3 => exact .cons (by rw [next_blank hk hb]; exact h1) h2 h3
theorem At.cut {k : Nat} {l : List UInt8} (h : At U k l) : U.extract k (k + l.length) = ofL l := by
 obtain ⟨pre, post, h, hk⟩ := h
 apply bytes_eq
 rw [ByteArray.data_extract]
 simp only [Array.toList_extract, List.extract_eq_take_drop]
 rw [h, show k + l.length - k = l.length by omega, ← hk, List.drop_left, List.take_left]
 show l = l.toArray.toList
 simp
theorem At.get {k : Nat} : ∀ {l : List UInt8} {j : Nat} {c : UInt8}, At U k l → l[j]? = some c → k + j < U.size ∧ byt U (k + j) = (c.toNat : Int)
 | [], j, c, h, e => by simp at e
 | a :: l, 0, c, h, e => by
  simp at e; subst e
  exact ⟨h.cons.1, h.cons.2.1⟩
 | a :: l, j + 1, c, h, e => by
  have := At.get (k := k + 1) h.cons.2.2 (show l[j]? = some c by simpa using e)
  rw [show k + (j + 1) = k + 1 + j by omega]; exact this
def sgOk (c : UInt8) : Bool := !letB (c.toNat : Int) && !((c.toNat : Int) == 34) && !((c.toNat : Int) == 91) && !((c.toNat : Int) == 58) && sgB (c.toNat : Int) && !blkB (c.toNat : Int) && !((c.toNat : Int) == 35)
theorem Lx.sign {p : Nat} {c : UInt8} {l : List UInt8} (h : At U p (c :: l)) (hc : sgOk c = true) : Lx U p [sgT [c]] (p + 1) := by
 obtain ⟨h1, h2, h3⟩ := h.cons
 have hcut := At.cut (l := [c]) (At.app (l := [c]) (r := l) h).1
 simp only [sgOk, Bool.and_eq_true, Bool.not_eq_true', beq_eq_false_iff_ne] at hc
 obtain ⟨⟨⟨⟨⟨⟨c1, c2⟩, c3⟩, c4⟩, c5⟩, c6⟩, c7⟩ := hc
 have hg : sgO U p = 1 := by unfold sgO; rw [h2, if_neg c4, if_pos c5]
 refine Lx.one (t := ⟨4, U.extract p (p + 1), set0, p⟩) (m := p + 1) ?_ (Nat.succ_ne_zero _) (by rw [show U.extract p (p + 1) = ofL [c] from hcut]; rfl)
 rw [next_at h1 (by rw [h2]; exact c6) (by rw [h2]; exact c7)]
 unfold tkO
 rw [h2, c1, if_neg (by decide), if_neg c2, if_neg c3, hg, if_neg (by decide)]
theorem Lx.colon {p : Nat} {c : UInt8} {l : List UInt8} (h : At U p (58 :: c :: l)) (hc : c ≠ 58) : Lx U p [sgT [58]] (p + 1) := by
 obtain ⟨h1, h2, h3⟩ := h.cons
 obtain ⟨h4, h5, -⟩ := h3.cons
 have hcut := At.cut (l := [58]) (At.app (l := [58]) (r := c :: l) h).1
 have h2' : byt U p = 58 := h2
 have hne : (c.toNat : Int) ≠ 58 := fun e => hc (by apply UInt8.toNat_inj.1; show c.toNat = 58; omega)
 have hg : sgO U p = 1 := by
  unfold sgO standB
  rw [h2', if_pos rfl, if_neg]
  rw [Int.toNat_natCast, h5]; simp [hne]
 refine Lx.one (t := ⟨4, U.extract p (p + 1), set0, p⟩) (m := p + 1) ?_ (Nat.succ_ne_zero _) (by rw [show U.extract p (p + 1) = ofL [58] from hcut]; rfl)
 rw [next_at h1 (by rw [h2']; rfl) (by rw [h2']; decide)]
 unfold tkO
 rw [h2', if_neg (by decide), if_neg (by decide), if_neg (by decide), hg, if_neg (by decide)]
/-- No name goes on at q. -/
def Stop (U : ByteArray) (q : Nat) : Prop := ¬ (q < U.size ∧ innB (byt U q) = true)
theorem Stop.at {q : Nat} {c : UInt8} {l : List UInt8} (h : At U q (c :: l)) (hc : innB (c.toNat : Int) = false) : Stop U q := fun g => by
 rw [h.cons.2.1, hc] at g; exact absurd g.2 (by decide)
theorem let_plain {c : Int} (h : letB c = true) : blkB c = false ∧ c ≠ 35 ∧ c ≠ 58 ∧ c ≠ 34 ∧ c ≠ 91 := by
 unfold letB at h
 simp at h
 refine ⟨?_, by omega, by omega, by omega, by omega⟩
 unfold blkB
 have e1 : (c == 32) = false := beq_eq_false_iff_ne.2 (by omega)
 have e2 : (c == 9) = false := beq_eq_false_iff_ne.2 (by omega)
 have e3 : (c == 10) = false := beq_eq_false_iff_ne.2 (by omega)
 rw [e1, e2, e3]; rfl
theorem Lx.name {p : Nat} {c : UInt8} {l : List UInt8} (h : At U p (c :: l)) (hc : letB (c.toNat : Int) = true) (hl : ∀ x ∈ c :: l, innB (x.toNat : Int) = true) (hn : (c :: l).length ≤ 12) (hs : Stop U (p + (c :: l).length)) :
  Lx U p [nmT (ofL (c :: l))] (p + (c :: l).length) := by
 obtain ⟨h1, h2, h3⟩ := h.cons
 have hnm : nmO U p = (c :: l).length := by
  refine runB_is _ _ _ (by have := h.le; omega) (fun j hj => ?_) (fun _ => hs)
  obtain ⟨h4, h5⟩ := h.get (List.getElem?_eq_getElem hj)
  exact ⟨h4, by rw [h5]; exact hl _ (List.getElem_mem hj)⟩
 obtain ⟨e1, e2, -⟩ := let_plain hc
 refine Lx.one (t := ⟨1, U.extract p (p + (c :: l).length), set0, p⟩) ?_ (Nat.succ_ne_zero _) (by rw [h.cut]; rfl)
 rw [next_at h1 (by rw [h2]; exact e1) (by rw [h2]; exact e2)]
 unfold tkO
 rw [h2, hc, if_pos rfl, hnm, if_pos hn]
theorem size_list (s : ByteArray) : s.data.toList.length = s.size := by simp
theorem Lx.text {p : Nat} {s : ByteArray} (h : At U p (textS s).data.toList) (h1 : 1 ≤ s.size) (h2 : s.size ≤ 40) : Lx U p [(2, s, set0)] (p + (textS s).data.toList.length) := by
 obtain ⟨r, hr⟩ := txt_head s
 have h0 := h
 rw [hr] at h0
 obtain ⟨g1, g2, -⟩ := h0.cons
 have g2' : byt U p = 34 := g2
 have hb := txt_back h
 rw [if_neg (by omega)] at hb
 refine Lx.one (t := ⟨2, s, set0, p⟩) ?_ (Nat.succ_ne_zero _) rfl
 rw [next_at g1 (by rw [g2']; rfl) (by rw [g2']; decide)]
 unfold tkO
 rw [g2', if_neg (by decide), if_pos rfl, hb, size_list]; rfl
theorem Lx.set {p : Nat} {x : Set4} (h : At U p (classS (inS x)).data.toList) (hx : fits x) (h0 : x ≠ set0) : Lx U p [(3, ⟨#[]⟩, x)] (p + (classS (inS x)).data.toList.length) := by
 obtain ⟨r, hr⟩ := cls_head (inS x)
 have h1 := h
 rw [hr] at h1
 obtain ⟨g1, g2, -⟩ := h1.cons
 have g2' : byt U p = 91 := g2
 have hb := cls_back hx h
 rw [if_neg h0] at hb
 refine Lx.one (t := ⟨3, ⟨#[]⟩, x, p⟩) ?_ (Nat.succ_ne_zero _) rfl
 rw [next_at g1 (by rw [g2']; rfl) (by rw [g2']; decide)]
 unfold tkO
 rw [g2', if_neg (by decide), if_neg (by decide), if_pos rfl, hb, size_list]; rfl
end
end Go.Proofs.Ytonknapfndaalaa
