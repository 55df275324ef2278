/- Expressions as trees, and how they lie in memory. No program in sight. What tokens are as an expression: the document's answer, token by token; a cursor, and expressions, in memory. The cursor's small functions, walked: the token that comes, a sign that comes. The cursor's small functions, walked: a sign that comes is taken; the first fault. May a part of a row begin with the token that comes: walked. Names: the walk of the reference's Word. -/
import Derived.Test.YtonknapfndaalaaGa
import Derived.Test.YtonknapfndaalaaGs
import Derived.Test.YtonknapfndaalaaWord
import Derived.Test.YtonknapfndaalaaGe
import Derived.StillTailTactics
import Derived.BigQuiet
import Derived.KernelRfl
namespace Go.Proofs.Ytonknapfndaalaa
set_option linter.unusedVariables false
set_option maxRecDepth 1000000
open Go.RowKit
/-- An expression: its op, its text, its set's words, its kids. -/
inductive Ex where
 | mk (op : Int) (text : ByteArray) (s0 s1 s2 s3 : Int) (kids : List Ex)
namespace Ex
def op : Ex → Int | .mk o _ _ _ _ _ _ => o
def text : Ex → ByteArray | .mk _ t _ _ _ _ _ => t
def s0 : Ex → Int | .mk _ _ a _ _ _ _ => a
def s1 : Ex → Int | .mk _ _ _ a _ _ _ => a
def s2 : Ex → Int | .mk _ _ _ _ a _ _ => a
def s3 : Ex → Int | .mk _ _ _ _ _ a _ => a
def kids : Ex → List Ex | .mk _ _ _ _ _ _ k => k
end Ex
/-- As a value: its kids from ko on. -/
def exv (x : Ex) (ko : Option Addr) (kc : Nat) : Value := .agg #[.int .i64 x.op, .string x.text, .int .u64 x.s0, .int .u64 x.s1, .int .u64 x.s2, .int .u64 x.s3, .slice ko x.kids.length kc]
/-- The kids K lie from ao on, and theirs, n within one another at most. -/
def HasK (w : World) : Nat → Option Addr → List Ex → Prop
 | 0, _, K => K = []
 | n + 1, ao, K => ∀ (k : Nat) (x : Ex), K[k]? = some x → ∃ g off ko kc, ao = some ⟨g, off, none⟩ ∧ g < w.heap.size ∧
   w.cell? ⟨g, off + k * 7, none⟩ = some (.int .i64 x.op) ∧ w.cell? ⟨g, off + k * 7 + 1, none⟩ = some (.string x.text) ∧
   w.cell? ⟨g, off + k * 7 + 2, none⟩ = some (.int .u64 x.s0) ∧ w.cell? ⟨g, off + k * 7 + 3, none⟩ = some (.int .u64 x.s1) ∧
   w.cell? ⟨g, off + k * 7 + 4, none⟩ = some (.int .u64 x.s2) ∧ w.cell? ⟨g, off + k * 7 + 5, none⟩ = some (.int .u64 x.s3) ∧
   w.cell? ⟨g, off + k * 7 + 6, none⟩ = some (.slice ko x.kids.length kc) ∧ HasK w n ko x.kids
theorem HasK.below {w w' : World} (hb : Below w.heap.size w w') : ∀ {n : Nat} {ao : Option Addr} {K : List Ex}, HasK w n ao K → HasK w' n ao K
 | 0, _, _, h => h
 | n + 1, ao, K, h => fun k x hk => by
  obtain ⟨g, off, ko, kc, e, hg, c0, c1, c2, c3, c4, c5, c6, hr⟩ := h k x hk
  exact ⟨g, off, ko, kc, e, Nat.lt_of_lt_of_le hg hb.size, keepc c0 hb, keepc c1 hb, keepc c2 hb, keepc c3 hb, keepc c4 hb, keepc c5 hb, keepc c6 hb, HasK.below hb hr⟩
theorem HasK.nil (w : World) (n : Nat) (ao : Option Addr) : HasK w n ao [] := by
 cases n with
 | zero => rfl
 | succ n => intro k x h; simp at h
theorem HasK.more {w : World} : ∀ {n : Nat} {ao : Option Addr} {K : List Ex}, HasK w n ao K → HasK w (n + 1) ao K
 | 0, ao, K, h => by
  have h0 : K = [] := h
  subst h0
  exact HasK.nil w 1 ao
 | n + 1, ao, K, h => fun k x hk => by
  obtain ⟨g, off, ko, kc, e, hg, c0, c1, c2, c3, c4, c5, c6, hr⟩ := h k x hk
  exact ⟨g, off, ko, kc, e, hg, c0, c1, c2, c3, c4, c5, c6, hr.more⟩
/-- More than is looked at, n levels on. -/
def grt : Nat → Ex → Bool
 | 0, _ => true
 | n + 1, x => decide (8 < x.kids.length) || decide (60 < x.text.size) || x.kids.any (grt n)
theorem grt_kid {n : Nat} {x y : Ex} (h : grt (n + 1) x = false) {k : Nat} (hy : x.kids[k]? = some y) : grt n y = false := by
 unfold grt at h
 simp only [Bool.or_eq_false_iff] at h
 exact (List.any_eq_false.1 h.2 y (List.mem_of_getElem? hy) |> Bool.eq_false_iff.2)
theorem grt_len {n : Nat} {x : Ex} (h : grt n x = false) : x.kids.length ≤ 8 ∧ x.text.size ≤ 60 := by
 cases n with
 | zero => cases h
 | succ n =>
  unfold grt at h
  simp only [Bool.or_eq_false_iff, decide_eq_false_iff_not] at h
  omega
theorem HasK.cut {w : World} : ∀ {n m : Nat} {x : Ex} {ao : Option Addr}, grt n x = false → HasK w m ao x.kids → HasK w n ao x.kids
 | 0, m, x, ao, h, _ => by cases h
 | n + 1, 0, x, ao, h, hk => by
  have h0 : x.kids = [] := hk
  rw [h0]; exact HasK.nil _ _ _
 | n + 1, m + 1, x, ao, h, hk => fun k y hy => by
  obtain ⟨g, off, ko, kc, e, hg, c0, c1, c2, c3, c4, c5, c6, hr⟩ := hk k y hy
  exact ⟨g, off, ko, kc, e, hg, c0, c1, c2, c3, c4, c5, c6, HasK.cut (grt_kid h hy) hr⟩
def deepX : Nat → Ex → Int
 | 0, _ => 0
 | n + 1, x => x.kids.foldl (fun m y => max m (deepX n y)) 0 + 1
theorem fold_snoc {α β : Type} (f : α → β → α) (a : α) (l : List β) {k : Nat} {y : β} (h : l[k]? = some y) : (l.take (k + 1)).foldl f a = f ((l.take k).foldl f a) y := by
 have hk := (List.getElem?_eq_some_iff.1 h).1
 rw [List.take_succ_eq_append_getElem hk, List.foldl_append]
 have : l[k] = y := (List.getElem?_eq_some_iff.1 h).2
 rw [this]; rfl
theorem fold_all {α β : Type} (f : α → β → α) (a : α) (l : List β) : (l.take l.length).foldl f a = l.foldl f a := by rw [List.take_length]
theorem fold_inv {α β : Type} {f : α → β → α} {P : α → Prop} (a : α) : ∀ (l : List β), P a → (∀ a y, y ∈ l → P a → P (f a y)) → P (l.foldl f a)
 | [], ha, _ => ha
 | y :: l, ha, h => by
  rw [List.foldl_cons]
  exact fold_inv (f a y) l (h a y (List.mem_cons_self ..) ha) (fun a z hz => h a z (List.mem_cons_of_mem _ hz))
theorem deepX_bd : ∀ (n : Nat) (x : Ex), 0 ≤ deepX n x ∧ deepX n x ≤ n
 | 0, _ => by unfold deepX; omega
 | n + 1, x => by
  unfold deepX
  have h := fold_inv (f := fun m y => max m (deepX n y)) (P := fun m : Int => 0 ≤ m ∧ m ≤ n) 0 x.kids (by omega) (fun a y _ h => by have := deepX_bd n y; omega)
  omega
theorem deepX_take (n : Nat) (x : Ex) (k : Nat) : 0 ≤ (x.kids.take k).foldl (fun m y => max m (deepX n y)) 0 ∧ (x.kids.take k).foldl (fun m y => max m (deepX n y)) 0 ≤ n :=
 fold_inv (f := fun m y => max m (deepX n y)) (P := fun m : Int => 0 ≤ m ∧ m ≤ n) 0 _ (by omega) (fun a y _ h => by have := deepX_bd n y; omega)
end Go.Proofs.Ytonknapfndaalaa

namespace Go.Proofs.Ytonknapfndaalaa
set_option linter.unusedVariables false
set_option maxRecDepth 1000000
open Go.RowKit Go.Sort
abbrev Rs := Except (Int × Int) (Ex × Nat)
def tk0 : Tok := ⟨0, ⟨#[]⟩, set0, 0⟩
/-- The token that comes. -/
def tkA (L : List Tok) (k : Nat) : Tok := L.getD k tk0
def isS (L : List Tok) (k : Nat) (s : List UInt8) : Bool := (tkA L k).kd == 4 && (tkA L k).tx.data.toList == s
def badF (L : List Tok) (c : Int) (k : Nat) : Rs := .error (c, ((tkA L k).pos : Int))
def leafX (op : Int) (t : ByteArray) : Ex := .mk op t 0 0 0 0 []
def kidX (op : Int) (x : Ex) : Ex := .mk op ⟨#[]⟩ 0 0 0 0 [x]
def refO (L : List Tok) (k : Nat) : Rs :=
 if wordB (tkA L k).tx = true then
  (if isS L (k + 1) [58, 58] = true then
   (if ((tkA L (k + 2)).kd == 1 && wordB (tkA L (k + 2)).tx) = true then .ok (leafX 11 ((tkA L k).tx ++ ⟨#[58, 58]⟩ ++ (tkA L (k + 2)).tx), k + 3) else badF L 2 (k + 2))
   else .ok (leafX 11 (tkA L k).tx, k + 1))
 else badF L 2 k
def primO (L : List Tok) (X : Nat → Rs) (big : Bool) (k : Nat) : Rs :=
 if (tkA L k).kd = 2 then .ok (leafX 1 (tkA L k).tx, k + 1)
 else if (tkA L k).kd = 3 then .ok (.mk 2 ⟨#[]⟩ ((tkA L k).st.1 : Int) ((tkA L k).st.2.1 : Int) ((tkA L k).st.2.2.1 : Int) ((tkA L k).st.2.2.2 : Int) [], k + 1)
 else if (tkA L k).kd = 1 then refO L k
 else if isS L k [46] = true then .ok (leafX 3 ⟨#[]⟩, k + 1)
 else if isS L k [40] = true then
  (if big = true then badF L 3 k
   else match X (k + 1) with
    | .ok (e, m) => if isS L m [41] = true then .ok (e, m + 1) else badF L 2 m
    | .error e => .error e)
 else badF L 2 k
def sufO (L : List Tok) (X : Nat → Rs) (big : Bool) (k : Nat) : Rs :=
 match primO L X big k with
 | .error e => .error e
 | .ok (e, m) =>
  if isS L m [42] = true then .ok (kidX 6 e, m + 1)
  else if isS L m [43] = true then .ok (kidX 7 e, m + 1)
  else if isS L m [63] = true then .ok (kidX 8 e, m + 1)
  else .ok (e, m)
def mapX (f : Ex → Ex) : Rs → Rs
 | .ok (e, m) => .ok (f e, m)
 | .error e => .error e
def preO (L : List Tok) (X : Nat → Rs) (big : Bool) (k : Nat) : Rs :=
 if isS L k [38] = true then mapX (kidX 9) (sufO L X big (k + 1))
 else if isS L k [33] = true then mapX (kidX 10) (sufO L X big (k + 1))
 else if isS L k [126] = true then
  (match sufO L X big (k + 1) with
   | .ok (e, m) => if isS L m [126] = true then .ok (kidX 13 e, m + 1) else badF L 2 m
   | .error e => .error e)
 else if ((tkA L k).kd == 1 && decide (k + 1 < L.length) && isS L (k + 1) [58]) = true then
  (if wordB (tkA L k).tx = true then mapX (fun e => .mk 12 (tkA L k).tx 0 0 0 0 [e]) (sufO L X big (k + 2)) else badF L 2 k)
 else sufO L X big k
def startsO (L : List Tok) (k : Nat) : Bool :=
 (tkA L k).kd == 1 || (tkA L k).kd == 2 || (tkA L k).kd == 3 || isS L k [38] || isS L k [33] || isS L k [126] || isS L k [46] || isS L k [40]
/-- Parts of a row, one behind the other. -/
def seqL (L : List Tok) (pre : Nat → Rs) : Nat → List Ex → Nat → Except (Int × Int) (List Ex × Nat)
 | 0, A, k => .ok (A, k)
 | f + 1, A, k => if startsO L k = true then (match pre k with | .ok (e, m) => seqL L pre f (A ++ [e]) m | .error e => .error e) else .ok (A, k)
def oneX (op : Int) : List Ex → Ex
 | [x] => x
 | K => .mk op ⟨#[]⟩ 0 0 0 0 K
def seqO (L : List Tok) (pre : Nat → Rs) (k : Nat) : Rs :=
 match pre k with
 | .error e => .error e
 | .ok (e, m) => match seqL L pre (L.length + 1) [e] m with
  | .error e => .error e
  | .ok (K, m') => .ok (oneX 4 K, m')
def chL (L : List Tok) (sq : Nat → Rs) : Nat → List Ex → Nat → Except (Int × Int) (List Ex × Nat)
 | 0, A, k => .ok (A, k)
 | f + 1, A, k => if isS L k [47] = true then (match sq (k + 1) with | .ok (e, m) => chL L sq f (A ++ [e]) m | .error e => .error e) else .ok (A, k)
def chO (L : List Tok) (sq : Nat → Rs) (k : Nat) : Rs :=
 match sq k with
 | .error e => .error e
 | .ok (e, m) => match chL L sq (L.length + 1) [e] m with
  | .error e => .error e
  | .ok (K, m') => .ok (oneX 5 K, m')
/-- An expression, with d parentheses more that may be opened within one another. -/
def exO (L : List Tok) : Nat → Nat → Rs
 | 0 => chO L (seqO L (preO L (fun _ => .error (0, 0)) true))
 | d + 1 => chO L (seqO L (preO L (exO L d) false))
/-- Expressions in memory, in blocks from D on. -/
def HasE (w : World) (D : Nat) : Nat → Option Addr → List Ex → Prop
 | 0, _, K => K = []
 | n + 1, ao, K => ∀ (k : Nat) (x : Ex), K[k]? = some x → ∃ b off ko kc, ao = some ⟨b, off, none⟩ ∧ b < w.heap.size ∧ D ≤ b ∧
   w.cell? ⟨b, off + k * 7, none⟩ = some (.int .i64 x.op) ∧ w.cell? ⟨b, off + k * 7 + 1, none⟩ = some (.string x.text) ∧
   w.cell? ⟨b, off + k * 7 + 2, none⟩ = some (.int .u64 x.s0) ∧ w.cell? ⟨b, off + k * 7 + 3, none⟩ = some (.int .u64 x.s1) ∧
   w.cell? ⟨b, off + k * 7 + 4, none⟩ = some (.int .u64 x.s2) ∧ w.cell? ⟨b, off + k * 7 + 5, none⟩ = some (.int .u64 x.s3) ∧
   w.cell? ⟨b, off + k * 7 + 6, none⟩ = some (.slice ko x.kids.length kc) ∧ HasE w D n ko x.kids
theorem HasE.but {S : Nat → Prop} {D : Nat} {w w' : World} (hb : But S w w') (hS : ∀ j, S j → j < D) : ∀ {n : Nat} {ao : Option Addr} {K : List Ex}, HasE w D n ao K → HasE w' D n ao K
 | 0, _, _, h => h
 | n + 1, ao, K, h => fun k x hx => by
  obtain ⟨b, off, ko, kc, e, hlt, hne, c0, c1, c2, c3, c4, c5, c6, hk⟩ := h k x hx
  have hn : ¬ S b := fun hs => by have := hS b hs; omega
  exact ⟨b, off, ko, kc, e, Nat.lt_of_lt_of_le hlt hb.size, hne, hb.cell hn c0, hb.cell hn c1, hb.cell hn c2, hb.cell hn c3, hb.cell hn c4, hb.cell hn c5, hb.cell hn c6, HasE.but hb hS hk⟩
theorem HasE.low {D D' : Nat} {w : World} (hD : D' ≤ D) : ∀ {n : Nat} {ao : Option Addr} {K : List Ex}, HasE w D n ao K → HasE w D' n ao K
 | 0, _, _, h => h
 | n + 1, ao, K, h => fun k x hx => by
  obtain ⟨b, off, ko, kc, e, hlt, hne, c0, c1, c2, c3, c4, c5, c6, hk⟩ := h k x hx
  exact ⟨b, off, ko, kc, e, hlt, Nat.le_trans hD hne, c0, c1, c2, c3, c4, c5, c6, HasE.low hD hk⟩
theorem HasE.more {D : Nat} {w : World} : ∀ {n : Nat} {ao : Option Addr} {K : List Ex}, HasE w D n ao K → HasE w D (n + 1) ao K
 | 0, ao, K, h => fun k x hx => by
  have h : K = [] := h
  subst h; simp at hx
 | n + 1, ao, K, h => fun k x hx => by
  obtain ⟨b, off, ko, kc, e, hlt, hne, c0, c1, c2, c3, c4, c5, c6, hk⟩ := h k x hx
  exact ⟨b, off, ko, kc, e, hlt, hne, c0, c1, c2, c3, c4, c5, c6, HasE.more hk⟩
theorem HasE.upto {D : Nat} {w : World} {n : Nat} {ao : Option Addr} {K : List Ex} (h : HasE w D n ao K) : ∀ m, n ≤ m → HasE w D m ao K
 | 0, hm => by
  obtain rfl : n = 0 := by omega
  exact h
 | m + 1, hm => by
  by_cases e : n = m + 1
  ·
   rw [← e]; exact h
  ·
   exact HasE.more (HasE.upto h m (by omega))
theorem HasE.hask {D : Nat} {w : World} : ∀ {n : Nat} {ao : Option Addr} {K : List Ex}, HasE w D n ao K → HasK w n ao K
 | 0, _, _, h => h
 | n + 1, ao, K, h => fun k x hx => by
  obtain ⟨b, off, ko, kc, e, hlt, hne, c0, c1, c2, c3, c4, c5, c6, hk⟩ := h k x hx
  exact ⟨b, off, ko, kc, e, hlt, c0, c1, c2, c3, c4, c5, c6, hk.hask⟩
theorem HasE.nil (w : World) (D : Nat) (ao : Option Addr) : HasE w D 0 ao [] := rfl
/-- The cursor: tokens, the place, the first fault. -/
def fE : Option (Int × Int) → Int | none => 0 | some f => f.1
def fA : Option (Int × Int) → Int | none => 0 | some f => f.2
def Rd (w : World) (g : Nat) (lo : Option Addr) (lc : Nat) (L : List Tok) (k : Nat) (F : Option (Int × Int)) : Prop :=
 Own w g 61 [.slice lo L.length lc, .int .i64 (k : Int), .int .i64 (fE F), .int .i64 (fA F), .int .i64 0, .int .i64 0] ∧ HasT w lo L ∧ ∀ a, lo = some a → a.block ≠ g
theorem HasT.but {w w' : World} {g : Nat} {ao : Option Addr} {L : List Tok} (h : HasT w ao L) (hg : ∀ a, ao = some a → a.block ≠ g) (hb : But (fun j => j = g) w w') : HasT w' ao L := fun k t hk => by
 obtain ⟨b, off, e, hlt, h0, h1, h2, h3, h4, h5, h6⟩ := h k t hk
 have hne : b ≠ g := hg _ e
 exact ⟨b, off, e, Nat.lt_of_lt_of_le hlt hb.size, hb.cell hne h0, hb.cell hne h1, hb.cell hne h2, hb.cell hne h3, hb.cell hne h4, hb.cell hne h5, hb.cell hne h6⟩
/-- What a call of the reader ends in. -/
def OutQ (w : World) (g : Nat) (lo : Option Addr) (lc : Nat) (L : List Tok) (r : Rs) (D : Nat) (X : Ex) (ko : Option Addr) (w' : World) : Prop :=
 match r with
 | .ok (x, m) => Rd w' g lo lc L m none ∧ x = X ∧ ∃ n, HasE w' D n ko X.kids
 | .error f => f.1 ≠ 0 ∧ ∃ k, Rd w' g lo lc L k (some f)
def Out (w : World) (g : Nat) (lo : Option Addr) (lc : Nat) (L : List Tok) (r : Rs) (e : Ending) (w' : World) : Prop :=
 But (fun j => j = g) w w' ∧ ∃ X ko kc, e = .returned (exv X ko kc) ∧ OutQ w g lo lc L r w.heap.size X ko w'
end Go.Proofs.Ytonknapfndaalaa

namespace Go.Proofs.Ytonknapfndaalaa
set_option linter.unusedVariables false
set_option maxRecDepth 1000000
open Go.RowKit Go.Sort
theorem Own.six_r {w : World} {g : Nat} {t : TypeId} {v0 v1 v2 v3 v4 v5 : Value} (h : Own w g t [v0, v1, v2, v3, v4, v5]) :
  w.cell? ⟨g, 0, none⟩ = some v0 ∧ w.cell? ⟨g, 1, none⟩ = some v1 ∧ w.cell? ⟨g, 2, none⟩ = some v2 ∧ w.cell? ⟨g, 3, none⟩ = some v3 ∧ w.cell? ⟨g, 4, none⟩ = some v4 ∧ w.cell? ⟨g, 5, none⟩ = some v5 ∧ g < w.heap.size :=
 ⟨h.cell 0, h.cell 1, h.cell 2, h.cell 3, h.cell 4, h.cell 5, h.lt⟩
theorem But.set7 (w : World) (g : Nat) (u0 u1 u2 u3 u4 u5 u6 : Value) : But (fun j => j = g) w (set7t w g u0 u1 u2 u3 u4 u5 u6) :=
 (((((((But.refl (fun j => j = g) w).setCell (p := ⟨g, 0, none⟩) (fun _ => rfl) u0).setCell (p := ⟨g, 1, none⟩) (fun _ => rfl) u1).setCell (p := ⟨g, 2, none⟩) (fun _ => rfl) u2).setCell (p := ⟨g, 3, none⟩) (fun _ => rfl) u3).setCell (p := ⟨g, 4, none⟩) (fun _ => rfl) u4).setCell (p := ⟨g, 5, none⟩) (fun _ => rfl) u5).setCell (p := ⟨g, 6, none⟩) (fun _ => rfl) u6
theorem tkA_in {L : List Tok} {k : Nat} {t : Tok} (h : L[k]? = some t) : tkA L k = t := by unfold tkA; rw [List.getD_eq_getElem?_getD, h]; rfl
theorem tkA_out {L : List Tok} {k : Nat} (h : L.length ≤ k) : tkA L k = tk0 := by unfold tkA; rw [List.getD_eq_getElem?_getD, List.getElem?_eq_none h]; rfl
set_option maxRecDepth 1000000 in
set_option maxHeartbeats 1600000 in
theorem rd_now (g : Nat) (lo : Option Addr) (lc : Nat) (L : List Tok) (k : Nat) (F : Option (Int × Int)) (hn : (L.length : Int) ≤ 1000000) (hk : (k : Int) ≤ 1000000) (w : World) (h : Rd w g lo lc L k F) :
  Calls Try.prog 54 #[.pointer (some ⟨g, 0, none⟩)] w fun e w' => e = .returned (tokV (tkA L k)) ∧ Below w.heap.size w w' := by
 obtain ⟨ho, hT, -⟩ := h
 have HO := Lib.hid (ho.on_alloc (.cells #[.int .i64 0, .string ⟨#[]⟩, .int .u64 0, .int .u64 0, .int .u64 0, .int .u64 0, .int .i64 0] 48))
 have HR := Lib.hid (Own.fresh w 48 [.int .i64 0, .string ⟨#[]⟩, .int .u64 0, .int .u64 0, .int .u64 0, .int .u64 0, .int .i64 0])
 have HB := Lib.hid ((Below.refl w.heap.size w).alloc (Nat.le_refl _) (.cells #[.int .i64 0, .string ⟨#[]⟩, .int .u64 0, .int .u64 0, .int .u64 0, .int .u64 0, .int .i64 0] 48))
 have HT := Lib.hid (hT.below ((Below.refl _ _).alloc (Nat.le_refl _) (.cells #[.int .i64 0, .string ⟨#[]⟩, .int .u64 0, .int .u64 0, .int .u64 0, .int .u64 0, .int .i64 0] 48)))
 obtain ⟨n, hnn⟩ : ∃ n, L.length = n := ⟨_, rfl⟩
 have HN := Lib.hid hnn
 rw [hnn] at hn HO
 clear ho hT hnn
 go_enter Try.func54, Try.ntmps54
 go_upto_region 1 with fail
 generalize World.alloc w _ = w1 at *
 obtain ⟨N, hN⟩ : ∃ N, w.heap.size = N := ⟨_, rfl⟩
 rw [hN] at HR HB ⊢
 have HNN := Lib.hid hN
 clear hN
 obtain ⟨c0, c1, c2, c3, c4, c5, cg⟩ := HO.out.six_r
 by_cases h1 : k < n
 ·
  obtain ⟨t, ht⟩ : ∃ t, L[k]? = some t := ⟨_, List.getElem?_eq_getElem (by have := HN.out; omega)⟩
  obtain ⟨b, off, rfl, hb, a0, a1, a2, a3, a4, a5, a6⟩ := HT.out k t ht
  have HE := Lib.hid (tkA_in ht)
  obtain ⟨z0, z1, z2, z3, z4, z5, z6, y0, y1, y2, y3, y4, y5, y6⟩ := HR.out.seven2
  have zl := HR.out.lt
  have h1' : (k : Int) < n := by omega
  clear ht
  go_wp2_with fail
  go_quiet (fail)
  go_wp2_with fail
  have HO2 := Lib.hid (HO.out.on_drewN nq)
  have HR2 := Lib.hid (HR.out.on_drewN nq)
  have HB2 := Lib.hid (below_drewN HB.out nq)
  have a0' : (w1.drewN nq).cell? ⟨b, off + k * 7, none⟩ = some (.int .i64 (t.kd : Int)) := a0
  have a1' : (w1.drewN nq).cell? ⟨b, off + k * 7 + 1, none⟩ = some (.string t.tx) := a1
  have a2' : (w1.drewN nq).cell? ⟨b, off + k * 7 + 2, none⟩ = some (.int .u64 (t.st.1 : Int)) := a2
  have a3' : (w1.drewN nq).cell? ⟨b, off + k * 7 + 3, none⟩ = some (.int .u64 (t.st.2.1 : Int)) := a3
  have a4' : (w1.drewN nq).cell? ⟨b, off + k * 7 + 4, none⟩ = some (.int .u64 (t.st.2.2.1 : Int)) := a4
  have a5' : (w1.drewN nq).cell? ⟨b, off + k * 7 + 5, none⟩ = some (.int .u64 (t.st.2.2.2 : Int)) := a5
  have a6' : (w1.drewN nq).cell? ⟨b, off + k * 7 + 6, none⟩ = some (.int .i64 (t.pos : Int)) := a6
  have hb2 : b < (w1.drewN nq).heap.size := hb
  clear HO HR HB a0 a1 a2 a3 a4 a5 a6 hb c0 c1 c2 c3 c4 c5 cg z0 z1 z2 z3 z4 z5 z6 y0 y1 y2 y3 y4 y5 y6 zl HT
  generalize w1.drewN nq = w2 at *
  obtain ⟨c0, c1, c2, c3, c4, c5, cg⟩ := HO2.out.six_r
  obtain ⟨z0, z1, z2, z3, z4, z5, z6, y0, y1, y2, y3, y4, y5, y6⟩ := HR2.out.seven2
  have zl := HR2.out.lt
  go_still_tail 10, (by kernel_rfl)
  go_wp2
  rw [set7t_fold]
  have HF := (HR2.out.put7 (u0 := .int .i64 (t.kd : Int)) (u1 := .string t.tx) (u2 := .int .u64 (t.st.1 : Int)) (u3 := .int .u64 (t.st.2.1 : Int)) (u4 := .int .u64 (t.st.2.2.1 : Int)) (u5 := .int .u64 (t.st.2.2.2 : Int)) (u6 := .int .i64 (t.pos : Int))).on_drew
  have HBF := (below_put7 HB2.out (Nat.le_refl _) (.int .i64 (t.kd : Int)) (.string t.tx) (.int .u64 (t.st.1 : Int)) (.int .u64 (t.st.2.1 : Int)) (.int .u64 (t.st.2.2.1 : Int)) (.int .u64 (t.st.2.2.2 : Int)) (.int .i64 (t.pos : Int))).drew
  clear z0 z1 z2 z3 z4 z5 z6 y0 y1 y2 y3 y4 y5 y6
  generalize (set7t w2 N (.int .i64 (t.kd : Int)) (.string t.tx) (.int .u64 (t.st.1 : Int)) (.int .u64 (t.st.2.1 : Int)) (.int .u64 (t.st.2.2.1 : Int)) (.int .u64 (t.st.2.2.2 : Int)) (.int .i64 (t.pos : Int))).drew = w9 at *
  obtain ⟨z0, z1, z2, z3, z4, z5, z6⟩ := HF.seven
  refine bodyPost_ret (by simp [results, Try.results54, go_sem, z0, z1, z2, z3, z4, z5, z6]; rfl) rfl ?_
  exact ⟨by rw [HE.out]; rfl, by rw [HNN.out]; exact HBF⟩
 ·
  have h1' : decide ((k : Int) < n) = false := decide_eq_false (by omega)
  have HE := Lib.hid (tkA_out (L := L) (k := k) (by have := HN.out; omega))
  obtain ⟨z0, z1, z2, z3, z4, z5, z6, y0, y1, y2, y3, y4, y5, y6⟩ := HR.out.seven2
  have zl := HR.out.lt
  go_wp2_with fail
  go_quiet (fail)
  go_wp2
  rw [set7t_fold]
  have HF := ((HR.out.on_drewN nq).put7 (u0 := .int .i64 0) (u1 := .string ⟨#[]⟩) (u2 := .int .u64 0) (u3 := .int .u64 0) (u4 := .int .u64 0) (u5 := .int .u64 0) (u6 := .int .i64 0))
  have HBF := (below_put7 (below_drewN HB.out nq) (Nat.le_refl _) (.int .i64 0) (.string ⟨#[]⟩) (.int .u64 0) (.int .u64 0) (.int .u64 0) (.int .u64 0) (.int .i64 0))
  clear z0 z1 z2 z3 z4 z5 z6 y0 y1 y2 y3 y4 y5 y6
  generalize (set7t (w1.drewN nq) N (.int .i64 0) (.string ⟨#[]⟩) (.int .u64 0) (.int .u64 0) (.int .u64 0) (.int .u64 0) (.int .i64 0)) = w9 at *
  obtain ⟨z0, z1, z2, z3, z4, z5, z6⟩ := HF.seven
  refine bodyPost_ret (by simp [results, Try.results54, go_sem, z0, z1, z2, z3, z4, z5, z6]; rfl) rfl ?_
  exact ⟨by rw [HE.out]; rfl, by rw [HNN.out]; exact HBF⟩
end Go.Proofs.Ytonknapfndaalaa

namespace Go.Proofs.Ytonknapfndaalaa
set_option linter.unusedVariables false
set_option maxRecDepth 1000000
open Go.RowKit Go.Sort
section
variable (a p : Int) (b : ByteArray) (c d e f : Int) (w : World)
@[go_sem 2000] theorem field_tok0 : (Instr.field 48 (.agg #[.int .i64 a, .string b, .int .u64 c, .int .u64 d, .int .u64 e, .int .u64 f, .int .i64 p]) 0).run Try.prog w = .ok (.int .i64 a) w := by kernel_rfl
@[go_sem 2000] theorem field_tok1 : (Instr.field 48 (.agg #[.int .i64 a, .string b, .int .u64 c, .int .u64 d, .int .u64 e, .int .u64 f, .int .i64 p]) 1).run Try.prog w = .ok (.string b) w := by kernel_rfl
@[go_sem 2000] theorem field_tok3 : (Instr.field 48 (.agg #[.int .i64 a, .string b, .int .u64 c, .int .u64 d, .int .u64 e, .int .u64 f, .int .i64 p]) 3).run Try.prog w = .ok (.int .i64 p) w := by kernel_rfl
end
theorem Rd.below {w w' : World} {g : Nat} {lo : Option Addr} {lc : Nat} {L : List Tok} {k : Nat} {F : Option (Int × Int)} (h : Rd w g lo lc L k F) (hb : Below w.heap.size w w') : Rd w' g lo lc L k F :=
 ⟨h.1.under hb h.1.lt, h.2.1.below hb, h.2.2⟩
theorem isS_eq (L : List Tok) (k : Nat) (s : ByteArray) : isS L k s.data.toList = ((tkA L k).kd == 4 && (tkA L k).tx.toList == s.toList) := by
 unfold isS; rw [ByteArray.toList_eq, ByteArray.toList_eq]
set_option maxRecDepth 1000000 in
set_option maxHeartbeats 1600000 in
theorem rd_is (s : ByteArray) (g : Nat) (lo : Option Addr) (lc : Nat) (L : List Tok) (k : Nat) (F : Option (Int × Int)) (hn : (L.length : Int) ≤ 1000000) (hk : (k : Int) ≤ 1000000) (w : World) (h : Rd w g lo lc L k F) :
  Calls Try.prog 73 #[.pointer (some ⟨g, 0, none⟩), .string s] w fun e w' => e = .returned (.bool (isS L k s.data.toList)) ∧ Below w.heap.size w w' := by
 have HNW := Lib.hid (fun (W : World) (hb : Below w.heap.size w W) => rd_now g lo lc L k F hn hk W (h.below hb))
 have HE := Lib.hid (isS_eq L k s)
 clear h
 obtain ⟨R, hR⟩ : ∃ R, isS L k s.data.toList = R := ⟨_, rfl⟩
 rw [hR] at HE ⊢
 clear hR
 generalize tkA L k = t at *
 unfold tokV at HNW
 obtain ⟨kd, hkd⟩ : ∃ z, t.kd = z := ⟨_, rfl⟩
 rw [hkd] at HNW HE
 go_enter Try.func73, Try.ntmps73
 go_wp2_with fail
 refine (HNW.out _ (Below.refl _ _)).mono ?_
 rintro e w1 ⟨rfl, hb1⟩
 have HB1 := Lib.hid hb1
 clear hb1
 by_cases h4 : kd = 4
 ·
  subst h4
  obtain ⟨z, hz⟩ : ∃ z, (t.tx.toList == s.toList) = z := ⟨_, rfl⟩
  have HZ := Lib.hid (show R = z by rw [HE.out, hz]; rfl)
  go_wp2_with fail
  refine (HNW.out _ HB1.out).mono ?_
  rintro e w2 ⟨rfl, hb2⟩
  have HB2 := Lib.hid (keepb HB1.out hb2)
  clear hb2
  go_wp2
  go_ret
  exact ⟨ret_bool HZ.out.symm, HB2.out⟩
 ·
  have e4 : ((kd : Int) == 4) = false := beq_eq_false_iff_ne.2 (by omega)
  have e4n : (kd == 4) = false := beq_eq_false_iff_ne.2 h4
  have HZ := Lib.hid (show R = false by rw [HE.out, e4n]; rfl)
  clear h4
  go_wp2
  go_ret
  exact ⟨ret_bool HZ.out.symm, HB1.out⟩
set_option maxRecDepth 1000000 in
set_option maxHeartbeats 1600000 in
theorem rd_take (s : ByteArray) (g : Nat) (lo : Option Addr) (lc : Nat) (L : List Tok) (k : Nat) (F : Option (Int × Int)) (hn : (L.length : Int) ≤ 1000000) (hk : (k : Int) ≤ 1000000) (w : World) (h : Rd w g lo lc L k F) :
  Calls Try.prog 53 #[.pointer (some ⟨g, 0, none⟩), .string s] w fun e w' => e = .returned (.bool (isS L k s.data.toList)) ∧ But (fun j => j = g) w w' ∧ Rd w' g lo lc L (if isS L k s.data.toList = true then k + 1 else k) F := by
 have HIS := Lib.hid (rd_is s g lo lc L k F hn hk w h)
 have H := Lib.hid h
 obtain ⟨z, hz⟩ : ∃ z, isS L k s.data.toList = z := ⟨_, rfl⟩
 rw [hz] at HIS ⊢
 clear h hz
 have hw1 : IntKind.i64.wrap ((k : Int) + 1) = (k : Int) + 1 := by rw [IntKind.wrap_i64]; omega
 go_enter Try.func53, Try.ntmps53
 go_wp2_with fail
 refine HIS.out.mono ?_
 rintro e w1 ⟨rfl, hb1⟩
 have H1 := Lib.hid (H.out.below hb1)
 have HB1 := Lib.hid (But.of_below (S := fun j => j = g) hb1)
 clear hb1
 cases z with
 | false =>
  go_wp2
  go_ret
  exact ⟨rfl, HB1.out, H1.out⟩
 | true =>
  obtain ⟨c0, c1, c2, c3, c4, c5, cg⟩ := H1.out.1.six_r
  have cf : w1.frozen? ⟨g, 1, none⟩ = false := H1.out.1.thaw 1
  have HR := Lib.hid (show Rd (w1.setCell ⟨g, 1, none⟩ (.int .i64 ((k : Int) + 1))) g lo lc L (k + 1) F from
   ⟨H1.out.1.put 1 _, H1.out.2.1.but H1.out.2.2 (But.put _ _ _ _), H1.out.2.2⟩)
  have HB2 := Lib.hid (HB1.out.setCell (p := ⟨g, 1, none⟩) (fun _ => rfl) (.int .i64 ((k : Int) + 1)))
  clear H1 HB1
  go_wp2
  go_ret
  exact ⟨rfl, HB2.out, HR.out⟩
def ex0 : Ex := .mk 0 ⟨#[]⟩ 0 0 0 0 []
set_option maxRecDepth 1000000 in
set_option maxHeartbeats 1600000 in
theorem rd_fail (c : Int) (g : Nat) (lo : Option Addr) (lc : Nat) (L : List Tok) (k : Nat) (hn : (L.length : Int) ≤ 1000000) (hk : (k : Int) ≤ 1000000) (w : World) (h : Rd w g lo lc L k none) :
  Calls Try.prog 31 #[.pointer (some ⟨g, 0, none⟩), .int .i64 c] w fun e w' => e = .returned (exv ex0 none 0) ∧ But (fun j => j = g) w w' ∧ Rd w' g lo lc L k (some (c, ((tkA L k).pos : Int))) := by
 have HW0 := Lib.hid h
 have HR := Lib.hid (Own.fresh w 28 [.int .i64 0, .string ⟨#[]⟩, .int .u64 0, .int .u64 0, .int .u64 0, .int .u64 0, .slice none 0 0])
 have HB := Lib.hid ((Below.refl w.heap.size w).alloc (Nat.le_refl _) (.cells #[.int .i64 0, .string ⟨#[]⟩, .int .u64 0, .int .u64 0, .int .u64 0, .int .u64 0, .slice none 0 0] 28))
 have H1 := Lib.hid (h.below ((Below.refl _ _).alloc (Nat.le_refl _) (.cells #[.int .i64 0, .string ⟨#[]⟩, .int .u64 0, .int .u64 0, .int .u64 0, .int .u64 0, .slice none 0 0] 28)))
 have HNE := Lib.hid (show g < w.heap.size from h.1.lt)
 have HNW := Lib.hid (fun (W : World) (hW : Rd W g lo lc L k none) => rd_now g lo lc L k none hn hk W hW)
 clear h
 generalize tkA L k = t at *
 unfold tokV at HNW
 go_enter Try.func31, Try.ntmps31
 go_upto_region 1 with fail
 generalize World.alloc w _ = w1 at *
 obtain ⟨N, hN⟩ : ∃ N, w.heap.size = N := ⟨_, rfl⟩
 rw [hN] at HR HB HNE
 rw [hN]
 have HNN := Lib.hid hN
 clear hN
 obtain ⟨c0, c1, c2, c3, c4, c5, cg⟩ := H1.out.1.six_r
 simp only [fE, fA] at c2 c3
 go_wp2_with fail
 refine (HNW.out _ H1.out).mono ?_
 rintro e w2 ⟨rfl, hb2⟩
 have H2 := Lib.hid (H1.out.below hb2)
 have HR2 := Lib.hid (HR.out.under hb2 HR.out.lt)
 have HB2 := Lib.hid (show Below N w w2 from HB.out.trans (hb2.mono (by have := HR.out.lt; omega)))
 clear hb2 H1 HR HB c0 c1 c2 c3 c4 c5 cg
 obtain ⟨c0, c1, c2, c3, c4, c5, cg⟩ := H2.out.1.six_r
 simp only [fE, fA] at c2 c3
 have d2 : w2.frozen? ⟨g, 2, none⟩ = false := H2.out.1.thaw 2
 have d3 : w2.frozen? ⟨g, 3, none⟩ = false := H2.out.1.thaw 3
 have d4 : w2.frozen? ⟨g, 4, none⟩ = false := H2.out.1.thaw 4
 have d5 : w2.frozen? ⟨g, 5, none⟩ = false := H2.out.1.thaw 5
 obtain ⟨w3, hw3⟩ : ∃ w3, (((w2.setCell ⟨g, 2, none⟩ (.int .i64 c)).setCell ⟨g, 3, none⟩ (.int .i64 (t.pos : Int))).setCell ⟨g, 4, none⟩ (.int .i64 0)).setCell ⟨g, 5, none⟩ (.int .i64 0) = w3 := ⟨_, rfl⟩
 have HU := Lib.hid (show But (fun j => j = g) w2 w3 from by
  rw [← hw3]
  exact ((((But.refl (fun j => j = g) w2).setCell (p := ⟨g, 2, none⟩) (fun _ => rfl) _).setCell (p := ⟨g, 3, none⟩) (fun _ => rfl) _).setCell (p := ⟨g, 4, none⟩) (fun _ => rfl) _).setCell (p := ⟨g, 5, none⟩) (fun _ => rfl) _)
 have H3 := Lib.hid (show Rd w3 g lo lc L k (some (c, (t.pos : Int))) from by
  refine ⟨?_, H2.out.2.1.but H2.out.2.2 HU.out, H2.out.2.2⟩
  rw [← hw3]
  exact (((H2.out.1.put 2 _).put 3 _).put 4 _).put 5 _)
 have HR3 := Lib.hid (HR2.out.but HU.out (by have := HNE.out; omega))
 go_upto_region 3 with fail
 try rw [hw3]
 clear c0 c1 c2 c3 c4 c5 cg d2 d3 d4 d5 hw3 HR2 H2 HNW
 obtain ⟨z0, z1, z2, z3, z4, z5, z6, y0, y1, y2, y3, y4, y5, y6⟩ := HR3.out.seven2
 have zl := HR3.out.lt
 go_wp2
 rw [set7t_fold]
 have HF := HR3.out.put7 (u0 := .int .i64 0) (u1 := .string ⟨#[]⟩) (u2 := .int .u64 0) (u3 := .int .u64 0) (u4 := .int .u64 0) (u5 := .int .u64 0) (u6 := .slice none 0 0)
 have HB4 : But (fun j => j = N) w3 (set7t w3 N (.int .i64 0) (.string ⟨#[]⟩) (.int .u64 0) (.int .u64 0) (.int .u64 0) (.int .u64 0) (.slice none 0 0)) := But.set7 _ _ _ _ _ _ _ _ _
 clear z0 z1 z2 z3 z4 z5 z6 y0 y1 y2 y3 y4 y5 y6
 obtain ⟨z0, z1, z2, z3, z4, z5, z6⟩ := HF.seven
 refine bodyPost_ret (by simp [results, Try.results31, go_sem, z0, z1, z2, z3, z4, z5, z6]; rfl) rfl ?_
 have hU : But (fun j => j = g) w (set7t w3 N (.int .i64 0) (.string ⟨#[]⟩) (.int .u64 0) (.int .u64 0) (.int .u64 0) (.int .u64 0) (.slice none 0 0)) :=
  ((But.of_below (S := fun j => j = g) (show Below w.heap.size w w2 from by rw [HNN.out]; exact HB2.out)).trans HU.out (fun _ _ h => h)).trans HB4 (fun j hj e => by have := HNN.out; omega)
 exact ⟨rfl, hU, H3.out.1.but HB4 (by have := HNE.out; omega), HW0.out.2.1.but HW0.out.2.2 hU, HW0.out.2.2⟩
end Go.Proofs.Ytonknapfndaalaa

namespace Go.Proofs.Ytonknapfndaalaa
set_option linter.unusedVariables false
set_option maxRecDepth 1000000
open Go.RowKit Go.Sort
set_option maxRecDepth 1000000 in
set_option maxHeartbeats 1600000 in
theorem rd_starts (g : Nat) (lo : Option Addr) (lc : Nat) (L : List Tok) (k : Nat) (F : Option (Int × Int)) (hn : (L.length : Int) ≤ 1000000) (hk : (k : Int) ≤ 1000000) (w : World) (h : Rd w g lo lc L k F) :
  Calls Try.prog 72 #[.pointer (some ⟨g, 0, none⟩)] w fun e w' => e = .returned (.bool (startsO L k)) ∧ Below w.heap.size w w' := by
 have HNW := Lib.hid (rd_now g lo lc L k F hn hk w h)
 have HIS := Lib.hid (fun (s : ByteArray) (W : World) (hb : Below w.heap.size w W) => rd_is s g lo lc L k F hn hk W (h.below hb))
 have HE := Lib.hid (show startsO L k = ((tkA L k).kd == 1 || (tkA L k).kd == 2 || (tkA L k).kd == 3 || isS L k [38] || isS L k [33] || isS L k [126] || isS L k [46] || isS L k [40]) from rfl)
 generalize startsO L k = R at *
 generalize tkA L k = t at *
 unfold tokV at HNW
 obtain ⟨kd, hkd⟩ : ∃ z, t.kd = z := ⟨_, rfl⟩
 rw [hkd] at HNW HE
 clear h hkd
 go_enter Try.func72, Try.ntmps72
 go_wp2_with fail
 refine HNW.out.mono ?_
 rintro e w1 ⟨rfl, hb1⟩
 have HB2 := Lib.hid (hb1.alloc hb1.size (.cells #[.int .i64 (kd : Int), .string t.tx, .int .u64 (t.st.1 : Int), .int .u64 (t.st.2.1 : Int), .int .u64 (t.st.2.2.1 : Int), .int .u64 (t.st.2.2.2 : Int), .int .i64 (t.pos : Int)] 48))
 have HX := Lib.hid (Own.fresh w1 48 [.int .i64 (kd : Int), .string t.tx, .int .u64 (t.st.1 : Int), .int .u64 (t.st.2.1 : Int), .int .u64 (t.st.2.2.1 : Int), .int .u64 (t.st.2.2.2 : Int), .int .i64 (t.pos : Int)])
 clear hb1 HNW
 go_upto_region 2 with fail
 generalize World.alloc w1 _ = w2 at *
 generalize w1.heap.size = G at *
 have x0 : w2.cell? ⟨G, 0, none⟩ = some (.int .i64 (kd : Int)) := HX.out.cell 0
 have xl := HX.out.lt
 by_cases q1 : kd = 1
 ·
  subst q1
  have HZ := Lib.hid (show R = true by rw [HE.out]; rfl)
  go_wp2
  go_ret
  exact ⟨ret_bool HZ.out.symm, HB2.out⟩
 have i1 : ((kd : Int) == 1) = false := beq_eq_false_iff_ne.2 (by omega)
 have j1 : (kd == 1) = false := beq_eq_false_iff_ne.2 q1
 by_cases q2 : kd = 2
 ·
  subst q2
  have HZ := Lib.hid (show R = true by rw [HE.out]; rfl)
  go_wp2
  go_ret
  exact ⟨ret_bool HZ.out.symm, HB2.out⟩
 have i2 : ((kd : Int) == 2) = false := beq_eq_false_iff_ne.2 (by omega)
 have j2 : (kd == 2) = false := beq_eq_false_iff_ne.2 q2
 by_cases q3 : kd = 3
 ·
  subst q3
  have HZ := Lib.hid (show R = true by rw [HE.out]; rfl)
  go_wp2
  go_ret
  exact ⟨ret_bool HZ.out.symm, HB2.out⟩
 have i3 : ((kd : Int) == 3) = false := beq_eq_false_iff_ne.2 (by omega)
 have j3 : (kd == 3) = false := beq_eq_false_iff_ne.2 q3
 rw [j1, j2, j3] at HE
 clear q1 q2 q3 j1 j2 j3
 have HS := HB2
 obtain ⟨z0, hz0⟩ : ∃ z, isS L k [38] = z := ⟨_, rfl⟩
 have HI0 := Lib.hid (show ∀ W, Below w.heap.size w W → Calls Try.prog 73 #[.pointer (some ⟨g, 0, none⟩), .string ⟨#[38]⟩] W fun e w' => e = .returned (.bool z0) ∧ Below W.heap.size W w' from fun W hb => by have h := HIS.out ⟨#[38]⟩ W hb; rw [show (⟨#[38]⟩ : ByteArray).data.toList = [38] from rfl, hz0] at h; exact h)
 rw [hz0] at HE
 clear hz0
 go_wp2_with fail
 refine (HI0.out _ HB2.out).mono ?_
 rintro e w3 ⟨rfl, hb⟩
 have HBx0 := Lib.hid (keepb HB2.out hb)
 clear hb
 cases z0 with
 | true =>
  have HZ := Lib.hid (show R = true by rw [HE.out]; simp)
  go_wp2
  go_ret
  exact ⟨ret_bool HZ.out.symm, HBx0.out⟩
 | false =>
  obtain ⟨z1, hz1⟩ : ∃ z, isS L k [33] = z := ⟨_, rfl⟩
  have HI1 := Lib.hid (show ∀ W, Below w.heap.size w W → Calls Try.prog 73 #[.pointer (some ⟨g, 0, none⟩), .string ⟨#[33]⟩] W fun e w' => e = .returned (.bool z1) ∧ Below W.heap.size W w' from fun W hb => by have h := HIS.out ⟨#[33]⟩ W hb; rw [show (⟨#[33]⟩ : ByteArray).data.toList = [33] from rfl, hz1] at h; exact h)
  rw [hz1] at HE
  clear hz1
  go_wp2_with fail
  refine (HI1.out _ HBx0.out).mono ?_
  rintro e w4 ⟨rfl, hb⟩
  have HBx1 := Lib.hid (keepb HBx0.out hb)
  clear hb
  cases z1 with
  | true =>
   have HZ := Lib.hid (show R = true by rw [HE.out]; simp)
   go_wp2
   go_ret
   exact ⟨ret_bool HZ.out.symm, HBx1.out⟩
  | false =>
   obtain ⟨z2, hz2⟩ : ∃ z, isS L k [126] = z := ⟨_, rfl⟩
   have HI2 := Lib.hid (show ∀ W, Below w.heap.size w W → Calls Try.prog 73 #[.pointer (some ⟨g, 0, none⟩), .string ⟨#[126]⟩] W fun e w' => e = .returned (.bool z2) ∧ Below W.heap.size W w' from fun W hb => by have h := HIS.out ⟨#[126]⟩ W hb; rw [show (⟨#[126]⟩ : ByteArray).data.toList = [126] from rfl, hz2] at h; exact h)
   rw [hz2] at HE
   clear hz2
   go_wp2_with fail
   refine (HI2.out _ HBx1.out).mono ?_
   rintro e w5 ⟨rfl, hb⟩
   have HBx2 := Lib.hid (keepb HBx1.out hb)
   clear hb
   cases z2 with
   | true =>
    have HZ := Lib.hid (show R = true by rw [HE.out]; simp)
    go_wp2
    go_ret
    exact ⟨ret_bool HZ.out.symm, HBx2.out⟩
   | false =>
    obtain ⟨z3, hz3⟩ : ∃ z, isS L k [46] = z := ⟨_, rfl⟩
    have HI3 := Lib.hid (show ∀ W, Below w.heap.size w W → Calls Try.prog 73 #[.pointer (some ⟨g, 0, none⟩), .string ⟨#[46]⟩] W fun e w' => e = .returned (.bool z3) ∧ Below W.heap.size W w' from fun W hb => by have h := HIS.out ⟨#[46]⟩ W hb; rw [show (⟨#[46]⟩ : ByteArray).data.toList = [46] from rfl, hz3] at h; exact h)
    rw [hz3] at HE
    clear hz3
    go_wp2_with fail
    refine (HI3.out _ HBx2.out).mono ?_
    rintro e w6 ⟨rfl, hb⟩
    have HBx3 := Lib.hid (keepb HBx2.out hb)
    clear hb
    cases z3 with
    | true =>
     have HZ := Lib.hid (show R = true by rw [HE.out]; simp)
     go_wp2
     go_ret
     exact ⟨ret_bool HZ.out.symm, HBx3.out⟩
    | false =>
     obtain ⟨z4, hz4⟩ : ∃ z, isS L k [40] = z := ⟨_, rfl⟩
     have HI4 := Lib.hid (show ∀ W, Below w.heap.size w W → Calls Try.prog 73 #[.pointer (some ⟨g, 0, none⟩), .string ⟨#[40]⟩] W fun e w' => e = .returned (.bool z4) ∧ Below W.heap.size W w' from fun W hb => by have h := HIS.out ⟨#[40]⟩ W hb; rw [show (⟨#[40]⟩ : ByteArray).data.toList = [40] from rfl, hz4] at h; exact h)
     rw [hz4] at HE
     clear hz4
     go_wp2_with fail
     refine (HI4.out _ HBx3.out).mono ?_
     rintro e w7 ⟨rfl, hb⟩
     have HBx4 := Lib.hid (keepb HBx3.out hb)
     clear hb
     go_wp2
     go_ret
     exact ⟨ret_bool (by rw [HE.out]; simp), HBx4.out⟩
end Go.Proofs.Ytonknapfndaalaa

namespace Go.Proofs.Ytonknapfndaalaa
set_option linter.unusedVariables false
set_option maxRecDepth 1000000
open Go.RowKit Go.Sort
set_option maxHeartbeats 3200000 in
theorem rword_any (s : ByteArray) (hs : s.size ≤ maxLen) (w : World) : Calls Try.prog 51 #[.string s] w fun e w' => e = .returned (.bool (wordB s)) ∧ w = w' := by
 unfold maxLen at hs
 have HW := Lib.hid (show wordB s = (!(resB s) && allAt s s.size && decide ((s.size : Int) ≤ 12)) from rfl)
 have HR := Lib.hid (show resB s = (s.toList.isEmpty || s.toList == [109, 111, 100, 117, 108, 101] || s.toList == [105, 109, 112, 111, 114, 116] || s.toList == [119, 97, 116, 101, 114]) from rfl)
 obtain ⟨b0, h0⟩ : ∃ b0, s.toList.isEmpty = b0 := ⟨_, rfl⟩
 obtain ⟨b1, h1⟩ : ∃ b1, (s.toList == [109, 111, 100, 117, 108, 101]) = b1 := ⟨_, rfl⟩
 obtain ⟨b2, h2⟩ : ∃ b2, (s.toList == [105, 109, 112, 111, 114, 116]) = b2 := ⟨_, rfl⟩
 obtain ⟨b3, h3⟩ : ∃ b3, (s.toList == [119, 97, 116, 101, 114]) = b3 := ⟨_, rfl⟩
 have HB := Lib.hid (show resB s = (b0 || b1 || b2 || b3) by rw [HR.out, h0, h1, h2, h3])
 clear HR
 by_cases hz : (s.size : Int) ≤ 12
 ·
  by_cases hb : (b0 || b1 || b2 || b3) = true
  ·
   cases b0 <;> cases b1 <;> cases b2 <;> cases b3
   all_goals first
    | (exfalso; revert hb; decide)
    | (clear hb
       go_enter Try.func51, Try.ntmps51
       go_wp2
       go_ret
       exact ⟨ret_bool (by rw [HW.out, HB.out]; rfl), rfl⟩)
  ·
   obtain ⟨rfl, rfl, rfl, rfl⟩ : b0 = false ∧ b1 = false ∧ b2 = false ∧ b3 = false := by revert hb; cases b0 <;> cases b1 <;> cases b2 <;> cases b3 <;> decide
   clear hb
   have H0 := Lib.hid (show allAt s 0 = true from rfl)
   go_enter Try.func51, Try.ntmps51
   go_wp2
   go_loop [3] (fun i => ∃ k : Nat, k ≤ s.size ∧ i = .int .i64 k ∧ Hid (allAt s k = true)) (fun i => s.size - (intOf i).toNat)
   case atStart => exact ⟨0, Nat.zero_le _, rfl, H0⟩
   case round =>
    obtain ⟨k, hk, rfl, HA⟩ := hrel
    clear H0 h0 h1 h2 h3
    by_cases hlt : k < s.size
    ·
     obtain ⟨c, hc⟩ : ∃ c : Int, (s[k].toNat : Int) = c := ⟨_, rfl⟩
     have HC := Lib.hid (show byt s k = c by rw [byt_get hlt, hc])
     have hc0 : 0 ≤ c ∧ c ≤ 255 := by rw [← HC.out]; exact byt_lt s k
     have HN : okAt k c = false → Hid (wordB s = false) := fun h => Lib.hid (by rw [HW.out, allAt_no (k := k) (by rw [HC.out]; exact h) _ hlt]; simp)
     have HY : okAt k c = true → Hid (allAt s (k + 1) = true) := fun h => Lib.hid (by unfold allAt; rw [HA.out, HC.out, h]; rfl)
     by_cases g1 : 97 ≤ c <;> by_cases g2 : c ≤ 122 <;> by_cases g3 : 65 ≤ c <;> by_cases g4 : c ≤ 90
     all_goals try (exfalso; omega)
     all_goals
      have HL := Lib.hid (show isLet c = (decide (97 ≤ c) && decide (c ≤ 122) || decide (65 ≤ c) && decide (c ≤ 90)) from rfl)
      simp only [g1, g2, g3, g4, decide_true, decide_false, Bool.and_true, Bool.and_false, Bool.or_true, Bool.or_false] at HL
     all_goals try
      ( have H1 := HY (by unfold okAt; rw [HL.out]; rfl)
        clear HY HN
        go_wp2
        go_round
        case rel => exact ⟨k + 1, by omega, by go_num, H1⟩
        case measure => simp [intOf]; omega
        done)
     all_goals
      cases k with
      | zero =>
       have H1 := HN (by unfold okAt; rw [HL.out]; rfl)
       clear HY HN
       go_wp2
       go_ret
       exact ⟨ret_bool H1.out.symm, rfl⟩
      | succ k =>
       have hk0 : (((k + 1 : Nat) : Int) == 0) = false := by rw [beq_eq_false_iff_ne]; omega
       have hk1 : ((k : Int) + 1 == 0) = false := by rw [beq_eq_false_iff_ne]; omega
       obtain ⟨bu, hu⟩ : ∃ bu, (c != 95) = bu := ⟨_, rfl⟩
       cases bu with
       | false =>
        have hu' : (c == 95) = true := by rw [bne] at hu; revert hu; cases (c == 95) <;> simp
        have H1 := HY (by unfold okAt; rw [HL.out, hu']; simp)
        clear HY HN hu'
        go_wp2
        go_round
        case rel => exact ⟨k + 1 + 1, by omega, by go_num, H1⟩
        case measure => simp [intOf]; omega
       | true =>
        have hu' : (c == 95) = false := by rw [bne] at hu; revert hu; cases (c == 95) <;> simp
        by_cases g5 : c < 48
        ·
         first
          | (exfalso; omega)
          | (have H1 := HN (by unfold okAt isDig; rw [HL.out, hu']; simp; omega)
             clear HY HN hu'
             go_wp2
             go_ret
             exact ⟨ret_bool H1.out.symm, rfl⟩)
        ·
         by_cases g6 : 57 < c
         ·
          first
           | (exfalso; omega)
           | (have H1 := HN (by unfold okAt isDig; rw [HL.out, hu']; simp; omega)
              clear HY HN hu'
              go_wp2
              go_ret
              exact ⟨ret_bool H1.out.symm, rfl⟩)
         ·
          first
           | (exfalso; omega)
           | (have H1 := HY (by unfold okAt isDig; rw [HL.out, hu']; simp; omega)
              clear HY HN hu'
              go_wp2
              go_round
              case rel => exact ⟨k + 1 + 1, by omega, by go_num, H1⟩
              case measure => simp [intOf]; omega)
    ·
     obtain rfl : k = s.size := by omega
     go_wp2
     go_ret
     exact ⟨ret_bool (by rw [HW.out, HB.out, HA.out]; simp; omega), rfl⟩
 ·
  have HF := Lib.hid (show wordB s = false by rw [HW.out, decide_eq_false hz]; simp)
  clear HB
  cases b0
  all_goals
   go_enter Try.func51, Try.ntmps51
   go_wp2
   go_ret
   exact ⟨ret_bool HF.out.symm, rfl⟩
end Go.Proofs.Ytonknapfndaalaa
