/- Expressions as trees, and how they lie in memory. No program in sight. What tokens are as an expression: the document's answer, token by token; a cursor, and expressions, in memory. The cursor's small functions, walked: the token that comes, a sign that comes. The cursor's small functions, walked: a sign that comes is taken; the first fault. May a part of a row begin with the token that comes: walked. Names: the walk of the reference's Word. -/
import Derived.Test.YtonknapfndaalaaGa
import Derived.Test.YtonknapfndaalaaGs
import Derived.Test.YtonknapfndaalaaWord
import Derived.Test.YtonknapfndaalaaGe
import Derived.StillTailTactics
import Derived.BigQuiet
import Derived.KernelRfl
namespace Go.Proofs.Ytonknapfndaalaa
set_option linter.unusedVariables false
set_option maxRecDepth 1000000
open Go.RowKit
/-- An expression: its op, its text, its set's words, its kids. -/
inductive Ex where
 | mk (op : Int) (text : ByteArray) (s0 s1 s2 s3 : Int) (kids : List Ex)
namespace Ex
def op : Ex → Int | .mk o _ _ _ _ _ _ => o
def text : Ex → ByteArray | .mk _ t _ _ _ _ _ => t
def s0 : Ex → Int | .mk _ _ a _ _ _ _ => a
def s1 : Ex → Int | .mk _ _ _ a _ _ _ => a
def s2 : Ex → Int | .mk _ _ _ _ a _ _ => a
def s3 : Ex → Int | .mk _ _ _ _ _ a _ => a
def kids : Ex → List Ex | .mk _ _ _ _ _ _ k => k
end Ex
/-- As a value: its kids from ko on. -/
def exv (x : Ex) (ko : Option Addr) (kc : Nat) : Value := .agg #[.int .i64 x.op, .string x.text, .int .u64 x.s0, .int .u64 x.s1, .int .u64 x.s2, .int .u64 x.s3, .slice ko x.kids.length kc]
/-- The kids K lie from ao on, and theirs, n within one another at most. -/
def HasK (w : World) : Nat → Option Addr → List Ex → Prop
 | 0, _, K => K = []
 | n + 1, ao, K => ∀ (k : Nat) (x : Ex), K[k]? = some x → ∃ g off ko kc, ao = some ⟨g, off, none⟩ ∧ g < w.heap.size ∧
   w.cell? ⟨g, off + k * 7, none⟩ = some (.int .i64 x.op) ∧ w.cell? ⟨g, off + k * 7 + 1, none⟩ = some (.string x.text) ∧
   w.cell? ⟨g, off + k * 7 + 2, none⟩ = some (.int .u64 x.s0) ∧ w.cell? ⟨g, off + k * 7 + 3, none⟩ = some (.int .u64 x.s1) ∧
   w.cell? ⟨g, off + k * 7 + 4, none⟩ = some (.int .u64 x.s2) ∧ w.cell? ⟨g, off + k * 7 + 5, none⟩ = some (.int .u64 x.s3) ∧
   w.cell? ⟨g, off + k * 7 + 6, none⟩ = some (.slice ko x.kids.length kc) ∧ HasK w n ko x.kids
theorem HasK.below {w w' : World} (hb : Below w.heap.size w w') : ∀ {n : Nat} {ao : Option Addr} {K : List Ex}, HasK w n ao K → HasK w' n ao K
 | 0, _, _, h => h
 | n + 1, ao, K, h => fun k x hk => by
  obtain ⟨g, off, ko, kc, e, hg, c0, c1, c2, c3, c4, c5, c6, hr⟩ := h k x hk
  exact ⟨g, off, ko, kc, e, Nat.lt_of_lt_of_le hg hb.size, keepc c0 hb, keepc c1 hb, keepc c2 hb, keepc c3 hb, keepc c4 hb, keepc c5 hb, keepc c6 hb, HasK.below hb hr⟩
theorem HasK.nil (w : World) (n : Nat) (ao : Option Addr) : HasK w n ao [] := by
 cases n with
 | zero => rfl
 | succ n => intro k x h; simp at h
theorem HasK.more {w : World} : ∀ {n : Nat} {ao : Option Addr} {K : List Ex}, HasK w n ao K → HasK w (n + 1) ao K
 | 0, ao, K, h => by
  have h0 : K = [] := h
  subst h0
  exact HasK.nil w 1 ao
 | n + 1, ao, K, h => fun k x hk => by
  obtain ⟨g, off, ko, kc, e, hg, c0, c1, c2, c3, c4, c5, c6, hr⟩ := h k x hk
  exact ⟨g, off, ko, kc, e, hg, c0, c1, c2, c3, c4, c5, c6, hr.more⟩
/-- More than is looked at, n levels on. -/
def grt : Nat → Ex → Bool
 | 0, _ => true
 | n + 1, x => decide (8 < x.kids.length) || decide (60 < x.text.size) || x.kids.any (grt n)
theorem grt_kid {n : Nat} {x y : Ex} (h : grt (n + 1) x = false) {k : Nat} (hy : x.kids[k]? = some y) : grt n y = false := by
 unfold grt at h
 simp only [Bool.or_eq_false_iff] at h
 exact (List.any_eq_false.1 h.2 y (List.mem_of_getElem? hy) |> Bool.eq_false_iff.2)
theorem HasK.cut {w : World} : ∀ {n m : Nat} {x : Ex} {ao : Option Addr}, grt n x = false → HasK w m ao x.kids → HasK w n ao x.kids
 | 0, m, x, ao, h, _ => by cases h
 | n + 1, 0, x, ao, h, hk => by
  have h0 : x.kids = [] := hk
  rw [h0]; exact HasK.nil _ _ _
 | n + 1, m + 1, x, ao, h, hk => fun k y hy => by
  obtain ⟨g, off, ko, kc, e, hg, c0, c1, c2, c3, c4, c5, c6, hr⟩ := hk k y hy
  exact ⟨g, off, ko, kc, e, hg, c0, c1, c2, c3, c4, c5, c6, HasK.cut (grt_kid h hy) hr⟩
def deepX : Nat → Ex → Int
 | 0, _ => 0
 | n + 1, x => x.kids.foldl (fun m y => max m (deepX n y)) 0 + 1
theorem fold_snoc {α β : Type} (f : α → β → α) (a : α) (l : List β) {k : Nat} {y : β} (h : l[k]? = some y) : (l.take (k + 1)).foldl f a = f ((l.take k).foldl f a) y := by
 have hk := (List.getElem?_eq_some_iff.1 h).1
 rw [List.take_succ_eq_append_getElem hk, List.foldl_append]
 have : l[k] = y := (List.getElem?_eq_some_iff.1 h).2
 rw [this]; rfl
theorem fold_all {α β : Type} (f : α → β → α) (a : α) (l : List β) : (l.take l.length).foldl f a = l.foldl f a := by rw [List.take_length]
theorem fold_inv {α β : Type} {f : α → β → α} {P : α → Prop} (a : α) : ∀ (l : List β), P a → (∀ a y, y ∈ l → P a → P (f a y)) → P (l.foldl f a)
 | [], ha, _ => ha
 | y :: l, ha, h => by
  rw [List.foldl_cons]
  exact fold_inv (f a y) l (h a y (List.mem_cons_self ..) ha) (fun a z hz => h a z (List.mem_cons_of_mem _ hz))
theorem deepX_bd : ∀ (n : Nat) (x : Ex), 0 ≤ deepX n x ∧ deepX n x ≤ n
 | 0, _ => by unfold deepX; omega
 | n + 1, x => by
  unfold deepX
  have h := fold_inv (f := fun m y => max m (deepX n y)) (P := fun m : Int => 0 ≤ m ∧ m ≤ n) 0 x.kids (by omega) (fun a y _ h => by have := deepX_bd n y; omega)
  omega
theorem deepX_take (n : Nat) (x : Ex) (k : Nat) : 0 ≤ (x.kids.take k).foldl (fun m y => max m (deepX n y)) 0 ∧ (x.kids.take k).foldl (fun m y => max m (deepX n y)) 0 ≤ n :=
 fold_inv (f := fun m y => max m (deepX n y)) (P := fun m : Int => 0 ≤ m ∧ m ≤ n) 0 _ (by omega) (fun a y _ h => by have := deepX_bd n y; omega)
end Go.Proofs.Ytonknapfndaalaa

namespace Go.Proofs.Ytonknapfndaalaa
set_option linter.unusedVariables false
set_option maxRecDepth 1000000
open Go.RowKit Go.Sort
abbrev Rs := Except (Int × Int) (Ex × Nat)
def tk0 : Tok := ⟨0, ⟨#[]⟩, set0, 0⟩
/-- The token that comes. -/
def tkA (L : List Tok) (k : Nat) : Tok := L.getD k tk0
def isS (L : List Tok) (k : Nat) (s : List UInt8) : Bool := (tkA L k).kd == 4 && (tkA L k).tx.data.toList == s
def badF (L : List Tok) (c : Int) (k : Nat) : Rs := .error (c, ((tkA L k).pos : Int))
def leafX (op : Int) (t : ByteArray) : Ex := .mk op t 0 0 0 0 []
def kidX (op : Int) (x : Ex) : Ex := .mk op ⟨#[]⟩ 0 0 0 0 [x]
def refO (L : List Tok) (k : Nat) : Rs :=
 if wordB (tkA L k).tx = true then
  (if isS L (k + 1) [58, 58] = true then
   (if ((tkA L (k + 2)).kd == 1 && wordB (tkA L (k + 2)).tx) = true then .ok (leafX 11 ((tkA L k).tx ++ ⟨#[58, 58]⟩ ++ (tkA L (k + 2)).tx), k + 3) else badF L 2 (k + 2))
   else .ok (leafX 11 (tkA L k).tx, k + 1))
 else badF L 2 k
def primO (L : List Tok) (X : Nat → Rs) (big : Bool) (k : Nat) : Rs :=
 if (tkA L k).kd = 2 then .ok (leafX 1 (tkA L k).tx, k + 1)
 else if (tkA L k).kd = 3 then .ok (.mk 2 ⟨#[]⟩ ((tkA L k).st.1 : Int) ((tkA L k).st.2.1 : Int) ((tkA L k).st.2.2.1 : Int) ((tkA L k).st.2.2.2 : Int) [], k + 1)
 else if (tkA L k).kd = 1 then refO L k
 else if isS L k [46] = true then .ok (leafX 3 ⟨#[]⟩, k + 1)
 else if isS L k [40] = true then
  (if big = true then badF L 3 k
   else match X (k + 1) with
    | .ok (e, m) => if isS L m [41] = true then .ok (e, m + 1) else badF L 2 m
    | .error e => .error e)
 else badF L 2 k
def sufO (L : List Tok) (X : Nat → Rs) (big : Bool) (k : Nat) : Rs :=
 match primO L X big k with
 | .error e => .error e
 | .ok (e, m) =>
  if isS L m [42] = true then .ok (kidX 6 e, m + 1)
  else if isS L m [43] = true then .ok (kidX 7 e, m + 1)
  else if isS L m [63] = true then .ok (kidX 8 e, m + 1)
  else .ok (e, m)
def mapX (f : Ex → Ex) : Rs → Rs
 | .ok (e, m) => .ok (f e, m)
 | .error e => .error e
def preO (L : List Tok) (X : Nat → Rs) (big : Bool) (k : Nat) : Rs :=
 if isS L k [38] = true then mapX (kidX 9) (sufO L X big (k + 1))
 else if isS L k [33] = true then mapX (kidX 10) (sufO L X big (k + 1))
 else if isS L k [126] = true then
  (match sufO L X big (k + 1) with
   | .ok (e, m) => if isS L m [126] = true then .ok (kidX 13 e, m + 1) else badF L 2 m
   | .error e => .error e)
 else if ((tkA L k).kd == 1 && decide (k + 1 < L.length) && isS L (k + 1) [58]) = true then
  (if wordB (tkA L k).tx = true then mapX (fun e => .mk 12 (tkA L k).tx 0 0 0 0 [e]) (sufO L X big (k + 2)) else badF L 2 k)
 else sufO L X big k
def startsO (L : List Tok) (k : Nat) : Bool :=
 (tkA L k).kd == 1 || (tkA L k).kd == 2 || (tkA L k).kd == 3 || isS L k [38] || isS L k [33] || isS L k [126] || isS L k [46] || isS L k [40]
/-- Parts of a row, one behind the other. -/
def seqL (L : List Tok) (pre : Nat → Rs) : Nat → List Ex → Nat → Except (Int × Int) (List Ex × Nat)
 | 0, A, k => .ok (A, k)
 | f + 1, A, k => if startsO L k = true then (match pre k with | .ok (e, m) => seqL L pre f (A ++ [e]) m | .error e => .error e) else .ok (A, k)
def oneX (op : Int) : List Ex → Ex
 | [x] => x
 | K => .mk op ⟨#[]⟩ 0 0 0 0 K
def seqO (L : List Tok) (pre : Nat → Rs) (k : Nat) : Rs :=
 match pre k with
 | .error e => .error e
 | .ok (e, m) => match seqL L pre (L.length + 1) [e] m with
  | .error e => .error e
  | .ok (K, m') => .ok (oneX 4 K, m')
def chL (L : List Tok) (sq : Nat → Rs) : Nat → List Ex → Nat → Except (Int × Int) (List Ex × Nat)
 | 0, A, k => .ok (A, k)
 | f + 1, A, k => if isS L k [47] = true then (match sq (k + 1) with | .ok (e, m) => chL L sq f (A ++ [e]) m | .error e => .error e) else .ok (A, k)
def chO (L : List Tok) (sq : Nat → Rs) (k : Nat) : Rs :=
 match sq k with
 | .error e => .error e
 | .ok (e, m) => match chL L sq (L.length + 1) [e] m with
  | .error e => .error e
  | .ok (K, m') => .ok (oneX 5 K, m')
/-- An expression, with d parentheses more that may be opened within one another. -/
def exO (L : List Tok) : Nat → Nat → Rs
 | 0 => chO L (seqO L (preO L (fun _ => .error (0, 0)) true))
 | d + 1 => chO L (seqO L (preO L (exO L d) false))
/-- Expressions in memory, in blocks from D on. -/
def HasE (w : World) (D : Nat) : Nat → Option Addr → List Ex → Prop
 | 0, _, K => K = []
 | n + 1, ao, K => ∀ (k : Nat) (x : Ex), K[k]? = some x → ∃ b off ko kc, ao = some ⟨b, off, none⟩ ∧ b < w.heap.size ∧ D ≤ b ∧
   w.cell? ⟨b, off + k * 7, none⟩ = some (.int .i64 x.op) ∧ w.cell? ⟨b, off + k * 7 + 1, none⟩ = some (.string x.text) ∧
   w.cell? ⟨b, off + k * 7 + 2, none⟩ = some (.int .u64 x.s0) ∧ w.cell? ⟨b, off + k * 7 + 3, none⟩ = some (.int .u64 x.s1) ∧
   w.cell? ⟨b, off + k * 7 + 4, none⟩ = some (.int .u64 x.s2) ∧ w.cell? ⟨b, off + k * 7 + 5, none⟩ = some (.int .u64 x.s3) ∧
   w.cell? ⟨b, off + k * 7 + 6, none⟩ = some (.slice ko x.kids.length kc) ∧ HasE w D n ko x.kids
theorem HasE.but {S : Nat → Prop} {D : Nat} {w w' : World} (hb : But S w w') (hS : ∀ j, S j → j < D) : ∀ {n : Nat} {ao : Option Addr} {K : List Ex}, HasE w D n ao K → HasE w' D n ao K
 | 0, _, _, h => h
 | n + 1, ao, K, h => fun k x hx => by
  obtain ⟨b, off, ko, kc, e, hlt, hne, c0, c1, c2, c3, c4, c5, c6, hk⟩ := h k x hx
  have hn : ¬ S b := fun hs => by have := hS b hs; omega
  exact ⟨b, off, ko, kc, e, Nat.lt_of_lt_of_le hlt hb.size, hne, hb.cell hn c0, hb.cell hn c1, hb.cell hn c2, hb.cell hn c3, hb.cell hn c4, hb.cell hn c5, hb.cell hn c6, HasE.but hb hS hk⟩
theorem HasE.low {D D' : Nat} {w : World} (hD : D' ≤ D) : ∀ {n : Nat} {ao : Option Addr} {K : List Ex}, HasE w D n ao K → HasE w D' n ao K
 | 0, _, _, h => h
 | n + 1, ao, K, h => fun k x hx => by
  obtain ⟨b, off, ko, kc, e, hlt, hne, c0, c1, c2, c3, c4, c5, c6, hk⟩ := h k x hx
  exact ⟨b, off, ko, kc, e, hlt, Nat.le_trans hD hne, c0, c1, c2, c3, c4, c5, c6, HasE.low hD hk⟩
theorem HasE.more {D : Nat} {w : World} : ∀ {n : Nat} {ao : Option Addr} {K : List Ex}, HasE w D n ao K → HasE w D (n + 1) ao K
 | 0, ao, K, h => fun k x hx => by
  have h : K = [] := h
  subst h; simp at hx
 | n + 1, ao, K, h => fun k x hx => by
  obtain ⟨b, off, ko, kc, e, hlt, hne, c0, c1, c2, c3, c4, c5, c6, hk⟩ := h k x hx
  exact ⟨b, off, ko, kc, e, hlt, hne, c0, c1, c2, c3, c4, c5, c6, HasE.more hk⟩
theorem HasE.upto {D : Nat} {w : World} {n : Nat} {ao : Option Addr} {K : List Ex} (h : HasE w D n ao K) : ∀ m, n ≤ m → HasE w D m ao K
 | 0, hm => by
  obtain rfl : n = 0 := by omega
  exact h
 | m + 1, hm => by
  by_cases e : n = m + 1
  ·
   rw [← e]; exact h
  ·
   exact HasE.more (HasE.upto h m (by omega))
theorem HasE.hask {D : Nat} {w : World} : ∀ {n : Nat} {ao : Option Addr} {K : List Ex}, HasE w D n ao K → HasK w n ao K
 | 0, _, _, h => h
 | n + 1, ao, K, h => fun k x hx => by
  obtain ⟨b, off, ko, kc, e, hlt, hne, c0, c1, c2, c3, c4, c5, c6, hk⟩ := h k x hx
  exact ⟨b, off, ko, kc, e, hlt, c0, c1, c2, c3, c4, c5, c6, hk.hask⟩
theorem HasE.nil (w : World) (D : Nat) (ao : Option Addr) : HasE w D 0 ao [] := rfl
/-- The cursor: tokens, the place, the first fault. -/
def fE : Option (Int × Int) → Int | none => 0 | some f => f.1
def fA : Option (Int × Int) → Int | none => 0 | some f => f.2
def Rd (w : World) (g : Nat) (lo : Option Addr) (lc : Nat) (L : List Tok) (k : Nat) (F : Option (Int × Int)) : Prop :=
 Own w g 61 [.slice lo L.length lc, .int .i64 (k : Int), .int .i64 (fE F), .int .i64 (fA F), .int .i64 0, .int .i64 0] ∧ HasT w lo L ∧ ∀ a, lo = some a → a.block ≠ g
theorem HasT.but {w w' : World} {g : Nat} {ao : Option Addr} {L : List Tok} (h : HasT w ao L) (hg : ∀ a, ao = some a → a.block ≠ g) (hb : But (fun j => j = g) w w') : HasT w' ao L := fun k t hk => by
 obtain ⟨b, off, e, hlt, h0, h1, h2, h3, h4, h5, h6⟩ := h k t hk
 have hne : b ≠ g := hg _ e
 exact ⟨b, off, e, Nat.lt_of_lt_of_le hlt hb.size, hb.cell hne h0, hb.cell hne h1, hb.cell hne h2, hb.cell hne h3, hb.cell hne h4, hb.cell hne h5, hb.cell hne h6⟩
/-- What a call of the reader ends in. -/
def OutQ (w : World) (g : Nat) (lo : Option Addr) (lc : Nat) (L : List Tok) (r : Rs) (D : Nat) (X : Ex) (ko : Option Addr) (w' : World) : Prop :=
 match r with
 | .ok (x, m) => Rd w' g lo lc L m none ∧ x = X ∧ ∃ n, HasE w' D n ko X.kids
 | .error f => f.1 ≠ 0 ∧ ∃ k, Rd w' g lo lc L k (some f)
end Go.Proofs.Ytonknapfndaalaa

namespace Go.Proofs.Ytonknapfndaalaa
set_option linter.unusedVariables false
set_option maxRecDepth 1000000
open Go.RowKit Go.Sort
theorem But.set7 (w : World) (g : Nat) (u0 u1 u2 u3 u4 u5 u6 : Value) : But (fun j => j = g) w (set7t w g u0 u1 u2 u3 u4 u5 u6) :=
 (((((((But.refl (fun j => j = g) w).setCell (p := ⟨g, 0, none⟩) (fun _ => rfl) u0).setCell (p := ⟨g, 1, none⟩) (fun _ => rfl) u1).setCell (p := ⟨g, 2, none⟩) (fun _ => rfl) u2).setCell (p := ⟨g, 3, none⟩) (fun _ => rfl) u3).setCell (p := ⟨g, 4, none⟩) (fun _ => rfl) u4).setCell (p := ⟨g, 5, none⟩) (fun _ => rfl) u5).setCell (p := ⟨g, 6, none⟩) (fun _ => rfl) u6
theorem tkA_in {L : List Tok} {k : Nat} {t : Tok} (h : L[k]? = some t) : tkA L k = t := by unfold tkA; rw [List.getD_eq_getElem?_getD, h]; rfl
theorem tkA_out {L : List Tok} {k : Nat} (h : L.length ≤ k) : tkA L k = tk0 := by unfold tkA; rw [List.getD_eq_getElem?_getD, List.getElem?_eq_none h]; rfl
end Go.Proofs.Ytonknapfndaalaa

namespace Go.Proofs.Ytonknapfndaalaa
set_option linter.unusedVariables false
set_option maxRecDepth 1000000
open Go.RowKit Go.Sort
section
variable (a p : Int) (b : ByteArray) (c d e f : Int) (w : World)
@[go_sem 2000] theorem field_tok0 : (Instr.field 48 (.agg #[.int .i64 a, .string b, .int .u64 c, .int .u64 d, .int .u64 e, .int .u64 f, .int .i64 p]) 0).run Try.prog w = .ok (.int .i64 a) w := by kernel_rfl
@[go_sem 2000] theorem field_tok1 : (Instr.field 48 (.agg #[.int .i64 a, .string b, .int .u64 c, .int .u64 d, .int .u64 e, .int .u64 f, .int .i64 p]) 1).run Try.prog w = .ok (.string b) w := by kernel_rfl
@[go_sem 2000] theorem field_tok3 : (Instr.field 48 (.agg #[.int .i64 a, .string b, .int .u64 c, .int .u64 d, .int .u64 e, .int .u64 f, .int .i64 p]) 3).run Try.prog w = .ok (.int .i64 p) w := by kernel_rfl
end
theorem Rd.below {w w' : World} {g : Nat} {lo : Option Addr} {lc : Nat} {L : List Tok} {k : Nat} {F : Option (Int × Int)} (h : Rd w g lo lc L k F) (hb : Below w.heap.size w w') : Rd w' g lo lc L k F :=
 ⟨h.1.under hb h.1.lt, h.2.1.below hb, h.2.2⟩
theorem isS_eq (L : List Tok) (k : Nat) (s : ByteArray) : isS L k s.data.toList = ((tkA L k).kd == 4 && (tkA L k).tx.toList == s.toList) := by
 unfold isS; rw [ByteArray.toList_eq, ByteArray.toList_eq]
def ex0 : Ex := .mk 0 ⟨#[]⟩ 0 0 0 0 []
end Go.Proofs.Ytonknapfndaalaa

namespace Go.Proofs.Ytonknapfndaalaa
set_option linter.unusedVariables false
set_option maxRecDepth 1000000
open Go.RowKit Go.Sort
end Go.Proofs.Ytonknapfndaalaa

namespace Go.Proofs.Ytonknapfndaalaa
set_option linter.unusedVariables false
set_option maxRecDepth 1000000
open Go.RowKit Go.Sort
set_option maxHeartbeats 3200000 in
theorem rword_any (s : ByteArray) (hs : s.size ≤ maxLen) (w : World) : Calls Try.prog 51 #[.string s] w fun e w' => e = .returned (.bool (wordB s)) ∧ w = w' := by
 unfold maxLen at hs
 have HW := Lib.hid (show wordB s = (!(resB s) && allAt s s.size && decide ((s.size : Int) ≤ 12)) from rfl)
 have HR := Lib.hid (show resB s = (s.toList.isEmpty || s.toList == [109, 111, 100, 117, 108, 101] || s.toList == [105, 109, 112, 111, 114, 116] || s.toList == [119, 97, 116, 101, 114]) from rfl)
 obtain ⟨b0, h0⟩ : ∃ b0, s.toList.isEmpty = b0 := ⟨_, rfl⟩
 obtain ⟨b1, h1⟩ : ∃ b1, (s.toList == [109, 111, 100, 117, 108, 101]) = b1 := ⟨_, rfl⟩
 obtain ⟨b2, h2⟩ : ∃ b2, (s.toList == [105, 109, 112, 111, 114, 116]) = b2 := ⟨_, rfl⟩
 obtain ⟨b3, h3⟩ : ∃ b3, (s.toList == [119, 97, 116, 101, 114]) = b3 := ⟨_, rfl⟩
 have HB := Lib.hid (show resB s = (b0 || b1 || b2 || b3) by rw [HR.out, h0, h1, h2, h3])
 clear HR
 by_cases hz : (s.size : Int) ≤ 12
 ·
  by_cases hb : (b0 || b1 || b2 || b3) = true
  ·
   cases b0 <;> cases b1 <;> cases b2 <;> cases b3
   all_goals first
    | (exfalso; revert hb; decide)
    | (clear hb
       go_enter Try.func51, Try.ntmps51
       go_wp2
       go_ret
       exact ⟨ret_bool (by rw [HW.out, HB.out]; rfl), rfl⟩)
  ·
   obtain ⟨rfl, rfl, rfl, rfl⟩ : b0 = false ∧ b1 = false ∧ b2 = false ∧ b3 = false := by revert hb; cases b0 <;> cases b1 <;> cases b2 <;> cases b3 <;> decide
   clear hb
   have H0 := Lib.hid (show allAt s 0 = true from rfl)
   go_enter Try.func51, Try.ntmps51
   go_wp2
   go_loop [3] (fun i => ∃ k : Nat, k ≤ s.size ∧ i = .int .i64 k ∧ Hid (allAt s k = true)) (fun i => s.size - (intOf i).toNat)
   case atStart => exact ⟨0, Nat.zero_le _, rfl, H0⟩
   case round =>
    obtain ⟨k, hk, rfl, HA⟩ := hrel
    clear H0 h0 h1 h2 h3
    by_cases hlt : k < s.size
    ·
     obtain ⟨c, hc⟩ : ∃ c : Int, (s[k].toNat : Int) = c := ⟨_, rfl⟩
     have HC := Lib.hid (show byt s k = c by rw [byt_get hlt, hc])
     have hc0 : 0 ≤ c ∧ c ≤ 255 := by rw [← HC.out]; exact byt_lt s k
     have HN : okAt k c = false → Hid (wordB s = false) := fun h => Lib.hid (by rw [HW.out, allAt_no (k := k) (by rw [HC.out]; exact h) _ hlt]; simp)
     have HY : okAt k c = true → Hid (allAt s (k + 1) = true) := fun h => Lib.hid (by unfold allAt; rw [HA.out, HC.out, h]; rfl)
     by_cases g1 : 97 ≤ c <;> by_cases g2 : c ≤ 122 <;> by_cases g3 : 65 ≤ c <;> by_cases g4 : c ≤ 90
     all_goals try (exfalso; omega)
     all_goals
      have HL := Lib.hid (show isLet c = (decide (97 ≤ c) && decide (c ≤ 122) || decide (65 ≤ c) && decide (c ≤ 90)) from rfl)
      simp only [g1, g2, g3, g4, decide_true, decide_false, Bool.and_true, Bool.and_false, Bool.or_true, Bool.or_false] at HL
     all_goals try
      ( have H1 := HY (by unfold okAt; rw [HL.out]; rfl)
        clear HY HN
        go_wp2
        go_round
        case rel => exact ⟨k + 1, by omega, by go_num, H1⟩
        case measure => simp [intOf]; omega
        done)
     all_goals
      cases k with
      | zero =>
       have H1 := HN (by unfold okAt; rw [HL.out]; rfl)
       clear HY HN
       go_wp2
       go_ret
       exact ⟨ret_bool H1.out.symm, rfl⟩
      | succ k =>
       have hk0 : (((k + 1 : Nat) : Int) == 0) = false := by rw [beq_eq_false_iff_ne]; omega
       have hk1 : ((k : Int) + 1 == 0) = false := by rw [beq_eq_false_iff_ne]; omega
       obtain ⟨bu, hu⟩ : ∃ bu, (c != 95) = bu := ⟨_, rfl⟩
       cases bu with
       | false =>
        have hu' : (c == 95) = true := by rw [bne] at hu; revert hu; cases (c == 95) <;> simp
        have H1 := HY (by unfold okAt; rw [HL.out, hu']; simp)
        clear HY HN hu'
        go_wp2
        go_round
        case rel => exact ⟨k + 1 + 1, by omega, by go_num, H1⟩
        case measure => simp [intOf]; omega
       | true =>
        have hu' : (c == 95) = false := by rw [bne] at hu; revert hu; cases (c == 95) <;> simp
        by_cases g5 : c < 48
        ·
         first
          | (exfalso; omega)
          | (have H1 := HN (by unfold okAt isDig; rw [HL.out, hu']; simp; omega)
             clear HY HN hu'
             go_wp2
             go_ret
             exact ⟨ret_bool H1.out.symm, rfl⟩)
        ·
         by_cases g6 : 57 < c
         ·
          first
           | (exfalso; omega)
           | (have H1 := HN (by unfold okAt isDig; rw [HL.out, hu']; simp; omega)
              clear HY HN hu'
              go_wp2
              go_ret
              exact ⟨ret_bool H1.out.symm, rfl⟩)
         ·
          first
           | (exfalso; omega)
           | (have H1 := HY (by unfold okAt isDig; rw [HL.out, hu']; simp; omega)
              clear HY HN hu'
              go_wp2
              go_round
              case rel => exact ⟨k + 1 + 1, by omega, by go_num, H1⟩
              case measure => simp [intOf]; omega)
    ·
     obtain rfl : k = s.size := by omega
     go_wp2
     go_ret
     exact ⟨ret_bool (by rw [HW.out, HB.out, HA.out]; simp; omega), rfl⟩
 ·
  have HF := Lib.hid (show wordB s = false by rw [HW.out, decide_eq_false hz]; simp)
  clear HB
  cases b0
  all_goals
   go_enter Try.func51, Try.ntmps51
   go_wp2
   go_ret
   exact ⟨ret_bool HF.out.symm, rfl⟩
end Go.Proofs.Ytonknapfndaalaa
