/- Expressions as trees, and how they lie in memory. No program in sight. -/
import Derived.Test.YtnopnjleibbakacOwn
namespace Go.Proofs.Ytnopnjleibbakac
set_option linter.unusedVariables false
open Go.RowKit

/-- An expression: its op, its text, its set's words, its kids. -/
inductive Ex where
  | mk (op : Int) (text : ByteArray) (s0 s1 s2 s3 : Int) (kids : List Ex)
namespace Ex
def op : Ex → Int | .mk o _ _ _ _ _ _ => o
def text : Ex → ByteArray | .mk _ t _ _ _ _ _ => t
def s0 : Ex → Int | .mk _ _ a _ _ _ _ => a
def s1 : Ex → Int | .mk _ _ _ a _ _ _ => a
def s2 : Ex → Int | .mk _ _ _ _ a _ _ => a
def s3 : Ex → Int | .mk _ _ _ _ _ a _ => a
def kids : Ex → List Ex | .mk _ _ _ _ _ _ k => k
end Ex
/-- As a value: its kids from ko on. -/
def exv (x : Ex) (ko : Option Addr) (kc : Nat) : Value := .agg #[.int .i64 x.op, .string x.text, .int .u64 x.s0, .int .u64 x.s1, .int .u64 x.s2, .int .u64 x.s3, .slice ko x.kids.length kc]
/-- The kids K lie from ao on, and theirs, n within one another at most. -/
def HasK (w : World) : Nat → Option Addr → List Ex → Prop
  | 0, _, K => K = []
  | n + 1, ao, K => ∀ (k : Nat) (x : Ex), K[k]? = some x → ∃ g off ko kc, ao = some ⟨g, off, none⟩ ∧ g < w.heap.size ∧
      w.cell? ⟨g, off + k * 7, none⟩ = some (.int .i64 x.op) ∧ w.cell? ⟨g, off + k * 7 + 1, none⟩ = some (.string x.text) ∧
      w.cell? ⟨g, off + k * 7 + 2, none⟩ = some (.int .u64 x.s0) ∧ w.cell? ⟨g, off + k * 7 + 3, none⟩ = some (.int .u64 x.s1) ∧
      w.cell? ⟨g, off + k * 7 + 4, none⟩ = some (.int .u64 x.s2) ∧ w.cell? ⟨g, off + k * 7 + 5, none⟩ = some (.int .u64 x.s3) ∧
      w.cell? ⟨g, off + k * 7 + 6, none⟩ = some (.slice ko x.kids.length kc) ∧ HasK w n ko x.kids
theorem HasK.below {w w' : World} (hb : Below w.heap.size w w') : ∀ {n : Nat} {ao : Option Addr} {K : List Ex}, HasK w n ao K → HasK w' n ao K
  | 0, _, _, h => h
  | n + 1, ao, K, h => fun k x hk => by
    obtain ⟨g, off, ko, kc, e, hg, c0, c1, c2, c3, c4, c5, c6, hr⟩ := h k x hk
    exact ⟨g, off, ko, kc, e, Nat.lt_of_lt_of_le hg hb.size, keepc c0 hb, keepc c1 hb, keepc c2 hb, keepc c3 hb, keepc c4 hb, keepc c5 hb, keepc c6 hb, HasK.below hb hr⟩
theorem HasK.nil (w : World) (n : Nat) (ao : Option Addr) : HasK w n ao [] := by
  cases n with
  | zero => rfl
  | succ n => intro k x h; simp at h
theorem HasK.more {w : World} : ∀ {n : Nat} {ao : Option Addr} {K : List Ex}, HasK w n ao K → HasK w (n + 1) ao K
  | 0, ao, K, h => by
    have h0 : K = [] := h
    subst h0
    exact HasK.nil w 1 ao
  | n + 1, ao, K, h => fun k x hk => by
    obtain ⟨g, off, ko, kc, e, hg, c0, c1, c2, c3, c4, c5, c6, hr⟩ := h k x hk
    exact ⟨g, off, ko, kc, e, hg, c0, c1, c2, c3, c4, c5, c6, hr.more⟩
/-- More than is looked at, n levels on. -/
def grt : Nat → Ex → Bool
  | 0, _ => true
  | n + 1, x => decide (8 < x.kids.length) || decide (60 < x.text.size) || x.kids.any (grt n)
theorem grt_kid {n : Nat} {x y : Ex} (h : grt (n + 1) x = false) {k : Nat} (hy : x.kids[k]? = some y) : grt n y = false := by
  unfold grt at h
  simp only [Bool.or_eq_false_iff] at h
  exact (List.any_eq_false.1 h.2 y (List.mem_of_getElem? hy) |> Bool.eq_false_iff.2)
theorem grt_len {n : Nat} {x : Ex} (h : grt n x = false) : x.kids.length ≤ 8 ∧ x.text.size ≤ 60 := by
  cases n with
  | zero => cases h
  | succ n =>
    unfold grt at h
    simp only [Bool.or_eq_false_iff, decide_eq_false_iff_not] at h
    omega
theorem HasK.cut {w : World} : ∀ {n m : Nat} {x : Ex} {ao : Option Addr}, grt n x = false → HasK w m ao x.kids → HasK w n ao x.kids
  | 0, m, x, ao, h, _ => by cases h
  | n + 1, 0, x, ao, h, hk => by
    have h0 : x.kids = [] := hk
    rw [h0]; exact HasK.nil _ _ _
  | n + 1, m + 1, x, ao, h, hk => fun k y hy => by
    obtain ⟨g, off, ko, kc, e, hg, c0, c1, c2, c3, c4, c5, c6, hr⟩ := hk k y hy
    exact ⟨g, off, ko, kc, e, hg, c0, c1, c2, c3, c4, c5, c6, HasK.cut (grt_kid h hy) hr⟩
def deepX : Nat → Ex → Int
  | 0, _ => 0
  | n + 1, x => x.kids.foldl (fun m y => max m (deepX n y)) 0 + 1
def sizeX : Nat → Ex → Int
  | 0, _ => 0
  | n + 1, x => x.kids.foldl (fun m y => m + sizeX n y) 1
theorem fold_snoc {α β : Type} (f : α → β → α) (a : α) (l : List β) {k : Nat} {y : β} (h : l[k]? = some y) : (l.take (k + 1)).foldl f a = f ((l.take k).foldl f a) y := by
  have hk := (List.getElem?_eq_some_iff.1 h).1
  rw [List.take_succ_eq_append_getElem hk, List.foldl_append]
  have : l[k] = y := (List.getElem?_eq_some_iff.1 h).2
  rw [this]; rfl
theorem fold_all {α β : Type} (f : α → β → α) (a : α) (l : List β) : (l.take l.length).foldl f a = l.foldl f a := by rw [List.take_length]
theorem fold_inv {α β : Type} {f : α → β → α} {P : α → Prop} (a : α) : ∀ (l : List β), P a → (∀ a y, y ∈ l → P a → P (f a y)) → P (l.foldl f a)
  | [], ha, _ => ha
  | y :: l, ha, h => by
    rw [List.foldl_cons]
    exact fold_inv (f a y) l (h a y (List.mem_cons_self ..) ha) (fun a z hz => h a z (List.mem_cons_of_mem _ hz))
theorem deepX_bd : ∀ (n : Nat) (x : Ex), 0 ≤ deepX n x ∧ deepX n x ≤ n
  | 0, _ => by unfold deepX; omega
  | n + 1, x => by
    unfold deepX
    have h := fold_inv (f := fun m y => max m (deepX n y)) (P := fun m : Int => 0 ≤ m ∧ m ≤ n) 0 x.kids (by omega) (fun a y _ h => by have := deepX_bd n y; omega)
    omega
theorem deepX_take (n : Nat) (x : Ex) (k : Nat) : 0 ≤ (x.kids.take k).foldl (fun m y => max m (deepX n y)) 0 ∧ (x.kids.take k).foldl (fun m y => max m (deepX n y)) 0 ≤ n :=
  fold_inv (f := fun m y => max m (deepX n y)) (P := fun m : Int => 0 ≤ m ∧ m ≤ n) 0 _ (by omega) (fun a y _ h => by have := deepX_bd n y; omega)
theorem sum_take (n : Nat) (B : Int) : ∀ (l : List Ex) (a : Int), (∀ y ∈ l, 0 ≤ sizeX n y ∧ sizeX n y ≤ B) → a ≤ l.foldl (fun m y => m + sizeX n y) a ∧ l.foldl (fun m y => m + sizeX n y) a ≤ a + l.length * B
  | [], a, _ => by simp
  | y :: l, a, h => by
    rw [List.foldl_cons]
    have h1 := sum_take n B l (a + sizeX n y) (fun z hz => h z (List.mem_cons_of_mem _ hz))
    have h2 := h y (List.mem_cons_self ..)
    have e : ((y :: l).length : Int) * B = l.length * B + B := by rw [List.length_cons, Int.natCast_add, Int.add_mul]; simp
    rw [e]; omega
def cap9 : Nat → Int
  | 0 => 1
  | n + 1 => 9 * cap9 n
theorem cap9_pos : ∀ n, 1 ≤ cap9 n
  | 0 => by unfold cap9; omega
  | n + 1 => by unfold cap9; have := cap9_pos n; omega
theorem cap9_add (n : Nat) : ∀ m, cap9 n ≤ cap9 (n + m)
  | 0 => Int.le_refl _
  | m + 1 => by
    have h1 := cap9_add n m
    have h2 := cap9_pos (n + m)
    show _ ≤ 9 * cap9 (n + m)
    omega
theorem cap9_18 : cap9 18 = 150094635296999121 := by decide +kernel
theorem cap9_le {n : Nat} (h : n ≤ 18) : cap9 n ≤ 150094635296999121 := by
  have h1 := cap9_add n (18 - n)
  rw [show n + (18 - n) = 18 by omega, cap9_18] at h1
  exact h1
theorem sizeX_bd : ∀ (n : Nat) (x : Ex), grt n x = false → 0 ≤ sizeX n x ∧ sizeX n x ≤ cap9 n
  | 0, _, h => by cases h
  | n + 1, x, h => by
    unfold sizeX
    have h1 := sum_take n (cap9 n) x.kids 1 (fun y hy => by
      obtain ⟨k, hk, e⟩ := List.getElem_of_mem hy
      exact sizeX_bd n y (grt_kid h (k := k) (by rw [List.getElem?_eq_getElem hk, e])))
    have h2 := (grt_len h).1
    have hp := cap9_pos n
    have h3 : (x.kids.length : Int) * cap9 n ≤ 8 * cap9 n := Int.mul_le_mul_of_nonneg_right (by omega) (by omega)
    have e : cap9 (n + 1) = 9 * cap9 n := rfl
    rw [e]
    omega
theorem sizeX_take {n : Nat} {x : Ex} (h : grt (n + 1) x = false) (k : Nat) : 0 ≤ (x.kids.take k).foldl (fun m y => m + sizeX n y) 1 ∧ (x.kids.take k).foldl (fun m y => m + sizeX n y) 1 ≤ cap9 (n + 1) := by
  have h1 := sum_take n (cap9 n) (x.kids.take k) 1 (fun y hy => by
    obtain ⟨j, hj, e⟩ := List.getElem_of_mem (List.mem_of_mem_take hy)
    exact sizeX_bd n y (grt_kid h (k := j) (by rw [List.getElem?_eq_getElem hj, e])))
  have h2 := (grt_len h).1
  have hp := cap9_pos n
  have h4 : (x.kids.take k).length ≤ x.kids.length := List.length_take_le' _ _
  have h3 : ((x.kids.take k).length : Int) * cap9 n ≤ 8 * cap9 n := Int.mul_le_mul_of_nonneg_right (by omega) (by omega)
  have e : cap9 (n + 1) = 9 * cap9 n := rfl
  rw [e]
  omega
end Go.Proofs.Ytnopnjleibbakac
