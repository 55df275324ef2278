/- Counting nodes. No function in sight. -/
import Derived.Test.YtgpglmponbipbadAxisWin
namespace Go.Proofs.Ytgpglmponbipbad
set_option linter.unusedVariables false
open Go.RowKit

def tot (P : Nat → Bool) (f : Nat → Nat) : Nat → Nat
  | 0 => 0
  | k + 1 => tot P f k + if P k then f k else 0
theorem tot_succ (P : Nat → Bool) (f : Nat → Nat) (k : Nat) : tot P f (k + 1) = tot P f k + if P k then f k else 0 := rfl
theorem sel_succ (P : Nat → Bool) (k : Nat) : sel P (k + 1) = if P k then sel P k ++ [(k : Int)] else sel P k := rfl
theorem sel_count (P : Nat → Bool) (n : Nat) : (sel P n).length = tot P (fun _ => 1) n := by
  induction n with
  | zero => rfl
  | succ n ih => rw [sel_succ, tot_succ]; split <;> simp [ih]
theorem sel_sum (P : Nat → Bool) (f : Int → Nat) (n : Nat) : ((sel P n).map f).sum = tot P (fun k => f k) n := by
  induction n with
  | zero => rfl
  | succ n ih => rw [sel_succ, tot_succ]; split <;> simp [ih]
theorem tot_add (P : Nat → Bool) (f g : Nat → Nat) (n : Nat) : tot P (fun k => f k + g k) n = tot P f n + tot P g n := by
  induction n with
  | zero => rfl
  | succ n ih => rw [tot_succ, tot_succ, tot_succ, ih]; split <;> omega
theorem tot_congr {P : Nat → Bool} {f g : Nat → Nat} {n : Nat} (h : ∀ k, k < n → P k = true → f k = g k) : tot P f n = tot P g n := by
  induction n with
  | zero => rfl
  | succ n ih =>
    rw [tot_succ, tot_succ, ih fun k hk => h k (by omega)]
    split
    · rename_i e; rw [h n (by omega) e]
    · rfl
theorem tot_zero {P : Nat → Bool} {f : Nat → Nat} {n : Nat} (h : ∀ k, k < n → P k = true → f k = 0) : tot P f n = 0 := by
  induction n with
  | zero => rfl
  | succ n ih =>
    rw [tot_succ, ih fun k hk => h k (by omega)]
    split
    · rename_i e; rw [h n (by omega) e]
    · rfl
def one (b : Bool) : Nat := if b then 1 else 0
theorem tot_one (P : Nat → Bool) (u n : Nat) : tot P (fun k => one (decide (u = k))) n = if u < n ∧ P u = true then 1 else 0 := by
  induction n with
  | zero => simp [tot]
  | succ n ih =>
    rw [tot_succ, ih]
    by_cases e : u = n
    · subst e
      rw [if_neg (by omega)]
      by_cases h : P u = true
      · rw [if_pos h, if_pos ⟨by omega, h⟩]; simp [one]
      · rw [if_neg h, if_neg (fun h2 => h h2.2)]
    · rw [show one (decide (u = n)) = 0 by simp [one, e], show (if P n then 0 else 0) = 0 by split <;> rfl]
      by_cases h : u < n ∧ P u = true
      · rw [if_pos h, if_pos ⟨by omega, h.2⟩]
      · rw [if_neg h, if_neg (fun h2 => h ⟨by omega, h2.2⟩)]
theorem tot_swap (P : Nat → Bool) (Q : Nat → Nat → Bool) (n m : Nat) : tot P (fun x => tot (Q x) (fun _ => 1) m) n = tot (fun _ => true) (fun j => tot P (fun x => one (Q x j)) n) m := by
  induction m with
  | zero => exact tot_zero fun _ _ _ => rfl
  | succ m ih =>
    rw [tot_succ, ← ih, if_pos rfl, ← tot_add]
    rfl
theorem tot_all (P : Nat → Bool) (n : Nat) : tot P (fun _ => 1) n = tot (fun _ => true) (fun j => one (P j)) n := by
  induction n with
  | zero => rfl
  | succ n ih => rw [tot_succ, tot_succ, ih, if_pos rfl]; rfl

/-- A node is in i: it is a kid of i, or in just one of i's kids. -/
theorem in_split {l : Nodes} {i : Int} {n : Nat} (hr : rightB l n = true) (hi : -1 ≤ i) : ∀ (b j : Nat), j ≤ b → j < n →
    one (inB l i j) = one (decide (l.up j = i)) + tot (fun x => decide (l.up x = i)) (fun x => one (inB l (x : Int) j)) n := by
  intro b
  induction b with
  | zero =>
    intro j hb hj
    have h := right_ok hr j hj
    have hz : tot (fun x => decide (l.up x = i)) (fun x => one (inB l (x : Int) j)) n = 0 := tot_zero fun x hx _ => by
      rw [in_behind hr j j (Nat.le_refl _) hj (by omega)]; rfl
    rw [hz]
    by_cases e : l.up j = i
    · rw [in_yes hr hj e]; simp [e, one]
    · rw [in_top hr hj e (by omega)]; simp [e, one]
  | succ b ih =>
    intro j hb hj
    have h := right_ok hr j hj
    by_cases e : l.up j = i
    · rw [in_yes hr hj e]
      have hz : tot (fun x => decide (l.up x = i)) (fun x => one (inB l (x : Int) j)) n = 0 := tot_zero fun x hx hp => by
        have hx2 := right_ok hr x hx
        have hp' : l.up x = i := by simpa using hp
        have : inB l (x : Int) j = false := by
          by_cases h0 : 0 ≤ l.up j
          · rw [in_next hr hj (by omega) h0]
            exact in_behind hr _ _ (Nat.le_refl _) (by omega) (by omega)
          · exact in_top hr hj (by omega) h0
        rw [this]; rfl
      rw [hz]; simp [e, one]
    · by_cases h0 : 0 ≤ l.up j
      · have hu : (l.up j).toNat < n := by omega
        rw [in_next hr hj e h0, ih _ (by omega) hu]
        have hs : tot (fun x => decide (l.up x = i)) (fun x => one (inB l (x : Int) j)) n = tot (fun x => decide (l.up x = i)) (fun x => one (decide ((l.up j).toNat = x)) + one (inB l (x : Int) (l.up j).toNat)) n := tot_congr fun x hx hp => by
          by_cases ex : l.up j = (x : Int)
          · rw [in_yes hr hj ex, in_behind hr _ _ (Nat.le_refl _) hu (by omega), show decide ((l.up j).toNat = x) = true by simp; omega]; rfl
          · rw [in_next hr hj ex h0, show decide ((l.up j).toNat = x) = false by simp; omega]; simp [one]
        rw [hs, tot_add, tot_one]
        have e0 : one (decide (l.up j = i)) = 0 := by simp [one, e]
        rw [e0]
        by_cases e3 : l.up (l.up j).toNat = i
        · rw [if_pos ⟨hu, by simp [e3]⟩]; simp [one, e3]
        · rw [if_neg (fun h => e3 (by simpa using h.2))]; simp [one, e3]
      · rw [in_top hr hj e h0]
        have hz : tot (fun x => decide (l.up x = i)) (fun x => one (inB l (x : Int) j)) n = 0 := tot_zero fun x hx hp => by
          rw [in_top hr hj (by omega) h0]; rfl
        rw [hz]; simp [e, one]
theorem below_count {l : Nodes} {i : Int} (hr : rightB l l.n = true) (hi : -1 ≤ i) : (belowL l i).length = tot (inB l i) (fun _ => 1) l.n := by
  rw [below_yes hr (by omega), sel_count]
theorem kids_eq {l : Nodes} {i : Int} (hi : -1 ≤ i) : kidsL l i = sel (fun x => decide (l.up x = i)) l.n := by
  unfold kidsL; exact sel_congr fun k _ => by simp [hi]
/-- What is below a node: its kids, and what is below each. -/
theorem below_split {l : Nodes} {i : Int} (hr : rightB l l.n = true) (hi : -1 ≤ i) :
    (belowL l i).length = (kidsL l i).length + ((kidsL l i).map fun x => (belowL l x).length).sum := by
  rw [below_count hr hi, kids_eq hi, sel_count, sel_sum, tot_all (inB l i)]
  have e1 : tot (fun x => decide (l.up x = i)) (fun k => (belowL l (k : Int)).length) l.n = tot (fun x => decide (l.up x = i)) (fun x => tot (inB l (x : Int)) (fun _ => 1) l.n) l.n :=
    tot_congr fun k _ _ => below_count hr (by omega)
  rw [e1, tot_swap (fun x => decide (l.up x = i)) (fun x j => inB l (x : Int) j) l.n l.n, tot_all (fun x => decide (l.up x = i)), ← tot_add]
  exact tot_congr fun j hj _ => in_split hr hi j j (Nat.le_refl _) hj
theorem in_all {l : Nodes} {n : Nat} (hr : rightB l n = true) : ∀ (b j : Nat), j ≤ b → j < n → inB l (-1) j = true := by
  intro b
  induction b with
  | zero =>
    intro j hb hj
    have h := right_ok hr j hj
    exact in_yes hr hj (by omega)
  | succ b ih =>
    intro j hb hj
    have h := right_ok hr j hj
    by_cases e : l.up j = -1
    · exact in_yes hr hj e
    · rw [in_next hr hj e (by omega)]; exact ih _ (by omega) (by omega)
theorem below_all {l : Nodes} (hr : rightB l l.n = true) : (belowL l (-1)).length = l.n := by
  rw [below_count hr (by omega)]
  have : ∀ m, m ≤ l.n → tot (inB l (-1)) (fun _ => 1) m = m := by
    intro m
    induction m with
    | zero => intro _; rfl
    | succ m ih => intro hm; rw [tot_succ, ih (by omega), in_all hr m m (Nat.le_refl _) (by omega), if_pos rfl]
  exact this _ (Nat.le_refl _)
/-- The k-th of those that P takes. -/
theorem sel_at {P : Nat → Bool} : ∀ {n k : Nat}, k < (sel P n).length → ∃ x, x < n ∧ P x = true ∧ (sel P n).getD k 0 = (x : Int) ∧ (sel P x).length = k
  | 0, k, h => absurd h (Nat.not_lt_zero _)
  | n + 1, k, h => by
    rw [sel_succ] at h ⊢
    split at h
    · rename_i e
      rw [if_pos e]
      rw [List.length_append] at h
      have h' : k < (sel P n).length + 1 := h
      rcases Nat.lt_or_ge k (sel P n).length with hk | hk
      · obtain ⟨x, hx, hp, hg, hl⟩ := sel_at hk
        exact ⟨x, by omega, hp, by rw [← hg]; simp [List.getD, List.getElem?_append_left hk], hl⟩
      · have : k = (sel P n).length := by omega
        subst this
        exact ⟨n, by omega, e, by simp [List.getD], rfl⟩
    · rename_i e
      rw [if_neg e]
      obtain ⟨x, hx, hp, hg, hl⟩ := sel_at h
      exact ⟨x, by omega, hp, hg, hl⟩
theorem sel_mono (P : Nat → Bool) (a d : Nat) : (sel P a).length ≤ (sel P (a + d)).length := by
  induction d with
  | zero => exact Nat.le_refl _
  | succ d ih => rw [← Nat.add_assoc, sel_succ]; split <;> (try rw [List.length_append]) <;> omega
theorem sel_from {P : Nat → Bool} {lo : Nat} (d : Nat) : (sel (fun j => decide (lo ≤ j) && P j) (lo + d)).length + (sel P lo).length = (sel P (lo + d)).length := by
  induction d with
  | zero =>
    rw [Nat.add_zero, sel_none (P := fun j => decide (lo ≤ j) && P j) (k := lo) (fun j hj => by simp; omega)]
    simp
  | succ d ih =>
    rw [← Nat.add_assoc, sel_succ, sel_succ P, show (decide (lo ≤ lo + d) && P (lo + d)) = P (lo + d) by simp]
    split
    · rw [List.length_append, List.length_append, ← ih]; simp; omega
    · exact ih
end Go.Proofs.Ytgpglmponbipbad
