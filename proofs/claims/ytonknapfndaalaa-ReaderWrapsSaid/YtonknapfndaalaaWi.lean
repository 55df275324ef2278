/- What is read of a text: what the walks of writing, of what may be, and of the same ask of it. Math alone. -/
import Derived.Test.YtonknapfndaalaaGw
import Derived.Test.YtonknapfndaalaaApM
import Derived.Test.YtonknapfndaalaaPs7
namespace Go.Proofs.Ytonknapfndaalaa
set_option linter.unusedVariables false
set_option maxRecDepth 1000000
open Go.RowKit Ex
theorem OkX.own {x : Ex} (h : OkX x) : ownX x = true := by
 have h1 := h 1
 unfold wfs at h1
 rw [Bool.and_eq_true] at h1
 exact h1.1
theorem OkX.kid {x y : Ex} (h : OkX x) (hy : y ∈ x.kids) : OkX y := fun m => by
 have h2 := h (m + 1)
 unfold wfs at h2
 rw [Bool.and_eq_true] at h2
 exact List.all_eq_true.1 h2.2 y hy
theorem fit9_fit {M : Nat} : ∀ (n : Nat) (x : Ex), fit M n x = true → fit9 n x
 | 0, x, h => by cases h
 | n + 1, x, h => fun y hy => by
  obtain ⟨k, hk, e⟩ := List.getElem_of_mem hy
  exact fit9_fit n y (fit_kid h (k := k) (by rw [List.getElem?_eq_getElem hk, e]))
/-- How deep it is doesn't hang on the levels that are looked at, if these are enough. -/
theorem deep_fit {M : Nat} : ∀ (n m : Nat) (x : Ex), fit M n x = true → n ≤ m → deepX m x = deepX n x
 | 0, m, x, h, _ => by cases h
 | n + 1, 0, x, h, hm => by omega
 | n + 1, m + 1, x, h, hm => by
  have key : ∀ (K : List Ex) (a : Int), (∀ y ∈ K, deepX m y = deepX n y) → K.foldl (fun q y => max q (deepX m y)) a = K.foldl (fun q y => max q (deepX n y)) a := fun K => by
   induction K with
   | nil => intro a _; rfl
   | cons z K ih =>
    intro a g
    rw [List.foldl_cons, List.foldl_cons, g z (List.mem_cons_self ..)]
    exact ih _ fun y hy => g y (List.mem_cons_of_mem _ hy)
  show x.kids.foldl (fun q y => max q (deepX m y)) 0 + 1 = x.kids.foldl (fun q y => max q (deepX n y)) 0 + 1
  rw [key x.kids 0 fun y hy => by
   obtain ⟨k, hk, e⟩ := List.getElem_of_mem hy
   exact deep_fit n m y (fit_kid h (k := k) (by rw [List.getElem?_eq_getElem hk, e])) (by omega)]
/-- What is read of a text that isn't long. -/
structure Rdk (x : Ex) : Prop where
 okx : OkX x
 fitw : fit 1000 53 x = true
 tx : TxA 100000 x
 deep : deepX 53 x ≤ 12
 len : ∀ n, (prX n x).length ≤ 2701
theorem psO_ok {s : ByteArray} {x : Ex} (hs : s.size ≤ 300) (h : psO s = .ok x) : Rdk x := by
 unfold psO at h
 cases hL : allO s with
 | error k => rw [hL] at h; cases h
 | ok L =>
  rw [hL] at h
  simp only at h
  cases hr : rdO L 0 with
  | error f => rw [hr] at h; cases h
  | ok p =>
   obtain ⟨y, m⟩ := p
   rw [hr] at h
   unfold psL at h
   simp only at h
   split at h
   ·
    obtain rfl : y = x := by simpa using h
    have hq0 := hr
    unfold rdO at hq0
    cases hq : exO L 12 0 with
    | error e => simp [hq] at hq0
    | ok p =>
     obtain ⟨y', m'⟩ := p
     simp only [hq] at hq0
     split at hq0
     ·
      cases hq0
     ·
      rename_i hd
      obtain ⟨rfl, rfl⟩ : y' = y ∧ m' = m := by simpa using hq0
      have hlen : L.length ≤ 302 := by have := allF_len _ _ _ hL; omega
      have h1 := rd_cost hL hq (exO_bd 12 0 _ _ hq).2
      have h2 : fit 1000 53 y' = true := exO_ft (M := 1000) (by omega) (by omega) 12 0 _ _ hq
      have hTk : ∀ t ∈ L, Tk 100000 t := fun t ht => ⟨by have := allF_text _ _ _ (Nat.zero_le _) hL t ht; omega, by
       have h3 := (all_cost _ _ _ (Nat.zero_le _) hL).1 t ht
       exact allF_fits _ _ _ hL t ht⟩
      refine ⟨h1.1, h2, exO_tx (by omega) hTk 12 0 _ _ hq, ?_, fun n => by have := h1.2 n; omega⟩
      have := deep_fit 53 60 y' h2 (by omega)
      omega
   ·
    cases h
theorem fit_wide {M N : Nat} (hM : M ≤ N) : ∀ (n : Nat) (x : Ex), fit M n x = true → fit N n x = true
 | 0, x, h => by cases h
 | n + 1, x, h => by
  have h1 := fit_len h
  unfold fit at h ⊢
  rw [Bool.and_eq_true] at h ⊢
  exact ⟨decide_eq_true (by omega), List.all_eq_true.2 fun y hy => fit_wide hM n y (List.all_eq_true.1 h.2 y hy)⟩
theorem Rdk.wide {x : Ex} (h : Rdk x) : fit 90001 53 x = true := fit_wide (by omega) 53 x h.fitw
end Go.Proofs.Ytonknapfndaalaa
