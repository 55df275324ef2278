/- What is read of a text: what the walks of writing, of what may be, and of the same ask of it. Math alone. -/
import Derived.Test.YtonknapfndaalaaGw
import Derived.Test.YtonknapfndaalaaApM
import Derived.Test.YtonknapfndaalaaPs7
namespace Go.Proofs.Ytonknapfndaalaa
set_option linter.unusedVariables false
set_option maxRecDepth 1000000
open Go.RowKit Ex
theorem OkX.own {x : Ex} (h : OkX x) : ownX x = true := by
 have h1 := h 1
 unfold wfs at h1
 rw [Bool.and_eq_true] at h1
 exact h1.1
theorem OkX.kid {x y : Ex} (h : OkX x) (hy : y ∈ x.kids) : OkX y := fun m => by
 have h2 := h (m + 1)
 unfold wfs at h2
 rw [Bool.and_eq_true] at h2
 exact List.all_eq_true.1 h2.2 y hy
theorem ownX_text {x : Ex} (h : ownX x = true) : x.text.size ≤ 60 := by
 rcases own_cases h with ⟨t, rfl, -, t2⟩ | ⟨a, b, c, d, rfl, -⟩ | rfl | ⟨t, rfl, ht⟩ | ⟨o, y, z, K, ho, rfl⟩ | ⟨o, y, ho, rfl⟩ | ⟨t, y, rfl, ht⟩
 ·
  show t.size ≤ 60; omega
 ·
  exact Nat.zero_le _
 ·
  exact Nat.zero_le _
 ·
  show t.size ≤ 60
  unfold splitB at ht
  split at ht
  ·
   rename_i g
   rw [Bool.and_eq_true] at ht
   have h1 := (word_bytes ht.1).1
   have h2 := (word_bytes ht.2).1
   have h3 := cut_is g
   have h4 := congrArg List.length h3
   rw [size_list, List.length_append, List.length_cons, List.length_cons] at h4
   have e1 : (ofL (cutS t).1).size = (cutS t).1.length := by rw [← size_list, ofL_list]
   have e2 : (ofL (cutS t).2.1).size = (cutS t).2.1.length := by rw [← size_list, ofL_list]
   omega
  ·
   have := (word_bytes ht).1; omega
 ·
  exact Nat.zero_le _
 ·
  exact Nat.zero_le _
 ·
  have := (word_bytes ht).1
  show t.size ≤ 60; omega
/-- How deep it is doesn't hang on the levels that are looked at, if these are enough. -/
theorem deep_fit {M : Nat} : ∀ (n m : Nat) (x : Ex), fit M n x = true → n ≤ m → deepX m x = deepX n x
 | 0, m, x, h, _ => by cases h
 | n + 1, 0, x, h, hm => by omega
 | n + 1, m + 1, x, h, hm => by
  have key : ∀ (K : List Ex) (a : Int), (∀ y ∈ K, deepX m y = deepX n y) → K.foldl (fun q y => max q (deepX m y)) a = K.foldl (fun q y => max q (deepX n y)) a := fun K => by
   induction K with
   | nil => intro a _; rfl
   | cons z K ih =>
    intro a g
    rw [List.foldl_cons, List.foldl_cons, g z (List.mem_cons_self ..)]
    exact ih _ fun y hy => g y (List.mem_cons_of_mem _ hy)
  show x.kids.foldl (fun q y => max q (deepX m y)) 0 + 1 = x.kids.foldl (fun q y => max q (deepX n y)) 0 + 1
  rw [key x.kids 0 fun y hy => by
   obtain ⟨k, hk, e⟩ := List.getElem_of_mem hy
   exact deep_fit n m y (fit_kid h (k := k) (by rw [List.getElem?_eq_getElem hk, e])) (by omega)]
/-- What is written is parsed as it was. -/
theorem psO_back {n : Nat} {x : Ex} {M : Nat} (h : allX n x = true) (hS : SetsOk n x) (hd : deepX n x ≤ 12) (hf : fit M n x = true) (hn : n ≤ 60) : psO (ofL (prX n x)) = .ok x := by
 obtain ⟨L, h1, h2, h3⟩ := wr_back h hS hd
 unfold psO rdO
 rw [h1]
 simp only
 rw [h2]
 simp only
 rw [if_neg (by have := deep_fit n 60 x hf hn; omega)]
 unfold psL
 simp only
 rw [if_pos h3]
end Go.Proofs.Ytonknapfndaalaa
