/- What is read of a text: what the walks of writing, of what may be, and of the same ask of it. Math alone. -/
import Derived.Test.YtonknapfndaalaaGw
import Derived.Test.YtonknapfndaalaaApM
import Derived.Test.YtonknapfndaalaaPs7
namespace Go.Proofs.Ytonknapfndaalaa
set_option linter.unusedVariables false
set_option maxRecDepth 1000000
open Go.RowKit Ex
theorem OkX.own {x : Ex} (h : OkX x) : ownX x = true := by
 have h1 := h 1
 unfold wfs at h1
 rw [Bool.and_eq_true] at h1
 exact h1.1
theorem OkX.kid {x y : Ex} (h : OkX x) (hy : y ∈ x.kids) : OkX y := fun m => by
 have h2 := h (m + 1)
 unfold wfs at h2
 rw [Bool.and_eq_true] at h2
 exact List.all_eq_true.1 h2.2 y hy
theorem own_text {x : Ex} (h : ownX x = true) : x.text.size ≤ 60 := by
 rcases own_cases h with ⟨t, rfl, -, t2⟩ | ⟨a, b, c, d, rfl, -⟩ | rfl | ⟨t, rfl, ht⟩ | ⟨o, y, z, K, ho, rfl⟩ | ⟨o, y, ho, rfl⟩ | ⟨t, y, rfl, ht⟩
 ·
  show t.size ≤ 60; omega
 ·
  exact Nat.zero_le _
 ·
  exact Nat.zero_le _
 ·
  show t.size ≤ 60
  unfold splitB at ht
  split at ht
  ·
   rename_i g
   rw [Bool.and_eq_true] at ht
   have h1 := (word_bytes ht.1).1
   have h2 := (word_bytes ht.2).1
   have h3 := cut_is g
   have h4 := congrArg List.length h3
   rw [size_list, List.length_append, List.length_cons, List.length_cons] at h4
   have e1 : (ofL (cutS t).1).size = (cutS t).1.length := by rw [← size_list, ofL_list]
   have e2 : (ofL (cutS t).2.1).size = (cutS t).2.1.length := by rw [← size_list, ofL_list]
   omega
  ·
   have := (word_bytes ht).1; omega
 ·
  exact Nat.zero_le _
 ·
  exact Nat.zero_le _
 ·
  have := (word_bytes ht).1
  show t.size ≤ 60; omega
theorem tame_ok : ∀ (n : Nat) (x : Ex), OkX x → fit 1000 n x = true → tame n x
 | 0, x, _, h => by cases h
 | n + 1, x, hx, h => ⟨fit_len h, own_text hx.own, fun k y hy => tame_ok n y (hx.kid (List.mem_of_getElem? hy)) (fit_kid h hy)⟩
theorem setsOk_tx {T : Nat} : ∀ (n : Nat) (x : Ex), TxA T x → SetsOk n x
 | 0, x, _ => trivial
 | n + 1, x, h => by
  have hs := h.sets
  unfold fitI at hs
  simp only [Bool.and_eq_true, decide_eq_true_eq] at hs
  obtain ⟨⟨⟨a, b⟩, c⟩, d⟩ := hs
  refine ⟨?_, fun k y hy => setsOk_tx n y (h.kid (List.mem_of_getElem? hy))⟩
  unfold P64
  exact ⟨by omega, by omega, by omega, by omega⟩
theorem sum_mem {o : Int} {n : Nat} {y : Ex} : ∀ (K : List Ex), y ∈ K → (kdX (prX n) o y).length + 1 ≤ sumK o n K
 | z :: K, h => by
  unfold sumK
  rw [List.map_cons, List.sum_cons]
  rcases List.mem_cons.1 h with rfl | h
  ·
   omega
  ·
   have := sum_mem (o := o) (n := n) K h
   unfold sumK at this
   omega
theorem rm_len {C : Nat} (hC : C ≤ 70368744177664) : ∀ (n : Nat) (x : Ex), OkX x → (∀ m, (prX m x).length ≤ C) → Rmx n x
 | 0, x, _, _ => trivial
 | n + 1, x, hx, hp => by
  have hkd : ∀ (o : Int) (y : Ex) (m : Nat), (kdX (prX m) o y).length ≤ C → (prX m y).length ≤ C := fun o y m h => Nat.le_trans (Nat.le_trans (Nat.le_add_right _ _) (kd_ge (n := m) (o := o) (y := y))) h
  have key : (rowX (prX n) x).length ≤ C ∧ ∀ y ∈ x.kids, ∀ m, (prX m y).length ≤ C := by
   rcases own_cases hx.own with ⟨t, rfl, -, t2⟩ | ⟨a, b, c, d, rfl, -⟩ | rfl | ⟨t, rfl, ht⟩ | ⟨o, y, z, K, ho, rfl⟩ | ⟨o, y, ho, rfl⟩ | ⟨t, y, rfl, ht⟩
   ·
    exact ⟨Nat.zero_le _, fun y hy => absurd hy List.not_mem_nil⟩
   ·
    exact ⟨Nat.zero_le _, fun y hy => absurd hy List.not_mem_nil⟩
   ·
    exact ⟨Nat.zero_le _, fun y hy => absurd hy List.not_mem_nil⟩
   ·
    exact ⟨Nat.zero_le _, fun y hy => absurd hy List.not_mem_nil⟩
   ·
    refine ⟨?_, fun u hu m => hkd o u m ?_⟩
    ·
     have e : prX (n + 1) (.mk o ⟨#[]⟩ 0 0 0 0 (y :: z :: K)) = rowX (prX n) (.mk o ⟨#[]⟩ 0 0 0 0 (y :: z :: K)) := by rcases ho with rfl | rfl <;> simp [prX, Ex.op]
     have := hp (n + 1)
     rw [e] at this; exact this
    ·
     have h1 := row_len ho m y (z :: K)
     have h2 := sum_mem (o := o) (n := m) _ (show u ∈ y :: z :: K from hu)
     have h3 := hp (m + 1)
     omega
   ·
    have h1 : ∀ m, (kdX (prX m) o y).length ≤ C := fun m => by
     have := hp (m + 1)
     rw [prX_one m o _ y (by omega), List.length_append, List.length_append] at this
     omega
    refine ⟨?_, fun u hu m => ?_⟩
    ·
     show (Lib.join [kdX (prX n) o y] _).length ≤ C
     rw [Lib.join_one]; exact h1 n
    ·
     rw [List.mem_singleton.1 hu]; exact hkd o y m (h1 m)
   ·
    have h1 : ∀ m, (kdX (prX m) 12 y).length ≤ C := fun m => by
     have := hp (m + 1)
     rw [prX_one m 12 t y (by omega), List.length_append, List.length_append] at this
     omega
    refine ⟨?_, fun u hu m => ?_⟩
    ·
     show (Lib.join [kdX (prX n) 12 y] _).length ≤ C
     rw [Lib.join_one]; exact h1 n
    ·
     rw [List.mem_singleton.1 hu]; exact hkd 12 y m (h1 m)
  exact ⟨Nat.le_trans key.1 hC, fun k y hy => ⟨Nat.le_trans (key.2 y (List.mem_of_getElem? hy) n) hC, rm_len hC n y (hx.kid (List.mem_of_getElem? hy)) (key.2 y (List.mem_of_getElem? hy))⟩⟩
theorem fit9_fit {M : Nat} : ∀ (n : Nat) (x : Ex), fit M n x = true → fit9 n x
 | 0, x, h => by cases h
 | n + 1, x, h => fun y hy => by
  obtain ⟨k, hk, e⟩ := List.getElem_of_mem hy
  exact fit9_fit n y (fit_kid h (k := k) (by rw [List.getElem?_eq_getElem hk, e]))
/-- How deep it is doesn't hang on the levels that are looked at, if these are enough. -/
theorem deep_fit {M : Nat} : ∀ (n m : Nat) (x : Ex), fit M n x = true → n ≤ m → deepX m x = deepX n x
 | 0, m, x, h, _ => by cases h
 | n + 1, 0, x, h, hm => by omega
 | n + 1, m + 1, x, h, hm => by
  have key : ∀ (K : List Ex) (a : Int), (∀ y ∈ K, deepX m y = deepX n y) → K.foldl (fun q y => max q (deepX m y)) a = K.foldl (fun q y => max q (deepX n y)) a := fun K => by
   induction K with
   | nil => intro a _; rfl
   | cons z K ih =>
    intro a g
    rw [List.foldl_cons, List.foldl_cons, g z (List.mem_cons_self ..)]
    exact ih _ fun y hy => g y (List.mem_cons_of_mem _ hy)
  show x.kids.foldl (fun q y => max q (deepX m y)) 0 + 1 = x.kids.foldl (fun q y => max q (deepX n y)) 0 + 1
  rw [key x.kids 0 fun y hy => by
   obtain ⟨k, hk, e⟩ := List.getElem_of_mem hy
   exact deep_fit n m y (fit_kid h (k := k) (by rw [List.getElem?_eq_getElem hk, e])) (by omega)]
/-- What is read of a text that isn't long. -/
structure Rdk (x : Ex) : Prop where
 okx : OkX x
 fitw : fit 1000 53 x = true
 tx : TxA 100000 x
 deep : deepX 53 x ≤ 12
 len : ∀ n, (prX n x).length ≤ 2701
theorem psO_ok {s : ByteArray} {x : Ex} (hs : s.size ≤ 300) (h : psO s = .ok x) : Rdk x := by
 unfold psO at h
 cases hL : allO s with
 | error k => rw [hL] at h; cases h
 | ok L =>
  rw [hL] at h
  simp only at h
  cases hr : rdO L 0 with
  | error f => rw [hr] at h; cases h
  | ok p =>
   obtain ⟨y, m⟩ := p
   rw [hr] at h
   unfold psL at h
   simp only at h
   split at h
   ·
    obtain rfl : y = x := by simpa using h
    have hq0 := hr
    unfold rdO at hq0
    cases hq : exO L 12 0 with
    | error e => simp [hq] at hq0
    | ok p =>
     obtain ⟨y', m'⟩ := p
     simp only [hq] at hq0
     split at hq0
     ·
      cases hq0
     ·
      rename_i hd
      obtain ⟨rfl, rfl⟩ : y' = y ∧ m' = m := by simpa using hq0
      have hlen : L.length ≤ 302 := by have := allF_len _ _ _ hL; omega
      have h1 := rd_cost hL hq (exO_bd 12 0 _ _ hq).2
      have h2 : fit 1000 53 y' = true := exO_ft (M := 1000) (by omega) (by omega) 12 0 _ _ hq
      have hTk : ∀ t ∈ L, Tk 100000 t := fun t ht => ⟨by have := allF_text _ _ _ (Nat.zero_le _) hL t ht; omega, by
       have h3 := (all_cost _ _ _ (Nat.zero_le _) hL).1 t ht
       exact allF_fits _ _ _ hL t ht⟩
      refine ⟨h1.1, h2, exO_tx (by omega) hTk 12 0 _ _ hq, ?_, fun n => by have := h1.2 n; omega⟩
      have := deep_fit 53 60 y' h2 (by omega)
      omega
   ·
    cases h
theorem Rdk.pr {x : Ex} (h : Rdk x) : PrOk 53 x := ⟨tame_ok 53 x h.okx h.fitw, setsOk_tx 53 x h.tx, rm_len (C := 2701) (by omega) 53 x h.okx h.len⟩
theorem fit_wide {M N : Nat} (hM : M ≤ N) : ∀ (n : Nat) (x : Ex), fit M n x = true → fit N n x = true
 | 0, x, h => by cases h
 | n + 1, x, h => by
  have h1 := fit_len h
  unfold fit at h ⊢
  rw [Bool.and_eq_true] at h ⊢
  exact ⟨decide_eq_true (by omega), List.all_eq_true.2 fun y hy => fit_wide hM n y (List.all_eq_true.1 h.2 y hy)⟩
/-- What is written is parsed as it was. -/
theorem psO_back {n : Nat} {x : Ex} {M : Nat} (h : allX n x = true) (hS : SetsOk n x) (hd : deepX n x ≤ 12) (hf : fit M n x = true) (hn : n ≤ 60) : psO (ofL (prX n x)) = .ok x := by
 obtain ⟨L, h1, h2, h3⟩ := wr_back h hS hd
 unfold psO rdO
 rw [h1]
 simp only
 rw [h2]
 simp only
 rw [if_neg (by have := deep_fit n 60 x hf hn; omega)]
 unfold psL
 simp only
 rw [if_pos h3]
theorem Rdk.back {x : Ex} (h : Rdk x) : psO (ofL (prX 53 x)) = .ok x := psO_back (h.okx.all 53 (fit9_fit 53 x h.fitw)) (setsOk_tx 53 x h.tx) h.deep h.fitw (by omega)
theorem Rdk.wide {x : Ex} (h : Rdk x) : fit 90001 53 x = true := fit_wide (by omega) 53 x h.fitw
end Go.Proofs.Ytonknapfndaalaa
