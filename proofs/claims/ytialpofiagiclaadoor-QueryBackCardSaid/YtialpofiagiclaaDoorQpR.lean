/- A step, as it is written, is read as it was. -/
import Derived.Test.YtialpofiagiclaaDoorQpQ
namespace Go.Proofs.YtialpofiagiclaaDoor
set_option linter.unusedVariables false
set_option maxRecDepth 1000000
open Go.RowKit

/-- From k on U is just l. -/
def Fr (U : ByteArray) (k : Nat) (l : List UInt8) : Prop := k ≤ U.size ∧ U.data.toList.drop k = l
section
variable {U : ByteArray} {k : Nat}
theorem Fr.tk {l : List UInt8} (h : Fr U k l) (x : List UInt8) : tk U k x = x.isPrefixOf l := by unfold Go.Proofs.YtialpofiagiclaaDoor.tk; rw [h.2]
theorem Fr.len {l : List UInt8} (h : Fr U k l) : k + l.length = U.size := by
  have := h.1
  rw [← h.2, List.length_drop]
  have : U.data.toList.length = U.size := by simp
  omega
theorem Fr.app {a b : List UInt8} (h : Fr U k (a ++ b)) : Fr U (k + a.length) b := by
  have h1 := h.len
  rw [List.length_append] at h1
  refine ⟨by omega, ?_⟩
  rw [← List.drop_drop, h.2, List.drop_left]
theorem Fr.cons {c : UInt8} {l : List UInt8} (h : Fr U k (c :: l)) : k < U.size ∧ byt U k = (c.toNat : Int) ∧ Fr U (k + 1) l := by
  have h1 := h.len
  rw [List.length_cons] at h1
  refine ⟨by omega, ?_, Fr.app (a := [c]) h⟩
  unfold byt
  have e : U.data.toList[k]? = some c := by
    have := congrArg (·[0]?) h.2
    rw [List.getElem?_drop] at this
    simpa using this
  rw [List.getD_eq_getElem?_getD, e]; rfl
theorem Fr.at_ {a b : List UInt8} (h : Fr U k (a ++ b)) : At U k a := by
  refine ⟨U.data.toList.take k, b, ?_, ?_⟩
  · rw [← h.2, List.take_append_drop]
  · rw [List.length_take]
    have : U.data.toList.length = U.size := by simp
    have := h.1
    omega
theorem Fr.cut {a b : List UInt8} (h : Fr U k (a ++ b)) : U.extract k (k + a.length) = ⟨a.toArray⟩ := by
  apply bytes_eq
  rw [ByteArray.data_extract, Array.toList_extract, List.extract_eq_take_drop, Nat.add_sub_cancel_left, h.2, List.take_left]
end
/-- What may come behind a step: nothing, a sign of an axis, a bar. -/
def Nx (R : List UInt8) : Prop := R = [] ∨ ∃ c r, R = c :: r ∧ (c = 47 ∨ c = 94 ∨ c = 43 ∨ c = 124)
/-- What may come behind a word. -/
def Nw (R : List UInt8) : Prop := R = [] ∨ ∃ c r, R = c :: r ∧ (c = 47 ∨ c = 94 ∨ c = 43 ∨ c = 124 ∨ c = 61 ∨ c = 126 ∨ c = 91)
theorem Nx.w {R : List UInt8} (h : Nx R) : Nw R := by
  rcases h with h | ⟨c, r, h, h2⟩
  · exact .inl h
  · refine .inr ⟨c, r, h, ?_⟩
    rcases h2 with h | h | h | h
    · exact .inl h
    · exact .inr (.inl h)
    · exact .inr (.inr (.inl h))
    · exact .inr (.inr (.inr (.inl h)))
theorem not_first {R : List UInt8} {c : UInt8} {x : List UInt8} (h : ∀ r, R ≠ c :: r) : (c :: x).isPrefixOf R = false := by
  cases R with
  | nil => rfl
  | cons a r =>
    show (c == a && x.isPrefixOf r) = false
    rw [beq_eq_false_iff_ne.2 (fun e => h r (by rw [e])), Bool.false_and]
/-- The axis. -/
theorem ax_back {U : ByteArray} {k : Nat} {n : Int} {c : UInt8} {r : List UInt8} (h1 : 1 ≤ n) (h4 : n ≤ 4) (hc : c ≠ 47) (h : Fr U k ((axS n).data.toList ++ c :: r)) : axR U k = (n, k + (axS n).size) := by
  have hn : n = 1 ∨ n = 2 ∨ n = 3 ∨ n = 4 := by omega
  unfold axR
  rw [h.tk, h.tk, h.tk, h.tk]
  rcases hn with rfl | rfl | rfl | rfl
  · have e : ([47, 47] : List UInt8).isPrefixOf ((axS 1).data.toList ++ c :: r) = false := by
      show ((47 : UInt8) == 47 && ((47 : UInt8) == c && ([] : List UInt8).isPrefixOf r)) = false
      rw [beq_eq_false_iff_ne.2 (fun e => hc e.symm)]
      simp
    rw [e]; rfl
  · rfl
  · rfl
  · rfl
/-- The word. -/
def wdS (x : Hp) : ByteArray := if x.nm.toList.isEmpty = true then kdS x.kd else x.nm
theorem hpA_eq (x : Hp) : hpA x = axS x.ax ++ wdS x := rfl
theorem empty_of {s : ByteArray} (h : s.toList.isEmpty = true) : s = ⟨#[]⟩ := by
  apply bytes_eq
  rw [ByteArray.toList_eq] at h
  simpa using h
theorem let_ne {c : Int} (h : isLet c = true) : c ≠ 35 ∧ c ≠ 42 ∧ c ≠ 47 := by
  unfold isLet at h
  simp only [Bool.or_eq_true, Bool.and_eq_true, decide_eq_true_eq] at h
  omega
theorem allAt_get {s : ByteArray} : ∀ {n j : Nat}, allAt s n = true → j < n → okAt j (byt s j) = true
  | 0, j, _, hj => by omega
  | n + 1, j, h, hj => by
    unfold allAt at h
    rw [Bool.and_eq_true] at h
    by_cases g : j = n
    · subst g; exact h.2
    · exact allAt_get h.1 (by omega)
theorem okAt_01 {j : Nat} {c : Int} (h : okAt j c = true) : okAt 1 c = true := by
  unfold okAt at h ⊢
  cases hl : isLet c with
  | true => rfl
  | false =>
    rw [hl] at h
    simp only [Bool.false_or, Bool.and_eq_true] at h
    rw [Bool.false_or, h.2]; rfl
theorem nw_not {U : ByteArray} {k : Nat} {R : List UInt8} (hR : Nw R) (h : Fr U k R) : ¬ (k < U.size ∧ inW U k = true) := by
  rintro ⟨hk, hw⟩
  rcases hR with rfl | ⟨c, r, rfl, hc⟩
  · have := h.len; simp at this; omega
  · rw [inW_ok hk, (h.cons).2.1] at hw
    rcases hc with rfl | rfl | rfl | rfl | rfl | rfl | rfl <;> cases hw
theorem nm_back {U s : ByteArray} {k : Nat} {R : List UInt8} (hw : wordB s = true) (hR : Nw R) (h : Fr U k (s.data.toList ++ R)) : nmF U 12 k = k + s.size := by
  unfold wordB at hw
  simp only [Bool.and_eq_true, decide_eq_true_eq] at hw
  have hall := hw.1.2
  have hlen : s.data.toList.length = s.size := by simp
  have hE : Fr U (k + s.size) R := by have := h.app; rw [hlen] at this; exact this
  have hUs := h.len
  rw [List.length_append, hlen] at hUs
  have hb : ∀ j, j < s.size → byt U (k + j) = byt s j := fun j hj => by
    unfold byt
    have := congrArg (·[j]?) h.2
    rw [List.getElem?_drop, List.getElem?_append_left (by omega)] at this
    rw [List.getD_eq_getElem?_getD, List.getD_eq_getElem?_getD, this]
  have key : ∀ f j, j ≤ s.size → s.size ≤ f + j → nmF U f (k + j) = k + s.size := by
    intro f
    induction f with
    | zero => intro j h1 h2; show k + j = _; omega
    | succ f ih =>
      intro j h1 h2
      show (if k + j < U.size ∧ inW U (k + j) = true then nmF U f (k + j + 1) else k + j) = _
      by_cases g : j < s.size
      · rw [if_pos ⟨by omega, by rw [inW_ok (by omega), hb j g]; exact okAt_01 (allAt_get hall g)⟩]
        exact ih (j + 1) (by omega) (by omega)
      · obtain rfl : j = s.size := by omega
        rw [if_neg (nw_not hR hE)]
  have := key 12 0 (Nat.zero_le _) (by omega)
  exact this
theorem word_first {s : ByteArray} (hw : wordB s = true) (h0 : s.toList.isEmpty = false) : ∃ c r, s.data.toList = c :: r ∧ c ≠ 35 ∧ c ≠ 42 ∧ c ≠ 47 := by
  rw [ByteArray.toList_eq] at h0
  cases hl : s.data.toList with
  | nil => rw [hl] at h0; cases h0
  | cons c r =>
    have hsz : s.data.toList.length = s.size := by simp
    rw [hl, List.length_cons] at hsz
    unfold wordB at hw
    simp only [Bool.and_eq_true, decide_eq_true_eq] at hw
    have h1 := allAt_get hw.1.2 (show 0 < s.size by omega)
    have hb : byt s 0 = (c.toNat : Int) := by unfold byt; rw [hl]; rfl
    have hl2 : isLet (c.toNat : Int) = true := by
      rw [hb] at h1
      unfold okAt at h1
      simpa using h1
    have h3 := let_ne hl2
    refine ⟨c, r, rfl, ?_, ?_, ?_⟩ <;> rintro rfl
    · exact h3.1 rfl
    · exact h3.2.1 rfl
    · exact h3.2.2 rfl
theorem kwF_none {U : ByteArray} {k : Nat} {c : UInt8} {r : List UInt8} (h : Fr U k (c :: r)) (hc : c ≠ 35) : kwF U k 5 1 = 0 := by
  have no : ∀ j, 1 ≤ j → j ≤ 5 → tk U k (kwL j) = false := fun j h1 h5 => by
    rw [h.tk]
    have hj : j = 1 ∨ j = 2 ∨ j = 3 ∨ j = 4 ∨ j = 5 := by omega
    rcases hj with rfl | rfl | rfl | rfl | rfl <;> exact not_first (fun q e => hc (by injection e))
  unfold kwF
  rw [no 1 (by omega) (by omega), if_neg (by decide)]
  unfold kwF
  rw [no 2 (by omega) (by omega), if_neg (by decide)]
  unfold kwF
  rw [no 3 (by omega) (by omega), if_neg (by decide)]
  unfold kwF
  rw [no 4 (by omega) (by omega), if_neg (by decide)]
  unfold kwF
  rw [no 5 (by omega) (by omega), if_neg (by decide)]
  rfl
theorem kwF_some {U : ByteArray} {k j : Nat} {r : List UInt8} (h1 : 1 ≤ j) (h5 : j ≤ 5) (h : Fr U k (kwL j ++ r)) : kwF U k 5 1 = j := by
  have e : ∀ i, tk U k (kwL i) = (kwL i).isPrefixOf (kwL j ++ r) := fun i => h.tk _
  have hj : j = 1 ∨ j = 2 ∨ j = 3 ∨ j = 4 ∨ j = 5 := by omega
  unfold kwF; rw [e]
  unfold kwF; rw [e]
  unfold kwF; rw [e]
  unfold kwF; rw [e]
  unfold kwF; rw [e]
  rcases hj with rfl | rfl | rfl | rfl | rfl <;> rfl
theorem wd_back {U : ByteArray} {k : Nat} {x : Hp} {R : List UInt8} (hx : rightH x = true) (hR : Nw R) (h : Fr U k ((wdS x).data.toList ++ R)) : whR U k = some (x.kd, x.nm, k + (wdS x).size) ∧ ∃ c r, (wdS x).data.toList = c :: r ∧ c ≠ 47 := by
  unfold rightH at hx
  simp only [Bool.and_eq_true, decide_eq_true_eq] at hx
  obtain ⟨⟨⟨⟨⟨⟨⟨⟨ha1, ha4⟩, hk0⟩, hk5⟩, hnm⟩, his⟩, hhas⟩, hn0⟩, hn9⟩ := hx
  cases he : x.nm.toList.isEmpty with
  | true =>
    have hnm : x.nm = ⟨#[]⟩ := empty_of he
    have hwd : wdS x = kdS x.kd := by unfold wdS; rw [if_pos he]
    rw [hwd] at h ⊢
    by_cases g : 1 ≤ x.kd
    · obtain ⟨j, hj⟩ : ∃ j : Nat, x.kd = (j : Int) := ⟨x.kd.toNat, by omega⟩
      rw [hj] at h ⊢
      have e : kdS (j : Int) = kwS j := kdS_j (by omega) (by omega)
      rw [e] at h ⊢
      rw [kwS_list] at h ⊢
      have hk := kwF_some (by omega) (by omega) h
      refine ⟨?_, ?_⟩
      · unfold whR
        rw [hk, if_pos (by omega), hnm]
        have : (kwS j).size = (kwL j).length := by show (kwL j).toArray.size = _; simp
        rw [this]
      · have hj : j = 1 ∨ j = 2 ∨ j = 3 ∨ j = 4 ∨ j = 5 := by omega
        rcases hj with rfl | rfl | rfl | rfl | rfl <;> exact ⟨_, _, rfl, by decide⟩
    · have hz : x.kd = 0 := by omega
      rw [hz] at h ⊢
      have e : kdS 0 = ⟨#[42]⟩ := rfl
      rw [e] at h ⊢
      have h' : Fr U k (42 :: R) := h
      refine ⟨?_, 42, [], rfl, by decide⟩
      unfold whR
      rw [kwF_none h' (by decide), if_neg (by omega), h'.tk, hnm]
      rfl
  | false =>
    have hwd : wdS x = x.nm := by unfold wdS; rw [if_neg (by rw [he]; decide)]
    rw [hwd] at h ⊢
    unfold nmB at hnm
    rw [he, Bool.false_or, Bool.and_eq_true, beq_iff_eq] at hnm
    obtain ⟨hw, hk⟩ := hnm
    obtain ⟨c, r, hl, c1, c2, c3⟩ := word_first hw he
    have h' : Fr U k (c :: (r ++ R)) := by rw [hl] at h; exact h
    have hlen : x.nm.data.toList.length = x.nm.size := by simp
    have hcut := h.cut
    rw [hlen] at hcut
    have e : (⟨x.nm.data.toList.toArray⟩ : ByteArray) = x.nm := bytes_eq (by simp)
    rw [e] at hcut
    refine ⟨?_, c, r, hl, c3⟩
    unfold whR
    rw [kwF_none h' c1, if_neg (by omega), h'.tk, not_first (fun q e => c2 (by injection e)), if_neg (by decide), nm_back hw hR h, hcut, if_pos hw, hk]
/-- A literal. -/
def ltS (c : UInt8) (s : ByteArray) : List UInt8 := if s.toList.isEmpty = true then [] else c :: (textS s).data.toList
theorem lt_back {U s : ByteArray} {k : Nat} {c : UInt8} {R : List UInt8} (hs : s.size ≤ 40) (hR : ∀ r, R ≠ c :: r) (h : Fr U k (ltS c s ++ R)) : litR c U k = .ok (s, k + (ltS c s).length) := by
  unfold ltS at h ⊢
  cases he : s.toList.isEmpty with
  | true =>
    rw [he, if_pos rfl] at h
    rw [if_pos rfl, empty_of he]
    unfold litR
    rw [h.tk, List.nil_append, not_first hR]
    rfl
  | false =>
    rw [he, if_neg (by decide)] at h
    rw [if_neg (by decide)]
    have h2 := h.cons.2.2
    have h0 : s.size ≠ 0 := fun h0 => by
      rw [ByteArray.toList_eq] at he
      have : s.data.toList.length = s.size := by simp
      rw [h0] at this
      rw [List.eq_nil_of_length_eq_zero this] at he
      cases he
    have ht := txt_back (h2.at_)
    rw [if_neg (by omega)] at ht
    unfold litR
    have e : tk U k [c] = true := by
      rw [h.tk]
      show (c == c && ([] : List UInt8).isPrefixOf _) = true
      simp
    rw [e, if_pos rfl, ht]
    have hl : (textS s).data.toList.length = (textS s).size := by simp
    rw [List.length_cons, hl]
    show Except.ok (s, k + 1 + (textS s).size) = _
    rw [Nat.add_assoc, Nat.add_comm 1]
/-- The number. -/
def nvl (l : List UInt8) (n : Int) : Int := l.foldl (fun n c => 10 * n + ((c.toNat : Int) - 48)) n
theorem dig_n {u : Nat} (h : u < 10) : (UInt8.ofNat (48 + u)).toNat = 48 + u := by
  rw [UInt8.toNat_ofNat']
  exact Nat.mod_eq_of_lt (by omega)
theorem dec_val (u : Nat) : nvl (Lib.decDigits u) 0 = (u : Int) := by
  induction u using Nat.strongRecOn with
  | _ u ih =>
    rw [Lib.decDigits]
    split
    · rename_i h
      show 10 * (0 : Int) + (((UInt8.ofNat (48 + u)).toNat : Int) - 48) = _
      rw [dig_n h]; omega
    · rename_i h
      have e := ih (u / 10) (by omega)
      unfold nvl at e ⊢
      rw [List.foldl_append, e]
      show 10 * ((u / 10 : Nat) : Int) + (((UInt8.ofNat (48 + u % 10)).toNat : Int) - 48) = _
      rw [dig_n (by omega)]; omega
theorem dec_dig (u : Nat) : ∀ c ∈ Lib.decDigits u, 48 ≤ c.toNat ∧ c.toNat ≤ 57 := by
  induction u using Nat.strongRecOn with
  | _ u ih =>
    rw [Lib.decDigits]
    split
    · rename_i h
      intro c hc
      rw [List.mem_singleton] at hc
      rw [hc, dig_n h]; omega
    · rename_i h
      intro c hc
      rcases List.mem_append.1 hc with hc | hc
      · exact ih (u / 10) (by omega) c hc
      · rw [List.mem_singleton] at hc
        rw [hc, dig_n (by omega)]; omega
theorem dec_head (u : Nat) (h0 : 1 ≤ u) : ∃ c r, Lib.decDigits u = c :: r ∧ c ≠ 48 := by
  induction u using Nat.strongRecOn with
  | _ u ih =>
    rw [Lib.decDigits]
    split
    · rename_i h
      refine ⟨_, [], rfl, fun e => ?_⟩
      have := congrArg UInt8.toNat e
      rw [dig_n h] at this
      have h2 : (48 : UInt8).toNat = 48 := rfl
      omega
    · rename_i h
      obtain ⟨c, r, e, hc⟩ := ih (u / 10) (by omega) (by omega)
      exact ⟨c, r ++ _, by rw [e]; rfl, hc⟩
theorem dec_len : ∀ (k u : Nat), u < 10 ^ (k + 1) → (Lib.decDigits u).length ≤ k + 1
  | 0, u, h => by rw [Lib.decDigits, dif_pos (by simpa using h)]; exact Nat.le_refl _
  | k + 1, u, h => by
    rw [Lib.decDigits]
    split
    · simp
    · rw [List.length_append, List.length_singleton]
      have := dec_len k (u / 10) (by rw [Nat.pow_succ] at h; omega)
      omega
theorem dg_back {U : ByteArray} {b : Nat} (hb : byt U b ≠ 48) {c : UInt8} {r : List UInt8} (hc : c = 93) : ∀ (l : List UInt8) (f k : Nat) (n : Int), (∀ d ∈ l, 48 ≤ d.toNat ∧ d.toNat ≤ 57) → l.length ≤ f → Fr U k (l ++ c :: r) → dgF U b f k n = (nvl l n, k + l.length)
  | [], 0, k, n, _, _, h => rfl
  | [], f + 1, k, n, _, _, h => by
    have h2 := h.cons
    have e : digB U k = false := by unfold digB; rw [h2.2.1, hc]; rfl
    show (if k < U.size ∧ digB U k = true ∧ byt U b ≠ 48 then _ else (n, k)) = _
    rw [if_neg (fun q => by rw [e] at q; cases q.2.1)]; rfl
  | d :: l, 0, k, n, _, hf, h => by simp at hf
  | d :: l, f + 1, k, n, hd, hf, h => by
    have h2 := Fr.cons (l := l ++ c :: r) h
    have h3 := hd d (.head _)
    have e : digB U k = true := by unfold digB; rw [h2.2.1, decide_eq_true (by omega), decide_eq_true (by omega)]; rfl
    show (if k < U.size ∧ digB U k = true ∧ byt U b ≠ 48 then dgF U b f (k + 1) (10 * n + (byt U k - 48)) else (n, k)) = _
    rw [if_pos ⟨h2.1, e, hb⟩, h2.2.1, dg_back hb hc l f (k + 1) _ (fun y hy => hd y (.tail _ hy)) (by simpa using hf) h2.2.2, List.length_cons]
    show (nvl l _, _) = (nvl l _, _)
    rw [Nat.add_assoc, Nat.add_comm 1]
def ntS (n : Int) : List UInt8 := if 0 < n then 91 :: (Lib.decDigits n.toNat ++ [93]) else []
theorem nt_back {U : ByteArray} {k : Nat} {n : Int} {R : List UInt8} (h0 : 0 ≤ n) (h9 : n ≤ 9999) (hR : ∀ r, R ≠ 91 :: r) (h : Fr U k (ntS n ++ R)) : nthR U k = .ok (n, k + (ntS n).length) := by
  unfold ntS at h ⊢
  by_cases g : 0 < n
  · rw [if_pos g] at h ⊢
    have h2 := Fr.cons (l := Lib.decDigits n.toNat ++ [93] ++ R) h
    have h3 : Fr U (k + 1) (Lib.decDigits n.toNat ++ 93 :: R) := by have := h2.2.2; rw [List.append_assoc] at this; exact this
    obtain ⟨c, r, hd, hc⟩ := dec_head n.toNat (by omega)
    have hb : byt U (k + 1) ≠ 48 := by
      have h4 : Fr U (k + 1) (c :: (r ++ 93 :: R)) := by rw [hd] at h3; exact h3
      rw [h4.cons.2.1]
      intro e
      have h48 : (48 : UInt8).toNat = 48 := rfl
      exact hc (UInt8.toNat_inj.1 (by omega))
    have hdg := dg_back hb (rfl : (93 : UInt8) = 93) (Lib.decDigits n.toNat) 4 (k + 1) 0 (dec_dig _) (dec_len 3 _ (by omega)) h3
    rw [dec_val] at hdg
    have h5 := h3.app
    have e1 : tk U k [91] = true := by rw [h.tk]; rfl
    have e2 : tk U (k + 1 + (Lib.decDigits n.toNat).length) [93] = true := by rw [h5.tk]; rfl
    unfold nthR
    rw [e1, if_pos rfl, hdg, if_neg (by simp only [e2]; rintro (q | q); omega; cases q)]
    rw [List.length_cons, List.length_append, List.length_singleton]
    show Except.ok ((n.toNat : Int), k + 1 + (Lib.decDigits n.toNat).length + 1) = _
    rw [Int.toNat_of_nonneg h0]
    congr 2
    omega
  · rw [if_neg g] at h ⊢
    unfold nthR
    rw [h.tk, List.nil_append, not_first hR]
    have : n = 0 := by omega
    subst this; rfl
/-- A step's bytes, part by part. -/
theorem hp_parts {x : Hp} : (hpS x).data.toList = (axS x.ax).data.toList ++ ((wdS x).data.toList ++ (ltS 61 x.is ++ (ltS 126 x.has ++ ntS x.nth))) := by
  have eA : (hpA x).data.toList = (axS x.ax).data.toList ++ (wdS x).data.toList := by rw [hpA_eq, ByteArray.data_append, Array.toList_append]
  have eB : (hpB x).data.toList = (hpA x).data.toList ++ ltS 61 x.is := by
    unfold hpB ltS
    split
    · rw [List.append_nil]
    · rw [ByteArray.data_append, ByteArray.data_append, Array.toList_append, Array.toList_append]; rfl
  have eC : (hpC x).data.toList = (hpB x).data.toList ++ ltS 126 x.has := by
    unfold hpC ltS
    split
    · rw [List.append_nil]
    · rw [ByteArray.data_append, ByteArray.data_append, Array.toList_append, Array.toList_append]; rfl
  have eD : (hpS x).data.toList = (hpC x).data.toList ++ ntS x.nth := by
    unfold hpS ntS
    split
    · rw [decS_itoa (by omega), ByteArray.data_append, ByteArray.data_append, ByteArray.data_append, Array.toList_append, Array.toList_append, Array.toList_append]; rfl
    · rw [List.append_nil]
  rw [eD, eC, eB, eA]
  simp only [List.append_assoc]
theorem nt_nw {n : Int} {R : List UInt8} (hR : Nx R) : Nw (ntS n ++ R) ∧ (∀ r, ntS n ++ R ≠ 126 :: r) ∧ (∀ r, ntS n ++ R ≠ 61 :: r) := by
  unfold ntS
  split
  · exact ⟨.inr ⟨91, _, rfl, .inr (.inr (.inr (.inr (.inr (.inr rfl)))))⟩, fun r e => (by injection e with e; cases e), fun r e => (by injection e with e; cases e)⟩
  · rw [List.nil_append]
    refine ⟨hR.w, ?_, ?_⟩ <;>
    · rintro r rfl
      rcases hR with h | ⟨c, q, h, hc⟩
      · cases h
      · injection h with h; subst h
        rcases hc with h | h | h | h <;> cases h
theorem lt_nw {c : UInt8} {s : ByteArray} {R : List UInt8} (hc : c = 61 ∨ c = 126) (hR : Nw R) : Nw (ltS c s ++ R) := by
  unfold ltS
  split
  · exact hR
  · refine .inr ⟨c, _, rfl, ?_⟩
    rcases hc with rfl | rfl
    · exact .inr (.inr (.inr (.inr (.inl rfl))))
    · exact .inr (.inr (.inr (.inr (.inr (.inl rfl)))))
theorem hop_back {U : ByteArray} {k : Nat} {x : Hp} {R : List UInt8} (hx : rightH x = true) (hR : Nx R) (h : Fr U k ((hpS x).data.toList ++ R)) : hopR U k = .ok (x, k + (hpS x).data.toList.length) := by
  have hx0 := hx
  unfold rightH at hx0
  simp only [Bool.and_eq_true, decide_eq_true_eq] at hx0
  obtain ⟨⟨⟨⟨⟨⟨⟨⟨ha1, ha4⟩, hk0⟩, hk5⟩, hnm⟩, his⟩, hhas⟩, hn0⟩, hn9⟩ := hx0
  rw [hp_parts] at h ⊢
  simp only [List.append_assoc] at h
  have n1 := nt_nw (n := x.nth) hR
  have n2 : Nw (ltS 126 x.has ++ (ntS x.nth ++ R)) := lt_nw (.inr rfl) n1.1
  have n3 : Nw (ltS 61 x.is ++ (ltS 126 x.has ++ (ntS x.nth ++ R))) := lt_nw (.inl rfl) n2
  have f1 := h.app
  have hw := wd_back hx n3 f1
  obtain ⟨hw1, c, r, hc, hc7⟩ := hw
  have hax := ax_back (c := c) (r := r ++ (ltS 61 x.is ++ (ltS 126 x.has ++ (ntS x.nth ++ R)))) ha1 ha4 hc7 (by rw [hc] at h; exact h)
  have f2 := f1.app
  have l1 : (axS x.ax).data.toList.length = (axS x.ax).size := by simp
  have l2 : (wdS x).data.toList.length = (wdS x).size := by simp
  rw [l1] at f1 f2 hw1
  rw [l2] at f2
  have b1 := lt_back his (fun r e => by
    unfold ltS at e
    split at e
    · rw [List.nil_append] at e; exact n1.2.2 r e
    · injection e with e; cases e) f2
  have f3 := f2.app
  have b2 := lt_back hhas n1.2.1 f3
  have f4 := f3.app
  have b3 := nt_back hn0 hn9 (fun r e => by
    subst e
    rcases hR with h | ⟨c, q, h, hc⟩
    · cases h
    · injection h with h; subst h
      rcases hc with h | h | h | h <;> cases h) f4
  unfold hopR
  rw [hax]
  simp only []
  rw [if_neg (by omega), hw1]
  simp only []
  rw [b1]
  simp only []
  rw [b2]
  simp only []
  rw [b3]
  simp only []
  have e : k + ((axS x.ax).data.toList ++ ((wdS x).data.toList ++ (ltS 61 x.is ++ (ltS 126 x.has ++ ntS x.nth)))).length = k + (axS x.ax).size + (wdS x).size + (ltS 61 x.is).length + (ltS 126 x.has).length + (ntS x.nth).length := by
    simp only [List.length_append, l1, l2]
    omega
  rw [e]
end Go.Proofs.YtialpofiagiclaaDoor
