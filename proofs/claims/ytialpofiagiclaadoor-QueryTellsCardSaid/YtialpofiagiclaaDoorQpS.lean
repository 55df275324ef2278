/- What is parsed may be; what is written is parsed as it was; two queries with a bar between. -/
import Derived.Test.YtialpofiagiclaaDoorQpR
namespace Go.Proofs.YtialpofiagiclaaDoor
set_option linter.unusedVariables false
set_option maxRecDepth 1000000
open Go.RowKit

theorem dgF_top (s : ByteArray) (b : Nat) : ∀ (f k : Nat) (n m : Int), 0 ≤ n → n + 1 ≤ m → (dgF s b f k n).1 + 1 ≤ m * 10 ^ f
  | 0, k, n, m, h0, h => by show n + 1 ≤ m * 10 ^ 0; omega
  | f + 1, k, n, m, h0, h => by
    unfold dgF
    split
    · rename_i g
      have g2 := g.2.1
      unfold digB at g2
      rw [Bool.and_eq_true, decide_eq_true_eq, decide_eq_true_eq] at g2
      have ih := dgF_top s b f (k + 1) (10 * n + (byt s k - 48)) (10 * m) (by omega) (by omega)
      have e : m * 10 ^ (f + 1) = 10 * m * 10 ^ f := by rw [Int.pow_succ, Int.mul_comm (10 ^ f), ← Int.mul_assoc, Int.mul_comm m 10]
      rw [e]; exact ih
    · have hp : ∀ j : Nat, (1 : Int) ≤ 10 ^ j := fun j => by
        induction j with
        | zero => decide
        | succ j ih => rw [Int.pow_succ]; omega
      have h1 := hp (f + 1)
      have h3 : m * 1 ≤ m * 10 ^ (f + 1) := Int.mul_le_mul_of_nonneg_left h1 (by omega)
      show n + 1 ≤ _
      omega
theorem nthR_top {s : ByteArray} {k : Nat} {n : Int} {m : Nat} (hk : k ≤ s.size) (h : nthR s k = .ok (n, m)) : 0 ≤ n ∧ n ≤ 9999 := by
  refine ⟨((nthR_bd hk).1 n m h).2.2, ?_⟩
  unfold nthR at h
  split at h
  · split at h
    · cases h
    · injection h with h; injection h with h1 h2
      have := dgF_top s (k + 1) 4 (k + 1) 0 1 (by omega) (by omega)
      omega
  · injection h with h; injection h with h1 h2; omega
theorem nm_none (b : Bool) : ((⟨#[]⟩ : ByteArray).toList.isEmpty || b) = true := by
  rw [ByteArray.toList_eq]; rfl
theorem whR_right {s : ByteArray} {k : Nat} {kd : Int} {nm : ByteArray} {m : Nat} (h : whR s k = some (kd, nm, m)) (a : Int) (i q : ByteArray) (n : Int) : nmB ⟨a, kd, nm, i, q, n⟩ = true := by
  unfold whR at h
  unfold nmB
  split at h
  · injection h with h; injection h with h3 h4; injection h4 with h5 h6
    subst h5; exact nm_none _
  · split at h
    · injection h with h; injection h with h3 h4; injection h4 with h5 h6
      subst h5; exact nm_none _
    · split at h
      · rename_i g
        injection h with h; injection h with h3 h4; injection h4 with h5 h6
        subst h3 h5
        simp only []
        rw [g, Bool.or_eq_true]
        exact .inr rfl
      · cases h
theorem hop_right {s : ByteArray} {k : Nat} {x : Hp} {m : Nat} (hk : k ≤ s.size) (h : hopR s k = .ok (x, m)) : rightH x = true := by
  have ha := axR_bd s k hk
  unfold hopR at h
  by_cases h0 : (axR s k).1 = 0
  · rw [if_pos h0] at h; cases h
  · rw [if_neg h0] at h
    cases hw : whR s (axR s k).2 with
    | none => rw [hw] at h; cases h
    | some p =>
      obtain ⟨kd, nm, k2⟩ := p
      have h2 := whR_bd ha.2.1 hw
      rw [hw] at h
      simp only [] at h
      cases h3 : litR 61 s k2 with
      | error e => rw [h3] at h; cases h
      | ok p =>
        obtain ⟨is, k3⟩ := p
        have l1 := (litR_bd (c := 61) h2.2.1).1 is k3 h3
        rw [h3] at h
        simp only [] at h
        cases h4 : litR 126 s k3 with
        | error e => rw [h4] at h; cases h
        | ok p =>
          obtain ⟨has, k4⟩ := p
          have l2 := (litR_bd (c := 126) l1.2.1).1 has k4 h4
          rw [h4] at h
          simp only [] at h
          cases h5 : nthR s k4 with
          | error e => rw [h5] at h; cases h
          | ok p =>
            obtain ⟨n, k5⟩ := p
            have l3 := nthR_top l2.2.1 h5
            rw [h5] at h
            simp only [] at h
            injection h with h; injection h with h6 h7
            subst h6
            unfold rightH
            rw [whR_right hw]
            simp only [Bool.and_eq_true, decide_eq_true_eq]
            exact ⟨⟨⟨⟨⟨⟨⟨⟨by omega, by omega⟩, by omega⟩, by omega⟩, trivial⟩, by omega⟩, by omega⟩, by omega⟩, by omega⟩
theorem qF_right {s : ByteArray} : ∀ (f k : Nat) (P : List (List Hp)) (L : List Hp) (R : List (List Hp)), k ≤ s.size → P.all rightP = true → P.length ≤ 8 → L.all rightH = true → L.length ≤ 12 → qF s f k P L = .ok R → R.all rightP = true ∧ R.length ≤ 8 ∧ P.length < R.length
  | 0, k, P, L, R, _, _, _, _, _, h => by cases h
  | f + 1, k, P, L, R, hk, hP, hP8, hL, hL12, h => by
    unfold qF at h
    by_cases hc : P.length = 8 ∨ L.length = 12
    · rw [if_pos hc] at h; cases h
    · rw [if_neg hc] at h
      have hc1 : P.length ≠ 8 := fun e => hc (.inl e)
      have hc2 : L.length ≠ 12 := fun e => hc (.inr e)
      cases hh : hopR s k with
      | error e => rw [hh] at h; cases h
      | ok p =>
        obtain ⟨x, m⟩ := p
        have hx := hop_right hk hh
        have hb := (hopR_bd hk).1 x m hh
        rw [hh] at h
        simp only [] at h
        have hLx : (L ++ [x]).all rightH = true := by rw [List.all_append, hL]; simp [hx]
        have hpx : rightP (L ++ [x]) = true := by
          unfold rightP
          rw [hLx, List.length_append, List.length_singleton, decide_eq_true (by omega), decide_eq_true (by omega)]; rfl
        have hPx : (P ++ [L ++ [x]]).all rightP = true := by rw [List.all_append, hP]; simp [hpx]
        by_cases hm : m = s.size
        · rw [if_pos hm] at h
          injection h with h
          subst h
          refine ⟨hPx, ?_, ?_⟩ <;> rw [List.length_append, List.length_singleton] <;> omega
        · rw [if_neg hm] at h
          by_cases ht : tk s m [124] = true
          · rw [if_pos ht] at h
            have := qF_right f (m + 1) (P ++ [L ++ [x]]) [] R (by omega) hPx (by rw [List.length_append, List.length_singleton]; omega) rfl (by simp) h
            rw [List.length_append, List.length_singleton] at this
            exact ⟨this.1, this.2.1, by omega⟩
          · rw [if_neg ht] at h
            exact qF_right f m P (L ++ [x]) R hb.2 hP hP8 hLx (by rw [List.length_append, List.length_singleton]; omega) h
theorem qry_right {s : ByteArray} {P : List (List Hp)} (h : qryO s = .ok P) : rightQ P = true := by
  have := qF_right (s.size + 1) 0 [] [] P (Nat.zero_le _) rfl (by simp) rfl (by simp) h
  unfold rightQ
  simp only [List.length_nil] at this
  rw [this.1, decide_eq_true this.2.1, decide_eq_true (by omega)]; rfl
theorem qF_err {s : ByteArray} : ∀ (f k : Nat) (P : List (List Hp)) (L : List Hp) (p : Int × Nat), k ≤ s.size → s.size < f + k → qF s f k P L = .error p → (p.1 = 2 ∨ p.1 = 3) ∧ p.2 ≤ s.size
  | 0, k, P, L, p, hk, hf, h => by omega
  | f + 1, k, P, L, p, hk, hf, h => by
    unfold qF at h
    by_cases hc : P.length = 8 ∨ L.length = 12
    · rw [if_pos hc] at h
      injection h with h
      subst h
      exact ⟨.inr rfl, hk⟩
    · rw [if_neg hc] at h
      cases hh : hopR s k with
      | error e =>
        rw [hh] at h
        injection h with h
        subst h
        exact ⟨.inl rfl, ((hopR_bd hk).2 e hh).2⟩
      | ok q =>
        obtain ⟨x, m⟩ := q
        have hb := (hopR_bd hk).1 x m hh
        rw [hh] at h
        simp only [] at h
        by_cases hm : m = s.size
        · rw [if_pos hm] at h; cases h
        · rw [if_neg hm] at h
          by_cases ht : tk s m [124] = true
          · rw [if_pos ht] at h
            exact qF_err f (m + 1) _ _ p (by omega) (by omega) h
          · rw [if_neg ht] at h
            exact qF_err f m _ _ p hb.2 (by omega) h
theorem qry_err {s : ByteArray} {p : Int × Nat} (h : qryO s = .error p) : (p.1 = 2 ∨ p.1 = 3) ∧ p.2 ≤ s.size :=
  qF_err (s.size + 1) 0 [] [] p (Nat.zero_le _) (by omega) h
theorem right_sml {P : List (List Hp)} (h : rightQ P = true) : SmlQ P ∧ P.length ≤ 8 ∧ ∀ p ∈ P, p.length ≤ 12 := by
  unfold rightQ at h
  simp only [Bool.and_eq_true, decide_eq_true_eq, List.all_eq_true] at h
  have hp : ∀ p ∈ P, 1 ≤ p.length ∧ p.length ≤ 12 ∧ ∀ x ∈ p, rightH x = true := fun p hp => by
    have := h.2 p hp
    unfold rightP at this
    simp only [Bool.and_eq_true, decide_eq_true_eq, List.all_eq_true] at this
    exact ⟨this.1.1, this.1.2, this.2⟩
  refine ⟨⟨by omega, fun p hq => by have := (hp p hq).2.1; omega, fun p hq x hx => ?_⟩, h.1.2, fun p hq => (hp p hq).2.1⟩
  have hr := (hp p hq).2.2 x hx
  unfold rightH at hr
  simp only [Bool.and_eq_true, decide_eq_true_eq] at hr
  obtain ⟨⟨⟨⟨⟨⟨⟨⟨ha1, ha4⟩, hk0⟩, hk5⟩, hnm⟩, his⟩, hhas⟩, hn0⟩, hn9⟩ := hr
  refine ⟨?_, by omega, by omega, by omega, by omega⟩
  unfold nmB at hnm
  rw [Bool.or_eq_true, Bool.and_eq_true] at hnm
  rcases hnm with hnm | hnm
  · rw [empty_of hnm]; decide
  · have := hnm.1
    unfold wordB at this
    simp only [Bool.and_eq_true, decide_eq_true_eq] at this
    omega
/-- What stands behind a path: the others, each behind a bar. -/
def tlL (Q : List (List Hp)) : List UInt8 := Q.flatMap fun q => 124 :: pthL q
theorem ax_some {n : Int} (h1 : 1 ≤ n) (h4 : n ≤ 4) : ∃ c r, (axS n).data.toList = c :: r ∧ (c = 47 ∨ c = 94 ∨ c = 43) := by
  have hn : n = 1 ∨ n = 2 ∨ n = 3 ∨ n = 4 := by omega
  rcases hn with rfl | rfl | rfl | rfl
  · exact ⟨_, _, rfl, .inl rfl⟩
  · exact ⟨_, _, rfl, .inl rfl⟩
  · exact ⟨_, _, rfl, .inr (.inl rfl)⟩
  · exact ⟨_, _, rfl, .inr (.inr rfl)⟩
theorem hp_first {x : Hp} (h : rightH x = true) : ∃ c r, (hpS x).data.toList = c :: r ∧ (c = 47 ∨ c = 94 ∨ c = 43) := by
  unfold rightH at h
  simp only [Bool.and_eq_true, decide_eq_true_eq] at h
  obtain ⟨⟨⟨⟨⟨⟨⟨⟨ha1, ha4⟩, hk0⟩, hk5⟩, hnm⟩, his⟩, hhas⟩, hn0⟩, hn9⟩ := h
  obtain ⟨c, r, e, hc⟩ := ax_some ha1 ha4
  rw [hp_parts, e]
  exact ⟨c, _, rfl, hc⟩
theorem tail_nx {r : List Hp} {Q : List (List Hp)} (hr : ∀ x ∈ r, rightH x = true) : Nx (pthL r ++ tlL Q) ∧ (pthL r ++ tlL Q = [] ↔ r = [] ∧ Q = []) ∧ (r ≠ [] → ∀ q, pthL r ++ tlL Q ≠ 124 :: q) := by
  cases r with
  | nil =>
    cases Q with
    | nil => exact ⟨.inl rfl, ⟨fun _ => ⟨rfl, rfl⟩, fun _ => rfl⟩, fun h => absurd rfl h⟩
    | cons q Q => exact ⟨.inr ⟨124, _, rfl, .inr (.inr (.inr rfl))⟩, ⟨fun h => (by cases h), fun h => (by cases h.2)⟩, fun h => absurd rfl h⟩
  | cons x r =>
    obtain ⟨c, q, e, hc⟩ := hp_first (hr x (.head _))
    have e2 : pthL (x :: r) ++ tlL Q = c :: (q ++ pthL r ++ tlL Q) := by
      show (hpS x).data.toList ++ pthL r ++ tlL Q = _
      rw [e]; simp
    rw [e2]
    refine ⟨.inr ⟨c, _, rfl, ?_⟩, ⟨fun h => (by cases h), fun h => (by cases h.1)⟩, fun _ q' h => ?_⟩
    · rcases hc with h | h | h
      · exact .inl h
      · exact .inr (.inl h)
      · exact .inr (.inr (.inl h))
    · injection h with h
      subst h
      rcases hc with h | h | h <;> cases h
theorem qF_print {U : ByteArray} : ∀ (f k : Nat) (P : List (List Hp)) (L r : List Hp) (Q : List (List Hp)), r ≠ [] → (∀ x ∈ r, rightH x = true) → (∀ q ∈ Q, rightP q = true) → P.length + 1 + Q.length ≤ 8 → L.length + r.length ≤ 12 → Fr U k (pthL r ++ tlL Q) → U.size < f + k →
    qF U f k P L = .ok (P ++ (L ++ r) :: Q)
  | 0, k, P, L, r, Q, _, _, _, _, _, h, hf => by have := h.len; omega
  | f + 1, k, P, L, [], Q, hr0, _, _, _, _, _, _ => absurd rfl hr0
  | f + 1, k, P, L, x :: r, Q, _, hr, hQ, h8, h12, h, hf => by
    have hx := hr x (.head _)
    have hr' : ∀ y ∈ r, rightH y = true := fun y hy => hr y (.tail _ hy)
    have ht := tail_nx (Q := Q) hr'
    have h' : Fr U k ((hpS x).data.toList ++ (pthL r ++ tlL Q)) := by
      have e : pthL (x :: r) ++ tlL Q = (hpS x).data.toList ++ (pthL r ++ tlL Q) := by
        show (hpS x).data.toList ++ pthL r ++ tlL Q = _
        rw [List.append_assoc]
      rw [← e]; exact h
    have hh := hop_back hx ht.1 h'
    have h2 := h'.app
    obtain ⟨c, q, e, -⟩ := hp_first hx
    have hpos : 0 < (hpS x).data.toList.length := by rw [e]; simp
    have hkm : k < k + (hpS x).data.toList.length := by omega
    generalize k + (hpS x).data.toList.length = m at *
    rw [List.length_cons] at h12
    unfold qF
    rw [if_neg (by omega), hh]
    simp only []
    have hl := h2.len
    by_cases he : r = [] ∧ Q = []
    · obtain ⟨rfl, rfl⟩ := he
      have : (pthL [] ++ tlL []).length = 0 := rfl
      rw [if_pos (by omega)]
    · have hne : pthL r ++ tlL Q ≠ [] := fun h => he (ht.2.1.1 h)
      have hlp : 0 < (pthL r ++ tlL Q).length := List.length_pos_iff.2 hne
      rw [if_neg (by omega)]
      by_cases hrr : r = []
      · subst hrr
        cases Q with
        | nil => exact absurd ⟨rfl, rfl⟩ he
        | cons p Q =>
          have h3 : Fr U m (124 :: (pthL p ++ tlL Q)) := h2
          have e1 : tk U m [124] = true := by rw [h3.tk]; rfl
          rw [e1, if_pos rfl]
          have hp := hQ p (.head _)
          unfold rightP at hp
          simp only [Bool.and_eq_true, decide_eq_true_eq, List.all_eq_true] at hp
          have hp1 := hp.1.1
          have hp2 := hp.1.2
          rw [List.length_cons] at h8
          rw [qF_print f (m + 1) (P ++ [L ++ [x]]) [] p Q (fun e => by rw [e] at hp1; simp at hp1) hp.2 (fun q hq => hQ q (.tail _ hq)) (by rw [List.length_append, List.length_singleton]; omega) (by simp; omega) h3.cons.2.2 (by omega)]
          simp
      · have e1 : tk U m [124] = false := by rw [h2.tk]; exact not_first (ht.2.2 hrr)
        rw [e1, if_neg (by decide)]
        rw [qF_print f m P (L ++ [x]) r Q hrr hr' hQ h8 (by rw [List.length_append, List.length_singleton]; omega) h2 (by omega)]
        simp
theorem qry_back {P : List (List Hp)} (h : rightQ P = true) : qryO (qpS P) = .ok P := by
  unfold rightQ at h
  simp only [Bool.and_eq_true, decide_eq_true_eq, List.all_eq_true] at h
  cases P with
  | nil => simp at h
  | cons p Q =>
    have hp := h.2 p (.head _)
    unfold rightP at hp
    simp only [Bool.and_eq_true, decide_eq_true_eq, List.all_eq_true] at hp
    have hp1 := hp.1.1
    have hp2 := hp.1.2
    have e : (qpS (p :: Q)).data.toList = pthL p ++ tlL Q := by
      show (Lib.join ((p :: Q).map pthL) [124]).toArray.toList = _
      rw [List.map_cons, Lib.join_cons]
      have e2 : Lib.joinTail [124] (Q.map pthL) = tlL Q := by
        unfold Lib.joinTail tlL
        rw [List.map_map, List.flatMap_def]
        rfl
      rw [e2]
    unfold qryO
    rw [qF_print ((qpS (p :: Q)).size + 1) 0 [] [] p Q (fun e => by rw [e] at hp1; simp at hp1) hp.2 (fun q hq => h.2 q (.tail _ hq)) (by simp at h ⊢; omega) (by simp; omega) ⟨Nat.zero_le _, by rw [List.drop_zero, e]⟩ (by omega)]
    rfl
theorem bar_at {U s : ByteArray} (h : Pre U s) : tk U s.size [124] = true := by
  have hs := h.size
  rw [tk_one, h.blank, decide_eq_true hs]; rfl
theorem Pre.qF {U s : ByteArray} (h : Pre U s) : ∀ (f g k : Nat) (P : List (List Hp)) (L : List Hp) (R : List (List Hp)), k ≤ s.size → Go.Proofs.YtialpofiagiclaaDoor.qF s f k P L = .ok R → U.size < g + k → ∃ g', U.size < g' + (s.size + 1) ∧ Go.Proofs.YtialpofiagiclaaDoor.qF U g k P L = Go.Proofs.YtialpofiagiclaaDoor.qF U g' (s.size + 1) R []
  | 0, g, k, P, L, R, hk, hq, hg => by cases hq
  | f + 1, 0, k, P, L, R, hk, hq, hg => by have := h.size; omega
  | f + 1, g + 1, k, P, L, R, hk, hq, hg => by
    have hs := h.size
    unfold Go.Proofs.YtialpofiagiclaaDoor.qF at hq
    by_cases hc : P.length = 8 ∨ L.length = 12
    · rw [if_pos hc] at hq; cases hq
    · rw [if_neg hc] at hq
      cases hh : Go.Proofs.YtialpofiagiclaaDoor.hopR s k with
      | error e => rw [hh] at hq; cases hq
      | ok p =>
        obtain ⟨x, m⟩ := p
        have hb := (hopR_bd hk).1 x m hh
        rw [hh] at hq
        simp only [] at hq
        have e0 : Go.Proofs.YtialpofiagiclaaDoor.qF U (g + 1) k P L = if m = U.size then .ok (P ++ [L ++ [x]]) else if Go.Proofs.YtialpofiagiclaaDoor.tk U m [124] = true then Go.Proofs.YtialpofiagiclaaDoor.qF U g (m + 1) (P ++ [L ++ [x]]) [] else Go.Proofs.YtialpofiagiclaaDoor.qF U g m P (L ++ [x]) := by
          conv => lhs; unfold Go.Proofs.YtialpofiagiclaaDoor.qF
          rw [if_neg hc, h.hopR hk hh]
        rw [e0, if_neg (by omega)]
        by_cases hm : m = s.size
        · rw [if_pos hm] at hq
          injection hq with hq
          subst hm hq
          rw [bar_at h, if_pos rfl]
          exact ⟨g, by omega, rfl⟩
        · rw [if_neg hm] at hq
          have et : Go.Proofs.YtialpofiagiclaaDoor.tk U m [124] = Go.Proofs.YtialpofiagiclaaDoor.tk s m [124] := by rw [tk_one, tk_one, h.byt (by omega), decide_eq_true (by omega), decide_eq_true (by omega)]
          rw [et]
          by_cases ht : Go.Proofs.YtialpofiagiclaaDoor.tk s m [124] = true
          · rw [if_pos ht] at hq ⊢
            exact h.qF f g (m + 1) _ _ R (by omega) hq (by omega)
          · rw [if_neg ht] at hq ⊢
            exact h.qF f g m _ _ R hb.2 hq (by omega)
theorem Suf.qF {U t : ByteArray} {d : Nat} (h : Suf U t d) (A : List (List Hp)) : ∀ (f g k : Nat) (P : List (List Hp)) (L : List Hp) (B : List (List Hp)), k ≤ t.size → A.length + P.length ≤ 8 → P.all rightP = true → L.all rightH = true → L.length ≤ 12 → Go.Proofs.YtialpofiagiclaaDoor.qF t f k P L = .ok B → U.size < g + (d + k) →
    (A.length + B.length ≤ 8 → Go.Proofs.YtialpofiagiclaaDoor.qF U g (d + k) (A ++ P) L = .ok (A ++ B)) ∧ (8 < A.length + B.length → ∃ q, Go.Proofs.YtialpofiagiclaaDoor.qF U g (d + k) (A ++ P) L = .error (3, q))
  | 0, g, k, P, L, B, hk, h8, hP, hL, hL12, hq, hg => by cases hq
  | f + 1, 0, k, P, L, B, hk, h8, hP, hL, hL12, hq, hg => by have := h.size; omega
  | f + 1, g + 1, k, P, L, B, hk, h8, hP, hL, hL12, hq, hg => by
    have hs := h.size
    have hlt := (qF_right (f + 1) k P L B hk hP (by omega) hL hL12 hq).2.2
    unfold Go.Proofs.YtialpofiagiclaaDoor.qF at hq
    by_cases hc : P.length = 8 ∨ L.length = 12
    · rw [if_pos hc] at hq; cases hq
    · rw [if_neg hc] at hq
      cases hh : Go.Proofs.YtialpofiagiclaaDoor.hopR t k with
      | error e => rw [hh] at hq; cases hq
      | ok p =>
        obtain ⟨x, m⟩ := p
        have hb := (hopR_bd hk).1 x m hh
        have hx := hop_right hk hh
        rw [hh] at hq
        simp only [] at hq
        by_cases h88 : A.length + P.length = 8
        · refine ⟨fun h => by omega, fun _ => ⟨d + k, ?_⟩⟩
          unfold Go.Proofs.YtialpofiagiclaaDoor.qF
          rw [if_pos (.inl (by rw [List.length_append]; exact h88))]
        · have e0 : Go.Proofs.YtialpofiagiclaaDoor.qF U (g + 1) (d + k) (A ++ P) L = if d + m = U.size then .ok (A ++ P ++ [L ++ [x]]) else if Go.Proofs.YtialpofiagiclaaDoor.tk U (d + m) [124] = true then Go.Proofs.YtialpofiagiclaaDoor.qF U g (d + m + 1) (A ++ P ++ [L ++ [x]]) [] else Go.Proofs.YtialpofiagiclaaDoor.qF U g (d + m) (A ++ P) (L ++ [x]) := by
            conv => lhs; unfold Go.Proofs.YtialpofiagiclaaDoor.qF
            rw [if_neg (by rw [List.length_append]; rintro (q | q); exact h88 q; exact hc (.inr q)), h.hopR, hh]
            rfl
          rw [e0, h.tk]
          have hLx : (L ++ [x]).all rightH = true := by rw [List.all_append, hL]; simp [hx]
          have hL11 : (L ++ [x]).length ≤ 12 := by rw [List.length_append, List.length_singleton]; have : L.length ≠ 12 := fun e => hc (.inr e); omega
          have hPx : (P ++ [L ++ [x]]).all rightP = true := by
            have hpx : rightP (L ++ [x]) = true := by
              unfold rightP
              rw [hLx, decide_eq_true hL11, decide_eq_true (by rw [List.length_append, List.length_singleton]; omega)]; rfl
            rw [List.all_append, hP]; simp [hpx]
          by_cases hm : m = t.size
          · rw [if_pos hm] at hq
            rw [if_pos (by omega)]
            injection hq with hq
            subst hq
            refine ⟨fun _ => by rw [List.append_assoc], fun h => ?_⟩
            rw [List.length_append, List.length_singleton] at h
            omega
          · rw [if_neg hm] at hq
            rw [if_neg (by omega)]
            by_cases ht : Go.Proofs.YtialpofiagiclaaDoor.tk t m [124] = true
            · rw [if_pos ht] at hq ⊢
              have ih := h.qF A f g (m + 1) (P ++ [L ++ [x]]) [] B (by omega) (by rw [List.length_append, List.length_singleton]; omega) hPx rfl (by simp) hq (by omega)
              rw [← Nat.add_assoc, ← List.append_assoc] at ih
              exact ih
            · rw [if_neg ht] at hq ⊢
              exact h.qF A f g m P (L ++ [x]) B hb.2 h8 hP hLx hL11 hq (by omega)
theorem qry_join {s t : ByteArray} {A B : List (List Hp)} (hA : qryO s = .ok A) (hB : qryO t = .ok B) :
    (A.length + B.length ≤ 8 → qryO (s ++ ⟨#[124]⟩ ++ t) = .ok (A ++ B)) ∧ (8 < A.length + B.length → ∃ q, qryO (s ++ ⟨#[124]⟩ ++ t) = .error (3, q)) := by
  have e : (s ++ ⟨#[124]⟩ ++ t).data.toList = s.data.toList ++ (124 :: t.data.toList) := by
    rw [ByteArray.data_append, ByteArray.data_append, Array.toList_append, Array.toList_append, List.append_assoc]; rfl
  generalize s ++ ⟨#[124]⟩ ++ t = U at *
  have hp : Pre U s := ⟨_, e⟩
  have hs : Suf U t (s.size + 1) := ⟨s.data.toList ++ [124], by rw [e]; simp, by simp⟩
  obtain ⟨g', hg, e2⟩ := hp.qF (s.size + 1) (U.size + 1) 0 [] [] A (Nat.zero_le _) hA (by omega)
  have hr := (right_sml (qry_right hA)).2.1
  have h3 := hs.qF A (t.size + 1) g' 0 [] [] B (Nat.zero_le _) (by simpa using hr) rfl rfl (by simp) hB (by omega)
  rw [Nat.add_zero, List.append_nil] at h3
  unfold qryO
  rw [e2]
  exact h3
end Go.Proofs.YtialpofiagiclaaDoor
