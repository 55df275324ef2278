/- What a rule's names mean: the math of LookupOwn. -/
import Derived.Test.YtihcmneidbjmlaaFirA
namespace Go.Proofs.Ytihcmneidbjmlaa
set_option linter.unusedVariables false
open Go.RowKit Go.Sort

theorem ok_colon {k : Nat} {c : Int} (h : okAt k c = true) : c ≠ 58 := by
  intro e; subst e
  revert h
  unfold okAt
  rw [show isLet 58 = false by decide, show isDig 58 = false by decide]
  simp
theorem allAt_get {s : ByteArray} : ∀ {n k : Nat}, allAt s n = true → k < n → okAt k (byt s k) = true
  | 0, k, _, h => by omega
  | n + 1, k, ha, h => by
    unfold allAt at ha
    rw [Bool.and_eq_true] at ha
    by_cases e : k = n
    · subst e; exact ha.2
    · exact allAt_get ha.1 (by omega)
theorem word_colon {a : ByteArray} (h : wordB a = true) : ∀ x ∈ a.data.toList, x ≠ (58 : UInt8) := by
  intro x hx e
  subst e
  obtain ⟨k, hk, hx⟩ := List.getElem_of_mem hx
  have hk' : k < a.size := by simpa using hk
  unfold wordB at h
  rw [Bool.and_eq_true, Bool.and_eq_true] at h
  have h1 := ok_colon (allAt_get h.1.2 hk')
  apply h1
  unfold byt
  rw [List.getD_eq_getElem?_getD, List.getElem?_eq_getElem hk, hx]; rfl
theorem noOcc_pre {A C : List UInt8} (h : ∀ x ∈ A, x ≠ (58 : UInt8)) : Lib.NoOcc (A ++ C) [58, 58] A.length := fun j hj => by
  have hd : (A ++ C).drop j = A[j] :: (A.drop (j + 1) ++ C) := by
    rw [List.drop_append_of_le_length (by omega), List.drop_eq_getElem_cons hj]; rfl
  unfold Lib.occAt
  rw [hd]
  have hne := h A[j] (List.getElem_mem hj)
  have : ((58 : UInt8) == A[j]) = false := by rw [beq_eq_false_iff_ne]; exact fun e => hne e.symm
  simp [List.isPrefixOf, this]
theorem cut_join {c a b : ByteArray} (hc : c.data.toList = a.data.toList ++ ([58, 58] ++ b.data.toList)) (h : wordB a = true) : cutS c = (a.data.toList, b.data.toList, true) := by
  have hn := noOcc_pre (C := [58, 58] ++ b.data.toList) (word_colon h)
  have ho : Lib.occAt (a.data.toList ++ ([58, 58] ++ b.data.toList)) [58, 58] a.data.toList.length = true := by
    unfold Lib.occAt; rw [List.drop_left]; simp [List.isPrefixOf]
  have hi := Lib.index_hit hn (by simp) ho
  rw [← hc] at hi
  rw [cutS_yes hi, hc]
  rw [List.take_left, ← List.append_assoc, show a.data.toList.length + 2 = (a.data.toList ++ [58, 58]).length by simp, List.drop_left]
theorem split_join {c a b : ByteArray} (hc : c.data.toList = a.data.toList ++ ([58, 58] ++ b.data.toList)) (h : wordB a = true) : splitM c = a ∧ splitR c = b ∧ splitB c = wordB b := by
  unfold splitM splitR splitB
  rw [cut_join hc h]
  simp only [ofL_self, if_true, h, Bool.true_and]
  exact ⟨trivial, trivial, trivial⟩
theorem split_lone {a : ByteArray} (h : wordB a = true) : splitM a = ⟨#[]⟩ ∧ splitR a = a ∧ splitB a = true := by
  have hn := noOcc_pre (C := []) (word_colon h)
  rw [List.append_nil] at hn
  have hi := Lib.index_past (s := a.data.toList) (sub := [58, 58]) (by simp) hn (by simp)
  unfold splitM splitR splitB
  rw [cutS_no hi]
  exact ⟨rfl, rfl, h⟩
theorem hasB_no {l : List ByteArray} {x : ByteArray} (h : hasB l x = false) : x ∉ l := by
  intro hm
  have : hasB l x = true := List.any_eq_true.2 ⟨x, hm, by simp⟩
  rw [this] at h; cases h
theorem hasB_cons (y : ByteArray) (l : List ByteArray) (x : ByteArray) : hasB (y :: l) x = ((y.toList == x.toList) || hasB l x) := rfl
theorem nmeO_new {L : List Tok} {no : List ByteArray} {k : Nat} {x : ByteArray} {k1 : Nat} (h : nmeO L no k = .ok (x, k1)) : hasB no x = false := by
  unfold nmeO at h
  split at h
  · split at h
    · cases h
    · rename_i hn
      injection h with h; injection h with h1 h2
      subst h1
      simpa using hn
  · cases h
theorem rulL_apart {L : List Tok} : ∀ (f : Nat) (R : List (ByteArray × Ex)) (k : Nat) (R' : List (ByteArray × Ex)), (R.map (·.1)).Nodup → rulL L f R k = .ok R' → (R'.map (·.1)).Nodup
  | 0, R, k, R', h, e => by
    unfold rulL at e
    injection e with e; subst e; exact h
  | f + 1, R, k, R', h, e => by
    unfold rulL at e
    split at e
    · injection e with e; subst e; exact h
    · cases hq : nmeO L (R.map (·.1)) k with
      | error x => simp [hq] at e
      | ok p =>
        obtain ⟨x, k1⟩ := p
        simp only [hq] at e
        split at e
        · cases e
        · cases hb : bodO L k1 with
          | error x => simp [hb] at e
          | ok p =>
            obtain ⟨y, k2⟩ := p
            simp only [hb] at e
            refine rulL_apart f _ k2 R' ?_ e
            have hnew := hasB_no (nmeO_new hq)
            rw [List.map_append, List.nodup_append]
            refine ⟨h, by simp, fun a ha b hb' => ?_⟩
            have : b = x := by simpa using hb'
            subst this
            exact fun hab => hnew (hab ▸ ha)
theorem hedO_word {L : List Tok} {m : Md} {k : Nat} (h : hedO L = .ok (m, k)) : wordB m.nm = true := by
  rw [hedO_q] at h
  split at h
  · unfold thenQ at h
    split at h
    · cases h
    · rename_i x k1 hx
      have hw := nmeO_word hx
      split at h
      · cases h
      · rename_i k2 _
        have h : hdT L x (impL L x (L.length + 1) [] k2) = .ok (m, k) := h
        cases hi : impL L x (L.length + 1) [] k2 with
        | error e => rw [hi] at h; cases h
        | ok p =>
          obtain ⟨im, k3⟩ := p
          rw [hi] at h
          have h : watO L x im k3 = .ok (m, k) := h
          rw [watO_q] at h
          split at h
          · cases hb : bodO L (k3 + 1) with
            | error e => rw [hb] at h; cases h
            | ok p =>
              obtain ⟨y, k4⟩ := p
              rw [hb] at h
              injection h with h; injection h with h1 h2; subst h1; exact hw
          · injection h with h; injection h with h1 h2; subst h1; exact hw
  · cases h
/-- The module's name is a word, its rules' names are apart. -/
def Apt (m : Md) : Prop := wordB m.nm = true ∧ (m.ru.map (·.1)).Nodup
theorem modO_apt {s : ByteArray} {m : Md} (h : modO s = .ok m) : Apt m := by
  unfold modO at h
  split at h
  · cases h
  · rename_i L _
    rw [modL_q] at h
    cases hh : hedO L with
    | error e => rw [hh] at h; cases h
    | ok p =>
      obtain ⟨m0, k⟩ := p
      rw [hh] at h
      have h : mdT m0 (rulL L (L.length + 1) [] k) = .ok m := h
      cases hr : rulL L (L.length + 1) [] k with
      | error e => rw [hr] at h; cases h
      | ok R =>
        rw [hr] at h
        injection h with h
        subst h
        exact ⟨show wordB m0.nm = true from hedO_word hh, rulL_apart _ _ _ _ (by simp) hr⟩
theorem prsF_apt {big : Bool} : ∀ {l : List ByteArray} {ML : List Md}, prsF big l = some ML → ∀ m ∈ ML, Apt m
  | [], ML, h => by
    unfold prsF at h
    injection h with h; subst h
    exact fun m hm => absurd hm List.not_mem_nil
  | t :: r, ML, h => by
    unfold prsF at h
    split at h
    · cases h
    · cases hm : modO t with
      | error e => simp [hm] at h
      | ok m =>
        simp only [hm] at h
        cases hr : prsF big r with
        | none => simp [hr] at h
        | some MR =>
          simp [hr] at h
          subst h
          intro y hy
          rcases List.mem_cons.1 hy with rfl | hy
          · exact modO_apt hm
          · exact prsF_apt hr y hy
/-- The modules' names are apart. -/
def Aps (ML : List Md) : Prop := ∀ (i k : Nat) (mi mk : Md), ML[i]? = some mi → ML[k]? = some mk → k < i → ¬ mi.nm = mk.nm
theorem idxF_eq {α : Type} (p : α → Bool) : ∀ (k0 : Nat) (l : List α) (k : Nat) (x : α), l[k]? = some x → p x = true → (∀ j y, j < k → l[j]? = some y → p y = false) → idxF p k0 l = ((k0 + k : Nat) : Int)
  | k0, [], k, x, h, _, _ => by simp at h
  | k0, y :: r, 0, x, h, hp, _ => by
    have : y = x := by simpa using h
    subst this
    unfold idxF
    rw [if_pos hp]; rfl
  | k0, y :: r, k + 1, x, h, hp, hb => by
    have h0 := hb 0 y (by omega) (by simp)
    unfold idxF
    rw [if_neg (by rw [h0]; simp), idxF_eq p (k0 + 1) r k x (by simpa using h) hp (fun j z hj hz => hb (j + 1) z (by omega) (by simpa using hz))]
    congr 1; omega
theorem ruleN_own {m : Md} (h : (m.ru.map (·.1)).Nodup) {k : Nat} {r : ByteArray × Ex} (hr : m.ru[k]? = some r) : ruleN m r.1 = (k : Int) := by
  have := idxF_eq (fun x : ByteArray × Ex => x.1.toList == r.1.toList) 0 m.ru k r hr (by simp) (fun j y hj hy => by
    rw [beq_eq_false_iff_ne]
    intro e
    have e2 := eq_toL e
    have hk := (List.getElem?_eq_some_iff.1 hr).1
    have h1 : (m.ru.map (·.1))[j]'(by simp; omega) = y.1 := by
      rw [List.getElem_map]; rw [(List.getElem?_eq_some_iff.1 hy).2]
    have h2 : (m.ru.map (·.1))[k]'(by simp; omega) = r.1 := by
      rw [List.getElem_map]; rw [(List.getElem?_eq_some_iff.1 hr).2]
    exact List.pairwise_iff_getElem.1 h j k (by simp; omega) (by simp; omega) hj (h1.trans (e2.trans h2.symm)))
  rw [Nat.zero_add] at this
  exact this
theorem findN_own {ML : List Md} (h : Aps ML) {i : Nat} {m : Md} (hm : ML[i]? = some m) : findN ML m.nm = (i : Int) := by
  have := idxF_eq (fun x : Md => x.nm.toList == m.nm.toList) 0 ML i m hm (by simp) (fun j y hj hy => by
    rw [beq_eq_false_iff_ne]
    intro e
    exact h i j m y hm hy hj (eq_toL e).symm)
  rw [Nat.zero_add] at this
  exact this
theorem Aps.ne {ML : List Md} (h : Aps ML) {i j : Nat} {mi mj : Md} (hi : ML[i]? = some mi) (hj : ML[j]? = some mj) (hij : i ≠ j) : ¬ mi.nm = mj.nm := by
  rcases Nat.lt_or_gt_of_ne hij with hlt | hgt
  · exact fun e => h j i mj mi hj hi hlt e.symm
  · exact h i j mi mj hi hj hgt
theorem word_ne {x : ByteArray} (h : wordB x = true) : (x.toList == ([] : List UInt8)) = false := by
  cases hx : x.toList == ([] : List UInt8) with
  | false => rfl
  | true =>
    have e : x.toList = [] := by simpa using hx
    unfold wordB resB at h
    rw [e] at h
    simp at h
theorem word_size {x : ByteArray} (h : wordB x = true) : x.size ≤ 12 := by
  unfold wordB at h
  rw [Bool.and_eq_true] at h
  have := of_decide_eq_true h.2
  omega
theorem offB_own {x : ByteArray} : offB x x = false := by unfold offB; simp
theorem offB_far {x y : ByteArray} (hx : wordB x = true) (h : ¬ x = y) : offB x y = true := by
  unfold offB
  rw [word_ne hx, show (y.toList == x.toList) = false from by rw [beq_eq_false_iff_ne]; exact fun e => h (eq_toL e).symm]
  rfl
theorem own_lone {ML : List Md} {i k : Nat} {m : Md} {r : ByteArray × Ex} (hw : Wds m) (ha : Apt m) (hm : ML[i]? = some m) (hr : m.ru[k]? = some r) : resO ML (i : Int) r.1 = ((i : Int), (k : Int), true) := by
  have hwr := hw r (List.mem_of_getElem? hr)
  obtain ⟨h1, h2, h3⟩ := split_lone hwr
  have hi := (List.getElem?_eq_some_iff.1 hm).1
  unfold resO
  rw [h1, h2, h3, if_pos ⟨rfl, by omega, by omega⟩, Int.toNat_natCast, hm]
  simp only []
  unfold seenL
  have ho : offB (⟨#[]⟩ : ByteArray) m.nm = false := offB_none m.nm
  rw [resF_cons hm, ho, if_neg (by decide), ruleN_own ha.2 hr, if_pos (by omega)]
theorem resF_own {ML : List Md} (hA : Aps ML) {i k : Nat} {m : Md} {r : ByteArray × Ex} (ha : Apt m) (hm : ML[i]? = some m) (hr : m.ru[k]? = some r) : ∀ im, resF ML m.nm r.1 ((im.map (findN ML)).filter (fun k => decide (0 ≤ k))) = if hasB im m.nm = true then ((i : Int), (k : Int), true) else (0, 0, false)
  | [] => rfl
  | x :: rs => by
    have ih := resF_own hA ha hm hr rs
    rw [List.map_cons, hasB_cons]
    by_cases hx : x = m.nm
    · subst hx
      have hf := findN_own hA hm
      rw [List.filter_cons_of_pos (by rw [hf]; simp), hf, resF_cons hm, offB_own, if_neg (by decide), ruleN_own ha.2 hr, if_pos (by omega), if_pos (by simp)]
    · have hxb : (x.toList == m.nm.toList) = false := by rw [beq_eq_false_iff_ne]; exact fun e => hx (eq_toL e)
      rw [hxb, Bool.false_or]
      by_cases h : 0 ≤ findN ML x
      · rw [List.filter_cons_of_pos (by simpa using h)]
        obtain ⟨y, h1, h2⟩ := find_at h
        conv => lhs; unfold resF
        rw [h1]
        simp only []
        rw [offB_far ha.1 (fun e => hx (eq_toL (by rw [e, h2]))), if_pos rfl, ih]
      · rw [List.filter_cons_of_neg (by simpa using h), ih]
theorem own_both {ML : List Md} (hA : Aps ML) {i j k : Nat} {m mj : Md} {r : ByteArray × Ex} {c : ByteArray} (hw : Wds m) (ha : Apt m) (hm : ML[i]? = some m) (hj : ML[j]? = some mj) (hr : m.ru[k]? = some r) (hc : c.data.toList = m.nm.data.toList ++ ([58, 58] ++ r.1.data.toList)) : resO ML (j : Int) c = if (j == i || hasB mj.im m.nm) = true then ((i : Int), (k : Int), true) else (0, 0, false) := by
  have hwr := hw r (List.mem_of_getElem? hr)
  obtain ⟨h1, h2, h3⟩ := split_join hc ha.1
  have hjl := (List.getElem?_eq_some_iff.1 hj).1
  unfold resO
  rw [h1, h2, h3, hwr, if_pos ⟨rfl, by omega, by omega⟩, Int.toNat_natCast, hj]
  simp only []
  unfold seenL
  rw [resF_cons hj]
  by_cases hji : j = i
  · subst hji
    obtain rfl : mj = m := by rw [hm] at hj; injection hj with hj; exact hj.symm
    rw [offB_own, if_neg (by decide), ruleN_own ha.2 hr, if_pos (by omega), if_pos (by simp)]
  · have hne := hA.ne hm hj (fun e => hji e.symm)
    rw [offB_far ha.1 hne, if_pos rfl, resF_own hA ha hm hr]
    rw [show (j == i) = false from by rw [beq_eq_false_iff_ne]; exact hji, Bool.false_or]
end Go.Proofs.Ytihcmneidbjmlaa
