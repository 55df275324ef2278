/- What a name alone means: the math of LookupFirst. -/
import Derived.Test.YtihcmneidbjmlaaLkG
namespace Go.Proofs.Ytihcmneidbjmlaa
set_option linter.unusedVariables false
open Go.RowKit Go.Sort

theorem eq_toL {a b : ByteArray} (h : a.toList = b.toList) : a = b := by
  rw [ByteArray.toList_eq, ByteArray.toList_eq] at h
  exact ByteArray.ext (Array.toList_inj.1 h)
/-- All rules' names are words. -/
def Wds (m : Md) : Prop := ∀ r ∈ m.ru, wordB r.1 = true
theorem nmeO_word {L : List Tok} {no : List ByteArray} {k : Nat} {x : ByteArray} {k1 : Nat} (h : nmeO L no k = .ok (x, k1)) : wordB x = true := by
  unfold nmeO at h
  split at h
  · rename_i hc
    split at h
    · cases h
    · injection h with h; injection h with h1 h2
      subst h1
      rw [Bool.and_eq_true] at hc
      exact hc.2
  · cases h
theorem rulL_word {L : List Tok} : ∀ (f : Nat) (R : List (ByteArray × Ex)) (k : Nat) (R' : List (ByteArray × Ex)), (∀ r ∈ R, wordB r.1 = true) → rulL L f R k = .ok R' → ∀ r ∈ R', wordB r.1 = true
  | 0, R, k, R', h, e => by
    unfold rulL at e
    injection e with e; subst e; exact h
  | f + 1, R, k, R', h, e => by
    unfold rulL at e
    split at e
    · injection e with e; subst e; exact h
    · cases hq : nmeO L (R.map (·.1)) k with
      | error x => simp [hq] at e
      | ok p =>
        obtain ⟨x, k1⟩ := p
        simp only [hq] at e
        split at e
        · cases e
        · cases hb : bodO L k1 with
          | error x => simp [hb] at e
          | ok p =>
            obtain ⟨y, k2⟩ := p
            simp only [hb] at e
            refine rulL_word f _ k2 R' (fun r hr => ?_) e
            rcases List.mem_append.1 hr with hr | hr
            · exact h r hr
            · rw [List.mem_singleton] at hr
              subst hr
              exact nmeO_word hq
theorem modO_word {s : ByteArray} {m : Md} (h : modO s = .ok m) : Wds m := by
  unfold modO at h
  split at h
  · cases h
  · rename_i L _
    rw [modL_q] at h
    cases hh : hedO L with
    | error e => rw [hh] at h; cases h
    | ok p =>
      obtain ⟨m0, k⟩ := p
      rw [hh] at h
      have h : mdT m0 (rulL L (L.length + 1) [] k) = .ok m := h
      cases hr : rulL L (L.length + 1) [] k with
      | error e => rw [hr] at h; cases h
      | ok R =>
        rw [hr] at h
        injection h with h
        subst h
        have h2 := rulL_word _ _ _ _ (fun r hr => absurd hr List.not_mem_nil) hr
        exact h2
theorem prsF_word {big : Bool} : ∀ {l : List ByteArray} {ML : List Md}, prsF big l = some ML → ∀ m ∈ ML, Wds m
  | [], ML, h => by
    unfold prsF at h
    injection h with h; subst h
    exact fun m hm => absurd hm List.not_mem_nil
  | t :: r, ML, h => by
    unfold prsF at h
    split at h
    · cases h
    · cases hm : modO t with
      | error e => simp [hm] at h
      | ok m =>
        simp only [hm] at h
        cases hr : prsF big r with
        | none => simp [hr] at h
        | some MR =>
          simp [hr] at h
          subst h
          intro y hy
          rcases List.mem_cons.1 hy with rfl | hy
          · exact modO_word hm
          · exact prsF_word hr y hy
theorem ruleN_word {m : Md} {s : ByteArray} (hw : Wds m) (hs : wordB s = false) : ¬ 0 ≤ ruleN m s := by
  intro h
  obtain ⟨x, h1, h2⟩ := idxF_at (fun r : ByteArray × Ex => r.1.toList == s.toList) 0 m.ru h
  have h3 := hw x (List.mem_of_getElem? h1)
  have h4 : x.1 = s := eq_toL (by simpa using h2)
  rw [h4, hs] at h3
  cases h3
/-- Where in module at (a number) a rule is. -/
def ruleAt (l : List Md) (k : Int) (s : ByteArray) : Int := match l[k.toNat]? with
  | none => -1
  | some m => ruleN m s
theorem ruleAt_eq {l : List Md} {k : Int} {m : Md} (s : ByteArray) (h : l[k.toNat]? = some m) : ruleAt l k s = ruleN m s := by
  unfold ruleAt; rw [h]
/-- The first of the imports that has the name. -/
def wantL (l : List Md) (s : ByteArray) : List ByteArray → Int
  | [] => -1
  | x :: r => if 0 ≤ findN l x ∧ 0 ≤ ruleAt l (findN l x) s then findN l x else wantL l s r
theorem wantL_cons (l : List Md) (s x : ByteArray) (r : List ByteArray) : wantL l s (x :: r) = if 0 ≤ findN l x ∧ 0 ≤ ruleAt l (findN l x) s then findN l x else wantL l s r := rfl
def wantM (l : List Md) (s : ByteArray) (m : Md) (i : Int) : Int := if 0 ≤ ruleN m s then i else wantL l s m.im
def wantR (l : List Md) (s : ByteArray) (k : Int) : Rv := if 0 ≤ k then (k, ruleAt l k s, true) else (0, 0, false)
theorem offB_none (nm : ByteArray) : offB (ofL []) nm = false := by
  unfold offB
  rw [show ((ofL []).toList == ([] : List UInt8)) = true from by decide +kernel]
  rfl
theorem wantL_bd (l : List Md) (s : ByteArray) : ∀ im, wantL l s im = -1 ∨ (0 ≤ wantL l s im ∧ wantL l s im < l.length)
  | [] => .inl rfl
  | x :: r => by
    unfold wantL
    split
    · rename_i h
      have hb := idxF_bd (fun m : Md => m.nm.toList == x.toList) 0 l
      have h0 : 0 ≤ findN l x := h.1
      rcases hb with h5 | h5
      · have h5 : findN l x = -1 := h5
        omega
      · have h7 : findN l x < ((0 : Nat) : Int) + l.length := h5.2
        exact .inr ⟨h0, by omega⟩
    · exact wantL_bd l s r
theorem resF_want (l : List Md) (s : ByteArray) : ∀ im, resF l (ofL []) s ((im.map (findN l)).filter (fun k => decide (0 ≤ k))) = wantR l s (wantL l s im)
  | [] => rfl
  | x :: r => by
    have ih := resF_want l s r
    rw [List.map_cons]
    by_cases h : 0 ≤ findN l x
    · rw [List.filter_cons_of_pos (by simpa using h)]
      obtain ⟨m, h1, h2⟩ := find_at h
      conv => lhs; unfold resF
      rw [h1]
      simp only []
      rw [offB_none, if_neg (by decide), ih]
      rw [wantL_cons]
      by_cases hq : 0 ≤ ruleN m s
      · rw [if_pos hq, if_pos ⟨h, by rw [ruleAt_eq s h1]; exact hq⟩]
        unfold wantR
        rw [if_pos h, ruleAt_eq s h1]
      · rw [if_neg hq, if_neg (by rw [ruleAt_eq s h1]; exact fun hh => hq hh.2)]
    · rw [List.filter_cons_of_neg (by simpa using h), ih]
      rw [wantL_cons]
      rw [if_neg (fun hh => h hh.1)]
theorem wantL_word {l : List Md} {s : ByteArray} (hw : ∀ m ∈ l, Wds m) (hs : wordB s = false) : ∀ im, wantL l s im = -1
  | [] => rfl
  | x :: r => by
    unfold wantL
    rw [if_neg, wantL_word hw hs r]
    intro hh
    obtain ⟨m, h1, h2⟩ := find_at hh.1
    have h3 := hh.2
    rw [ruleAt_eq s h1] at h3
    exact ruleN_word (hw m (List.mem_of_getElem? h1)) hs h3
/-- A name with no cut in it: what it means. -/
theorem resO_want {l : List Md} {s : ByteArray} {i : Nat} {m : Md} (hw : ∀ m ∈ l, Wds m) (hm : l[i]? = some m) (hc : Lib.index s.data.toList [58, 58] = -1) : resO l (i : Int) s = wantR l s (wantM l s m (i : Int)) := by
  have hcut := cutS_no hc
  have hi := (List.getElem?_eq_some_iff.1 hm).1
  have hB : splitB s = wordB s := by unfold splitB; rw [hcut]; simp
  have hM : splitM s = ofL [] := by unfold splitM; rw [hcut]; simp
  have hR : splitR s = s := by unfold splitR; rw [hcut]; simp
  unfold resO
  rw [hB, hM, hR]
  cases hb : wordB s with
  | true =>
    rw [if_pos ⟨rfl, by omega, by omega⟩, Int.toNat_natCast, hm]
    simp only []
    unfold seenL
    rw [resF_cons hm, offB_none, if_neg (by decide), resF_want]
    unfold wantM
    by_cases hq : 0 ≤ ruleN m s
    · rw [if_pos hq, if_pos hq]
      unfold wantR
      rw [if_pos (by omega), ruleAt_eq s (by rw [Int.toNat_natCast]; exact hm)]
    · rw [if_neg hq, if_neg hq]
  | false =>
    rw [if_neg (by simp)]
    unfold wantM
    rw [if_neg (ruleN_word (hw m (List.mem_of_getElem? hm)) hb), wantL_word hw hb]
    rfl
end Go.Proofs.Ytihcmneidbjmlaa
