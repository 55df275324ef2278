/- The program's query parser: a kind, a name, or neither. -/
import Derived.Test.YtialpofiagiclaaDoorQpA
import Derived.Test.YtialpofiagiclaaDoorQryW
namespace Go.Proofs.YtialpofiagiclaaDoor
set_option linter.unusedVariables false
set_option maxRecDepth 1000000
open Go.RowKit Go.Sort

set_option maxHeartbeats 400000 in
theorem qdigit_any (c : Int) (w : World) : Calls Tryd.prog 51 #[.int .u8 c] w fun e w' => e = .returned (.bool (isDig c)) ∧ w' = w := by
  have H := Lib.hid (show isDig c = (decide (48 ≤ c) && decide (c ≤ 57)) from rfl)
  by_cases h1 : 48 ≤ c <;> by_cases h2 : c ≤ 57
  all_goals first
    | (exfalso; omega)
    | (go_enter Tryd.func51, Tryd.ntmps51
       go_wp2
       go_ret
       exact ⟨ret_bool (by rw [H.out]; simp; omega), rfl⟩)
theorem okAt_1 (c : Int) : okAt 1 c = (isLet c || isDig c || c == 95) := by
  unfold okAt
  cases isLet c <;> cases isDig c <;> simp
set_option maxRecDepth 100000 in
set_option maxHeartbeats 3200000 in
theorem ofname_any (c : Int) (w : World) : Calls Tryd.prog 49 #[.int .u8 c] w fun e w' => e = .returned (.bool (okAt 1 c)) ∧ w' = w := by
  have H := Lib.hid (show okAt 1 c = (decide (97 ≤ c) && decide (c ≤ 122) || decide (65 ≤ c) && decide (c ≤ 90) || (decide (48 ≤ c) && decide (c ≤ 57)) || c == 95) from okAt_1 c)
  obtain ⟨r, hr⟩ : ∃ r, okAt 1 c = r := ⟨_, rfl⟩
  rw [hr] at H ⊢
  clear hr
  by_cases h7 : c = 95
  · subst h7
    go_enter Tryd.func49, Tryd.ntmps49
    go_wp2
    go_ret
    exact ⟨ret_bool (by rw [H.out]; rfl), rfl⟩
  · have h8 : (c == 95) = false := by simpa using h7
    by_cases h1 : 97 ≤ c <;> by_cases h2 : c ≤ 122 <;> by_cases h3 : 65 ≤ c <;> by_cases h4 : c ≤ 90 <;> by_cases h5 : 48 ≤ c <;> by_cases h6 : c ≤ 57
    all_goals first
      | (exfalso; omega)
      | (go_enter Tryd.func49, Tryd.ntmps49
         go_wp2
         all_goals go_ret
         all_goals exact ⟨ret_bool (by rw [H.out]; simp [h1, h2, h3, h4, h5, h6, h8]), rfl⟩)
theorem bs_at (s : ByteArray) (q : Nat) : (⟨#[97]⟩ ++ s.extract q (q + 1) : ByteArray).data.toList = 97 :: ((s.data.toList.drop q).take 1) := by
  rw [ByteArray.data_append, ByteArray.data_extract, Array.toList_append, Array.toList_extract]
  simp
theorem inW_ok {s : ByteArray} {q : Nat} (hq : q < s.size) : inW s q = okAt 1 (byt s q) := by
  have hq' : q < s.data.toList.length := by simpa using hq
  have e : (⟨#[97]⟩ ++ s.extract q (q + 1) : ByteArray) = ⟨#[97, s.data.toList[q]]⟩ := by
    apply ByteArray.ext
    apply Array.toList_inj.1
    rw [bs_at, List.drop_eq_getElem_cons hq']
    rfl
  unfold inW
  rw [e]
  have hb : byt s q = ((s.data.toList[q]).toNat : Int) := by
    unfold byt
    rw [List.getD_eq_getElem?_getD, List.getElem?_eq_getElem hq']; rfl
  rw [hb]
  have key : ∀ c : UInt8, wordB ⟨#[97, c]⟩ = okAt 1 (c.toNat : Int) := by
    intro c
    have hf : ∀ n : Fin 256, wordB ⟨#[97, UInt8.ofNat n.val]⟩ = okAt 1 (((UInt8.ofNat n.val).toNat : Nat) : Int) := by decide +kernel
    have := hf ⟨c.toNat, c.toNat_lt⟩
    simpa using this
  exact key _
theorem star_kw {s : ByteArray} {k : Nat} (h : tk s k [42] = true) : kwF s k 5 1 = 0 := by
  have no : ∀ j, 1 ≤ j → j ≤ 5 → tk s k (kwL j) = false := fun j h1 h5 => by
    unfold tk at h ⊢
    have hj : j = 1 ∨ j = 2 ∨ j = 3 ∨ j = 4 ∨ j = 5 := by omega
    cases hd : s.data.toList.drop k with
    | nil => rw [hd] at h; cases h
    | cons a r =>
      rw [hd] at h
      simp at h
      subst h
      rcases hj with rfl | rfl | rfl | rfl | rfl <;> rfl
  unfold kwF
  rw [no 1 (by omega) (by omega), if_neg (by decide)]
  unfold kwF
  rw [no 2 (by omega) (by omega), if_neg (by decide)]
  unfold kwF
  rw [no 3 (by omega) (by omega), if_neg (by decide)]
  unfold kwF
  rw [no 4 (by omega) (by omega), if_neg (by decide)]
  unfold kwF
  rw [no 5 (by omega) (by omega), if_neg (by decide)]
  rfl
/-- The word of a kind. -/
def kdS (n : Int) : ByteArray := if n = 1 then kwS 1 else if n = 2 then kwS 2 else if n = 3 then kwS 3 else if n = 4 then kwS 4 else if n = 5 then kwS 5 else ⟨#[42]⟩
set_option maxHeartbeats 800000 in
theorem kindword_any (n : Int) (w : World) : Calls Tryd.prog 40 #[.int .i64 n] w fun e w' => e = .returned (.string (kdS n)) ∧ w' = w := by
  have H := Lib.hid (show kdS n = if n = 1 then kwS 1 else if n = 2 then kwS 2 else if n = 3 then kwS 3 else if n = 4 then kwS 4 else if n = 5 then kwS 5 else ⟨#[42]⟩ from rfl)
  obtain ⟨r, hr⟩ : ∃ r, kdS n = r := ⟨_, rfl⟩
  rw [hr] at H ⊢
  clear hr
  by_cases h1 : n = 1
  · subst h1
    go_enter Tryd.func40, Tryd.ntmps40
    go_wp2
    go_ret
    exact ⟨by rw [H.out]; rfl, rfl⟩
  · by_cases h2 : n = 2
    · subst h2
      go_enter Tryd.func40, Tryd.ntmps40
      go_wp2
      go_ret
      exact ⟨by rw [H.out]; rfl, rfl⟩
    · by_cases h3 : n = 3
      · subst h3
        go_enter Tryd.func40, Tryd.ntmps40
        go_wp2
        go_ret
        exact ⟨by rw [H.out]; rfl, rfl⟩
      · by_cases h4 : n = 4
        · subst h4
          go_enter Tryd.func40, Tryd.ntmps40
          go_wp2
          go_ret
          exact ⟨by rw [H.out]; rfl, rfl⟩
        · by_cases h5 : n = 5
          · subst h5
            go_enter Tryd.func40, Tryd.ntmps40
            go_wp2
            go_ret
            exact ⟨by rw [H.out]; rfl, rfl⟩
          · rw [if_neg h1, if_neg h2, if_neg h3, if_neg h4, if_neg h5] at H
            go_enter Tryd.func40, Tryd.ntmps40
            go_wp2
            go_ret
            exact ⟨by rw [H.out]; rfl, rfl⟩
theorem kdS_j {j : Nat} (h1 : 1 ≤ j) (h5 : j ≤ 5) : kdS (j : Int) = kwS j := by
  have hj : j = 1 ∨ j = 2 ∨ j = 3 ∨ j = 4 ∨ j = 5 := by omega
  rcases hj with rfl | rfl | rfl | rfl | rfl <;> rfl
end Go.Proofs.YtialpofiagiclaaDoor
