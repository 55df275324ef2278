/- The walks of the document's answers of layer 2. -/
import Derived.Test.YtinkgidncdjapabChecked
import Derived.Test.YtinkgidncdjapabUtf
import Derived.Test.YtinkgidncdjapabQuiet
import Derived.WalkLawsBesides
import Derived.Handy
import Derived.KernelRfl
namespace Go.Proofs.Ytinkgidncdjapab
set_option linter.unusedVariables false
open Go.RowKit Go.Sort Go.PlainAid

set_option maxHeartbeats 400000 in
theorem rright_any (n : Int) (w : World) : Calls Try.prog 59 #[.int .i64 n] w fun e w' => e = .returned (.bool (rightB n)) ∧ w = w' := by
  by_cases h1 : 0 ≤ n <;> by_cases h2 : n ≤ 1114111 <;> by_cases h3 : n < 55296 <;> by_cases h4 : 57343 < n
  all_goals first
    | (exfalso; omega)
    | (have H := Lib.hid (show rightB n = (decide (0 ≤ n) && decide (n ≤ 1114111) && (decide (n < 55296) || decide (57343 < n))) from rfl)
       go_enter Try.func59, Try.ntmps59
       go_wp2
       go_ret
       exact ⟨ret_bool (by rw [H.out]; simp; omega), rfl⟩)

set_option maxHeartbeats 800000 in
theorem rencode_any (n : Int) (w : World) : Calls Try.prog 56 #[.int .i64 n] w fun e w' => e = .returned (.tuple #[.string (encS n), .bool (rightB n)]) ∧ Below w.heap.size w w' := by
  obtain ⟨v, hv⟩ : ∃ v, rightB n = v := ⟨_, rfl⟩
  have R := rright_any n
  rw [hv] at R ⊢
  have R' := Lib.hid R
  clear R
  cases v
  · have HE := Lib.hid (show encS n = ⟨#[]⟩ by unfold encS; rw [hv]; rfl)
    clear hv
    go_enter Try.func56, Try.ntmps56
    go_wp2_with fail
    refine (R'.out _).mono ?_
    rintro e w1 ⟨rfl, rfl⟩
    go_wp2_with fail
    go_ret2
    exact ⟨ret_tup HE.out.symm, Below.refl _ _⟩
  · have HE : encS n = strOfNums (encL n) := by unfold encS; rw [hv]; rfl
    rw [rightB_iff] at hv
    obtain ⟨h0, h1, -⟩ := hv
    by_cases c1 : n < 128
    · rw [encL, if_pos c1] at HE
      have H := Lib.hid HE
      have K := conv_lit [n]
      simp only [List.map_cons, List.map_nil, List.length_cons, List.length_nil, Nat.zero_add] at K
      clear HE
      go_enter Try.func56, Try.ntmps56
      go_wp2_with fail
      refine (R'.out _).mono ?_
      rintro e w1 ⟨rfl, rfl⟩
      go_wp2_with fail
      go_ret2
      exact ⟨ret_tup H.out.symm, by go_grown⟩
    · by_cases c2 : n < 2048
      · rw [encL, if_neg c1, if_pos c2] at HE
        have H := Lib.hid HE
        have e1 : bits .or .i64 192 (n / 64) = 192 + n / 64 := or64_192 _ (by omega) (by omega)
        have a1 := and63 n h0 (by omega)
        have o1 := or64_128 (n % 64) (by omega) (by omega)
        have K := conv_lit [192 + n / 64, 128 + n % 64]
        simp only [List.map_cons, List.map_nil, List.length_cons, List.length_nil, Nat.zero_add] at K
        clear HE
        go_enter Try.func56, Try.ntmps56
        go_wp2_with fail
        refine (R'.out _).mono ?_
        rintro e w1 ⟨rfl, rfl⟩
        go_wp2_with fail
        go_ret2
        exact ⟨ret_tup H.out.symm, by go_grown⟩
      · by_cases c3 : n < 65536
        · rw [encL, if_neg c1, if_neg c2, if_pos c3] at HE
          have H := Lib.hid HE
          have e1 : bits .or .i64 224 (n / 4096) = 224 + n / 4096 := or64_224 _ (by omega) (by omega)
          have a1 := and63 n h0 (by omega)
          have o1 := or64_128 (n % 64) (by omega) (by omega)
          have a2 := and63 (n / 64) (by omega) (by omega)
          have o2 := or64_128 (n / 64 % 64) (by omega) (by omega)
          have K := conv_lit [224 + n / 4096, 128 + n / 64 % 64, 128 + n % 64]
          simp only [List.map_cons, List.map_nil, List.length_cons, List.length_nil, Nat.zero_add] at K
          clear HE
          go_enter Try.func56, Try.ntmps56
          go_wp2_with fail
          refine (R'.out _).mono ?_
          rintro e w1 ⟨rfl, rfl⟩
          go_wp2_with fail
          go_ret2
          exact ⟨ret_tup H.out.symm, by go_grown⟩
        · rw [encL, if_neg c1, if_neg c2, if_neg c3] at HE
          have H := Lib.hid HE
          have e1 : bits .or .i64 240 (n / 262144) = 240 + n / 262144 := or64_240 _ (by omega) (by omega)
          have a1 := and63 n h0 (by omega)
          have o1 := or64_128 (n % 64) (by omega) (by omega)
          have a2 := and63 (n / 64) (by omega) (by omega)
          have o2 := or64_128 (n / 64 % 64) (by omega) (by omega)
          have a3 := and63 (n / 4096) (by omega) (by omega)
          have o3 := or64_128 (n / 4096 % 64) (by omega) (by omega)
          have K := conv_lit [240 + n / 262144, 128 + n / 4096 % 64, 128 + n / 64 % 64, 128 + n % 64]
          simp only [List.map_cons, List.map_nil, List.length_cons, List.length_nil, Nat.zero_add] at K
          clear HE
          go_enter Try.func56, Try.ntmps56
          go_wp2_with fail
          refine (R'.out _).mono ?_
          rintro e w1 ⟨rfl, rfl⟩
          go_wp2_with fail
          go_ret2
          exact ⟨ret_tup H.out.symm, by go_grown⟩
end Go.Proofs.Ytinkgidncdjapab
