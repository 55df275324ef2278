/- The walks of layer 2's functions. -/
import Derived.Test.YtinkgidncdjapabChecked
import Derived.Test.YtinkgidncdjapabUtfMath
import Derived.Test.YtinkgidncdjapabQuiet
import Derived.WalkLawsBesides
import Derived.Handy
import Derived.KernelRfl
namespace Go.Proofs.Ytinkgidncdjapab
set_option linter.unusedVariables false
open Go.RowKit Go.Sort Go.PlainAid

/-- Bytes that the call has laid itself, as a string. -/
theorem conv_lit (xs : List Int) (w : World) : (convert 52 9 (.slice (some ⟨w.heap.size, 0, none⟩) xs.length xs.length)).run Try.prog (w.alloc (.cells (xs.map (Value.int .u8)).toArray 5)) = .ok (.string (strOfNums xs)) (w.alloc (.cells (xs.map (Value.int .u8)).toArray 5)) := by
  refine run_convert_bytes_arg _ 52 5 Try.underlying52 Try.underlying5 w.heap.size 0 xs.length xs.length xs rfl (fun i hi => ?_) 9 Try.underlying9
  rw [Nat.zero_add, (Own.fresh w 5 (xs.map (Value.int .u8))).cell i]
  simp [List.getElem?_eq_getElem hi]

set_option maxHeartbeats 400000 in
theorem right_any (n : Int) (w : World) : Calls Try.prog 57 #[.int .i64 n] w fun e w' => e = .returned (.bool (rightB n)) ∧ w = w' := by
  by_cases h1 : 0 ≤ n <;> by_cases h2 : n ≤ 1114111 <;> by_cases h3 : n < 55296 <;> by_cases h4 : 57343 < n
  all_goals first
    | (exfalso; omega)
    | (have H := Lib.hid (show rightB n = (decide (0 ≤ n) && decide (n ≤ 1114111) && (decide (n < 55296) || decide (57343 < n))) from rfl)
       go_enter Try.func57, Try.ntmps57
       go_wp2
       go_ret
       exact ⟨ret_bool (by rw [H.out]; simp; omega), rfl⟩)

set_option maxHeartbeats 400000 in
theorem behind_any (n : Int) (h0 : 0 ≤ n) (h1 : n ≤ 9223372036854775807) (w : World) : Calls Try.prog 58 #[.int .i64 n] w fun e w' => e = .returned (.int .u8 (128 + n % 64)) ∧ w = w' := by
  have e1 := and63 n h0 h1
  have H := Lib.hid (or8_128 (n % 64) (by omega) (by omega))
  have e3 : n % 64 % 256 = n % 64 := by omega
  generalize n % 64 = m at *
  clear h0 h1
  go_enter Try.func58, Try.ntmps58
  go_wp2
  go_ret
  exact ⟨ret_int H.out, rfl⟩


theorem ret_tup {a b : ByteArray} {x : Bool} (h : a = b) : Ending.returned (.tuple #[.string a, .bool x]) = .returned (.tuple #[.string b, .bool x]) := by rw [h]

set_option maxHeartbeats 800000 in
theorem encode_any (n : Int) (w : World) : Calls Try.prog 54 #[.int .i64 n] w fun e w' => e = .returned (.tuple #[.string (encS n), .bool (rightB n)]) ∧ Below w.heap.size w w' := by
  obtain ⟨v, hv⟩ : ∃ v, rightB n = v := ⟨_, rfl⟩
  have R := right_any n
  rw [hv] at R ⊢
  have R' := Lib.hid R
  clear R
  cases v
  · have HE := Lib.hid (show encS n = ⟨#[]⟩ by unfold encS; rw [hv]; rfl)
    clear hv
    go_enter Try.func54, Try.ntmps54
    go_wp2_with fail
    refine (R'.out _).mono ?_
    rintro e w1 ⟨rfl, rfl⟩
    go_wp2_with fail
    go_ret2
    exact ⟨ret_tup HE.out.symm, Below.refl _ _⟩
  · have HE : encS n = strOfNums (encL n) := by unfold encS; rw [hv]; rfl
    rw [rightB_iff] at hv
    obtain ⟨h0, h1, -⟩ := hv
    by_cases c1 : n < 128
    · rw [encL, if_pos c1] at HE
      have H := Lib.hid HE
      have K := conv_lit [n]
      simp only [List.map_cons, List.map_nil, List.length_cons, List.length_nil, Nat.zero_add] at K
      clear HE
      go_enter Try.func54, Try.ntmps54
      go_wp2_with fail
      refine (R'.out _).mono ?_
      rintro e w1 ⟨rfl, rfl⟩
      go_wp2_with fail
      go_ret2
      exact ⟨ret_tup H.out.symm, by go_grown⟩
    · by_cases c2 : n < 2048
      · rw [encL, if_neg c1, if_pos c2] at HE
        have H := Lib.hid HE
        have e1 : bits .or .u8 192 (n / 64) = 192 + n / 64 := or8_192 _ (by omega) (by omega)
        have K := conv_lit [192 + n / 64, 128 + n % 64]
        simp only [List.map_cons, List.map_nil, List.length_cons, List.length_nil, Nat.zero_add] at K
        have B := Lib.hid (behind_any n h0 (by omega))
        clear HE
        go_enter Try.func54, Try.ntmps54
        go_wp2_with fail
        refine (R'.out _).mono ?_
        rintro e w1 ⟨rfl, rfl⟩
        go_wp2_with fail
        refine (B.out _).mono ?_
        rintro e w1 ⟨rfl, rfl⟩
        go_wp2_with fail
        go_ret2
        exact ⟨ret_tup H.out.symm, by go_grown⟩
      · by_cases c3 : n < 65536
        · rw [encL, if_neg c1, if_neg c2, if_pos c3] at HE
          have H := Lib.hid HE
          have e1 : bits .or .u8 224 (n / 4096) = 224 + n / 4096 := or8_224 _ (by omega) (by omega)
          have K := conv_lit [224 + n / 4096, 128 + n / 64 % 64, 128 + n % 64]
          simp only [List.map_cons, List.map_nil, List.length_cons, List.length_nil, Nat.zero_add] at K
          have B := Lib.hid (behind_any n h0 (by omega))
          have B1 := Lib.hid (behind_any (n / 64) (by omega) (by omega))
          clear HE
          go_enter Try.func54, Try.ntmps54
          go_wp2_with fail
          refine (R'.out _).mono ?_
          rintro e w1 ⟨rfl, rfl⟩
          go_wp2_with fail
          refine (B1.out _).mono ?_
          rintro e w1 ⟨rfl, rfl⟩
          go_wp2_with fail
          refine (B.out _).mono ?_
          rintro e w1 ⟨rfl, rfl⟩
          go_wp2_with fail
          go_ret2
          exact ⟨ret_tup H.out.symm, by go_grown⟩
        · rw [encL, if_neg c1, if_neg c2, if_neg c3] at HE
          have H := Lib.hid HE
          have e1 : bits .or .u8 240 (n / 262144) = 240 + n / 262144 := or8_240 _ (by omega) (by omega)
          have K := conv_lit [240 + n / 262144, 128 + n / 4096 % 64, 128 + n / 64 % 64, 128 + n % 64]
          simp only [List.map_cons, List.map_nil, List.length_cons, List.length_nil, Nat.zero_add] at K
          have B := Lib.hid (behind_any n h0 (by omega))
          have B1 := Lib.hid (behind_any (n / 64) (by omega) (by omega))
          have B2 := Lib.hid (behind_any (n / 4096) (by omega) (by omega))
          clear HE
          go_enter Try.func54, Try.ntmps54
          go_wp2_with fail
          refine (R'.out _).mono ?_
          rintro e w1 ⟨rfl, rfl⟩
          go_wp2_with fail
          refine (B2.out _).mono ?_
          rintro e w1 ⟨rfl, rfl⟩
          go_wp2_with fail
          refine (B1.out _).mono ?_
          rintro e w1 ⟨rfl, rfl⟩
          go_wp2_with fail
          refine (B.out _).mono ?_
          rintro e w1 ⟨rfl, rfl⟩
          go_wp2_with fail
          go_ret2
          exact ⟨ret_tup H.out.symm, by go_grown⟩
end Go.Proofs.Ytinkgidncdjapab
