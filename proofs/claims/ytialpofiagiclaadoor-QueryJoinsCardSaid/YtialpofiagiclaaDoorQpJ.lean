/- The reference's number. -/
import Derived.Test.YtialpofiagiclaaDoorQpI
import Derived.Test.YtialpofiagiclaaDoorHb
namespace Go.Proofs.YtialpofiagiclaaDoor
set_option linter.unusedVariables false
set_option maxRecDepth 1000000
open Go.RowKit Go.Sort Go.PlainAid

theorem conv_own (xs : List Int) {w : World} {g : Nat} (h : Own w g 5 (xs.map (Value.int .u8))) : (convert 54 9 (.slice (some ⟨g, 0, none⟩) xs.length xs.length)).run Tryd.prog w = .ok (.string (strOfNums xs)) w := by
  refine run_convert_bytes_arg _ 54 5 Tryd.underlying54 Tryd.underlying5 g 0 xs.length xs.length xs rfl (fun i hi => ?_) 9 Tryd.underlying9
  rw [Nat.zero_add, h.cell i]
  simp [List.getElem?_eq_getElem hi]
def decS (n : Nat) : ByteArray := ⟨(Lib.decDigits n).toArray⟩
theorem decS_one {n : Nat} (h : n < 10) : decS n = strOfNums [48 + (n : Int)] := by
  unfold decS
  rw [Lib.decDigits_one h]
  apply bytes_eq
  show [UInt8.ofNat (48 + n)] = [UInt8.ofNat (48 + (n : Int)).toNat]
  rw [show (48 + (n : Int)).toNat = 48 + n by omega]
theorem decS_more {n : Nat} (h : ¬ n < 10) : decS n = decS (n / 10) ++ strOfNums [48 + (n : Int) % 10] := by
  apply bytes_eq
  rw [ByteArray.data_append, Array.toList_append]
  show Lib.decDigits n = Lib.decDigits (n / 10) ++ [UInt8.ofNat (48 + (n : Int) % 10).toNat]
  rw [Lib.decDigits, dif_neg h, show (48 + (n : Int) % 10).toNat = 48 + n % 10 by omega]
theorem decS_size {n : Nat} (h : n ≤ 9223372036854775807) : (decS n).size ≤ 21 := by
  have := itoa_size (n := (n : Int)) (by omega) (by omega)
  rw [Lib.itoa_nonneg] at this
  exact this

set_option maxRecDepth 1000000 in
set_option maxHeartbeats 3200000 in
theorem rnumber_any : ∀ (f n : Nat), n < f → n ≤ 9223372036854775807 → ∀ w : World, Calls Tryd.prog 46 #[.int .i64 (n : Int)] w fun e w' => e = .returned (.string (decS n)) ∧ Below w.heap.size w w'
  | 0, n, hf, hn => by omega
  | f + 1, n, hf, hn => fun w => by
    by_cases h1 : n < 10
    · have HE := Lib.hid (decS_one h1)
      have K := conv_lit [48 + (n : Int)]
      simp only [List.map_cons, List.map_nil, List.length_cons, List.length_nil, Nat.zero_add] at K
      have g1 : decide ((n : Int) < 10) = true := decide_eq_true (by omega)
      have hw1 : IntKind.i64.wrap (48 + (n : Int)) = 48 + (n : Int) := by rw [IntKind.wrap_i64]; omega
      have hw2 : IntKind.u8.wrap (48 + (n : Int)) = 48 + (n : Int) := by rw [IntKind.wrap_u8]; omega
      go_enter Tryd.func46, Tryd.ntmps46
      go_wp2
      go_ret
      exact ⟨ret_str HE.out.symm, by go_grown⟩
    · obtain ⟨y, hy⟩ : ∃ y, 48 + (n : Int) % 10 = y := ⟨_, rfl⟩
      have HE := Lib.hid (decS_more h1)
      rw [hy] at HE
      have HR := Lib.hid (fun W => rnumber_any f (n / 10) (by omega) (by omega) W)
      have hsz := decS_size (n := n / 10) (by omega)
      have hs2 : ¬ 9223372036854775807 < (decS (n / 10)).size + 1 := by omega
      have g1 : decide ((n : Int) < 10) = false := decide_eq_false (by omega)
      have K := conv_lit [y]
      simp only [List.map_cons, List.map_nil, List.length_cons, List.length_nil, Nat.zero_add] at K
      have e1 : IntKind.i64.wrap ((n : Int) / 10) = ((n / 10 : Nat) : Int) := by rw [IntKind.wrap_i64]; omega
      have e2 : (n : Int).tmod 10 = (n : Int) % 10 := Int.tmod_eq_emod_of_nonneg (by omega)
      have e3 : IntKind.i64.wrap (48 + (n : Int) % 10) = y := by rw [IntKind.wrap_i64]; omega
      have e4 : IntKind.u8.wrap y = y := by rw [IntKind.wrap_u8]; omega
      have HO := Lib.hid (fun W => Own.fresh W 5 [.int .u8 y])
      have HB0 := Lib.hid (Below.refl w.heap.size w)
      have hys : (strOfNums [y]).size = 1 := strOfNums_size _
      have K2 := fun W : World => conv_own [y] ((HO.out W).on_drew)
      simp only [List.length_cons, List.length_nil, Nat.zero_add] at K2
      generalize n / 10 = n1 at *
      clear hy
      go_enter Tryd.func46, Tryd.ntmps46
      go_upto_region 3 with fail
      go_region_law ((go_simp; first
        | (go_at_call 46; refine (HR.out _).mono ?_; rintro e w5 ⟨rfl, hb5⟩; first
            | (have K9 := conv_own [y] (((HO.out _).on_drew).under hb5 ((HO.out _).on_drew).lt); simp only [List.length_cons, List.length_nil, Nat.zero_add] at K9; have HB5 := Lib.hid (((HB0.out.alloc HB0.out.size (.cells #[.int .u8 y] 5)).drew).trans (hb5.mono (((HB0.out.alloc HB0.out.size (.cells #[.int .u8 y] 5)).drew).size))))
            | (have K9 := conv_own [y] ((HO.out _).under hb5 (HO.out _).lt); simp only [List.length_cons, List.length_nil, Nat.zero_add] at K9; trace "plain")
            | (have HB5 := Lib.hid (HB0.out.drew.trans hb5)))
        | skip))
      all_goals (go_wp2_with fail)
      all_goals go_ret
      all_goals exact ⟨ret_str HE.out.symm, by first | exact HB5.out | exact HB5.out.alloc HB5.out.size _⟩
end Go.Proofs.YtialpofiagiclaaDoor
