/- The walk of the document's answer Count. -/
import Derived.Test.YtgikhkjnemglbaaHw
import Derived.Test.YtgikhkjnemglbaaHi
namespace Go.Proofs.Ytgikhkjnemglbaa
set_option linter.unusedVariables false
open Go.RowKit

theorem rhas_v {a b c d : Nat} {x : Int} {v : Bool} (h : inSet a b c d x.toNat = v) (hx0 : 0 ≤ x) (hx : x < 256) (ha : a < P64) (hb : b < P64) (hc : c < P64) (hd : d < P64) (w : World) :
    Calls Try.prog 46 #[.agg #[.int .u64 (a : Int), .int .u64 (b : Int), .int .u64 (c : Int), .int .u64 (d : Int)], .int .u8 x] w
      fun e w' => e = .returned (.bool v) ∧ Below w.heap.size w w' := by
  obtain ⟨n, rfl⟩ := Int.eq_ofNat_of_zero_le hx0
  exact h ▸ rhas_any a b c d n (by omega) ha hb hc hd w

set_option maxHeartbeats 1000000 in
theorem rcount_any (a b c d : Nat) (ha : a < P64) (hb : b < P64) (hc : c < P64) (hd : d < P64) (w : World) :
    Calls Try.prog 45 #[.agg #[.int .u64 (a : Int), .int .u64 (b : Int), .int .u64 (c : Int), .int .u64 (d : Int)]] w
      fun e w' => e = .returned (.int .i64 (card a b c d : Int)) ∧ Below w.heap.size w w' := by
  have HC := Lib.hid (card_cnt a b c d)
  have HH := Lib.hid (fun (x : Int) (v : Bool) (h : inSet a b c d x.toNat = v) (h0 : 0 ≤ x) (h1 : x < 256) => rhas_v h h0 h1 ha hb hc hd)
  clear ha hb hc hd
  go_enter Try.func45, Try.ntmps45
  go_wp2
  go_loopw [3, 4] (fun n i wr => ∃ k m : Nat, (k : Int) ≤ 256 ∧ i = .int .i64 (k : Int) ∧ n = .int .i64 (m : Int) ∧ m ≤ k ∧ Hid (cnt (inSet a b c d) k = m) ∧ Own wr w.heap.size 39 [.int .u64 (a : Int), .int .u64 (b : Int), .int .u64 (c : Int), .int .u64 (d : Int)] ∧ Below w.heap.size w wr)
    (fun _ i _ => 256 - (intOf i).toNat)
  case atStart => exact ⟨0, 0, by omega, rfl, rfl, Nat.le_refl _, Lib.hid rfl, Own.fresh w _ _, by go_grown⟩
  case round =>
    obtain ⟨k, m, hk, rfl, rfl, hle, hm, ho, hb⟩ := hrel
    obtain ⟨s0, s1, s2, s3, -⟩ := ho.four
    by_cases hlt : (k : Int) < 256
    · obtain ⟨v, hv⟩ : ∃ v, inSet a b c d k = v := ⟨_, rfl⟩
      have hs : cnt (inSet a b c d) (k + 1) = m + (if v = true then 1 else 0) := by rw [← hv, ← hm.out]; rfl
      have HV := Lib.hid (HH.out (k : Int) v (by rw [Int.toNat_natCast]; exact hv) (by omega) (by omega))
      have HS := Lib.hid hs
      clear hv hs
      have hk0 : (0 : Int) ≤ (k : Int) := Int.natCast_nonneg _
      cases v
      · go_wp2_with fail
        refine (HV.out _).mono ?_
        rintro e w1 ⟨rfl, hb1⟩
        go_wp2_with fail
        go_roundw
        case rel => exact ⟨k + 1, m, by omega, by go_num, rfl, by omega, HS, ho.under hb1 ho.lt, keepb hb hb1⟩
        case measure => simp [intOf]; omega
      · go_wp2_with fail
        refine (HV.out _).mono ?_
        rintro e w1 ⟨rfl, hb1⟩
        go_wp2_with fail
        go_roundw
        case rel => exact ⟨k + 1, m + 1, by omega, by go_num, by go_num, by omega, HS, ho.under hb1 ho.lt, keepb hb hb1⟩
        case measure => simp [intOf]; omega
    · obtain rfl : k = 256 := by omega
      go_wp2
      go_ret
      exact ⟨ret_int (by rw [HC.out, hm.out]), hb⟩
end Go.Proofs.Ytgikhkjnemglbaa
