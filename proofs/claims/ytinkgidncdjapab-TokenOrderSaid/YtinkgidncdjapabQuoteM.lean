/- A byte of a class: the walks of the program's single and the reference's byteAt. -/
import Derived.Test.YtinkgidncdjapabQuoteL
namespace Go.Proofs.Ytinkgidncdjapab
set_option linter.unusedVariables false
open Go.RowKit

/-- The byte of a class that stands at a place. -/
def sglO (s : ByteArray) (k : Nat) : Option (Int × Nat) :=
  match readO s k spC with
  | none => none
  | some (u, m) => if u.size = 1 then some (byt u 0, m) else none
def sglT : Option (Int × Nat) → Value
  | none => .tuple #[.int .u8 0, .int .i64 0, .bool false]
  | some (c, m) => .tuple #[.int .u8 c, .int .i64 (m : Int), .bool true]
theorem sglO_none {s : ByteArray} {k : Nat} (h : readO s k spC = none) : sglO s k = none := by unfold sglO; rw [h]
theorem sglO_some {s : ByteArray} {k m : Nat} {u : ByteArray} (h : readO s k spC = some (u, m)) : sglO s k = if u.size = 1 then some (byt u 0, m) else none := by unfold sglO; rw [h]
theorem sglO_bd {s : ByteArray} {k m : Nat} {c : Int} (h : sglO s k = some (c, m)) : k < s.size ∧ k < m ∧ m ≤ k + 10 ∧ 0 ≤ c ∧ c ≤ 255 := by
  cases hq : readO s k spC with
  | none => rw [sglO_none hq] at h; cases h
  | some p =>
    obtain ⟨u, m'⟩ := p
    rw [sglO_some hq] at h
    split at h
    · injection h with h; injection h with h1 h2
      subst h1 h2
      have := readO_bd hq
      exact ⟨this.1, this.2.1, this.2.2.1, byt_lt u 0⟩
    · cases h

set_option maxHeartbeats 1600000 in
theorem single_any (s : ByteArray) (hs : s.size ≤ 1000000) (k : Nat) (hk : k ≤ 2000000) (w : World) :
    Calls Try.prog 45 #[.string s, .int .i64 (k : Int)] w fun e w' => e = .returned (sglT (sglO s k)) ∧ Below w.heap.size w w' := by
  have HR := Lib.hid (fun W => read_any s hs k hk spC W)
  cases hq : readO s k spC with
  | none =>
    have HE := Lib.hid (show sglT (sglO s k) = .tuple #[.int .u8 0, .int .i64 0, .bool false] by rw [sglO_none hq]; rfl)
    rw [hq] at HR
    clear hq
    go_enter Try.func45, Try.ntmps45
    go_wp2_with fail
    refine (HR.out _).mono ?_
    rintro e w3 ⟨he, hb3⟩
    obtain ⟨t, n, rfl⟩ := ends_none he
    clear he
    go_wp2
    go_ret3
    exact ⟨by rw [HE.out]; rfl, hb3⟩
  | some p =>
    obtain ⟨u, m⟩ := p
    have hm := (readO_bd hq).2.2.1
    have hE := sglO_some hq
    rw [hq] at HR
    clear hq
    by_cases g : u.size = 1
    · obtain ⟨x, hx⟩ : ∃ x : Int, ((u[0]'(by omega)).toNat : Int) = x := ⟨_, rfl⟩
      have HE := Lib.hid (show sglT (sglO s k) = .tuple #[.int .u8 x, .int .i64 (m : Int), .bool true] by rw [hE, if_pos g, byt_get (by omega), hx]; rfl)
      clear hE
      go_enter Try.func45, Try.ntmps45
      go_wp2_with fail
      refine (HR.out _).mono ?_
      rintro e w3 ⟨he, hb3⟩
      obtain rfl := ends_some he
      clear he
      have g' : (u.size : Int) = 1 := by omega
      go_wp2
      go_ret3
      exact ⟨by rw [HE.out]; rfl, hb3⟩
    · have HE := Lib.hid (show sglT (sglO s k) = .tuple #[.int .u8 0, .int .i64 0, .bool false] by rw [hE, if_neg g]; rfl)
      have g' : ((u.size : Int) == 1) = false := by rw [beq_eq_false_iff_ne]; omega
      have g'' : ((u.size : Int) != 1) = true := by simp; omega
      clear hE
      go_enter Try.func45, Try.ntmps45
      go_wp2_with fail
      refine (HR.out _).mono ?_
      rintro e w3 ⟨he, hb3⟩
      obtain rfl := ends_some he
      clear he
      go_wp2
      go_ret3
      exact ⟨by rw [HE.out]; rfl, hb3⟩
set_option maxHeartbeats 1600000 in
theorem byteat_any (s : ByteArray) (hs : s.size ≤ 1000000) (k : Nat) (hk : k ≤ 2000000) (w : World) :
    Calls Try.prog 39 #[.string s, .int .i64 (k : Int)] w fun e w' => e = .returned (sglT (sglO s k)) ∧ Below w.heap.size w w' := by
  have HR := Lib.hid (fun W => one_any s hs k hk spC (by decide) (fun c h0 h1 h => spC_in h0 h1 h) W)
  cases hq : readO s k spC with
  | none =>
    have HE := Lib.hid (show sglT (sglO s k) = .tuple #[.int .u8 0, .int .i64 0, .bool false] by rw [sglO_none hq]; rfl)
    rw [hq] at HR
    clear hq
    go_enter Try.func39, Try.ntmps39
    go_wp2_with fail
    refine (HR.out _).mono ?_
    rintro e w3 ⟨he, hb3⟩
    obtain ⟨t, n, rfl⟩ := ends_none he
    clear he
    go_wp2
    go_ret3
    exact ⟨by rw [HE.out]; rfl, hb3⟩
  | some p =>
    obtain ⟨u, m⟩ := p
    have hm := (readO_bd hq).2.2.1
    have hE := sglO_some hq
    rw [hq] at HR
    clear hq
    by_cases g : u.size = 1
    · obtain ⟨x, hx⟩ : ∃ x : Int, ((u[0]'(by omega)).toNat : Int) = x := ⟨_, rfl⟩
      have HE := Lib.hid (show sglT (sglO s k) = .tuple #[.int .u8 x, .int .i64 (m : Int), .bool true] by rw [hE, if_pos g, byt_get (by omega), hx]; rfl)
      clear hE
      go_enter Try.func39, Try.ntmps39
      go_wp2_with fail
      refine (HR.out _).mono ?_
      rintro e w3 ⟨he, hb3⟩
      obtain rfl := ends_some he
      clear he
      have g' : (u.size : Int) = 1 := by omega
      go_wp2
      go_ret3
      exact ⟨by rw [HE.out]; rfl, hb3⟩
    · have HE := Lib.hid (show sglT (sglO s k) = .tuple #[.int .u8 0, .int .i64 0, .bool false] by rw [hE, if_neg g]; rfl)
      have g' : ((u.size : Int) == 1) = false := by rw [beq_eq_false_iff_ne]; omega
      have g'' : ((u.size : Int) != 1) = true := by simp; omega
      clear hE
      go_enter Try.func39, Try.ntmps39
      go_wp2_with fail
      refine (HR.out _).mono ?_
      rintro e w3 ⟨he, hb3⟩
      obtain rfl := ends_some he
      clear he
      go_wp2
      go_ret3
      exact ⟨by rw [HE.out]; rfl, hb3⟩
end Go.Proofs.Ytinkgidncdjapab
