/- Names that a code knows; steps that may be. -/
import Derived.Test.YtnopnjleibbakabFndE
import Derived.Test.YtnopnjleibbakabWordR
namespace Go.Proofs.Ytnopnjleibbakab
set_option linter.unusedVariables false
open Go.RowKit Go.Sort

def irow (a : Int) (t : ByteArray) : List Value := [.int .i64 a, .string t, .int .u64 0, .int .u64 0, .int .u64 0, .int .u64 0, .slice none 0 0, .int .u64 0, .int .u64 0, .int .u64 0, .int .u64 0, .bool false, .slice none 0 0, .int .i64 0]
/-- Instructions in memory: an op, a text, nothing else. -/
def HasI (w : World) (co : Option Addr) (L : List (Int × ByteArray)) : Prop := ∀ (k : Nat) (a : Int) (t : ByteArray), L[k]? = some (a, t) → ∃ g off, co = some ⟨g, off, none⟩ ∧ g < w.heap.size ∧
  ∀ j v, (irow a t)[j]? = some v → w.cell? ⟨g, off + k * 14 + j, none⟩ = some v
theorem HasI.below {w w' : World} {co : Option Addr} {L : List (Int × ByteArray)} (h : HasI w co L) (hb : Below w.heap.size w w') : HasI w' co L := fun k a t hk => by
  obtain ⟨g, off, e, hg, hc⟩ := h k a t hk
  exact ⟨g, off, e, Nat.lt_of_lt_of_le hg hb.size, fun j v hv => keepc (hc j v hv) hb⟩
def knB (n : ByteArray) (x : Int × ByteArray) : Bool := (x.1 == 11 || x.1 == 12) && x.2.toList == n.toList
def knownB (L : List (Int × ByteArray)) (n : ByteArray) : Bool := L.any (knB n)
theorem any_take {α : Type} {f : α → Bool} {L : List α} {k : Nat} {y : α} (h : L[k]? = some y) : (L.take (k + 1)).any f = ((L.take k).any f || f y) := by
  rw [List.take_add_one, h, List.any_append]; simp
theorem any_hit {α : Type} {f : α → Bool} {L : List α} {k : Nat} {y : α} (h : L[k]? = some y) (hf : f y = true) : L.any f = true := List.any_eq_true.2 ⟨y, List.mem_of_getElem? h, hf⟩

set_option maxRecDepth 1000000 in
set_option maxHeartbeats 3200000 in
theorem known_any (L : List (Int × ByteArray)) (co : Option Addr) (cc : Nat) (n : ByteArray) (hL : (L.length : Int) ≤ 1000) (w : World) (hc : HasI w co L) :
    Calls Try.prog 13 #[.agg #[.slice co L.length cc], .string n] w fun e w' => e = .returned (.bool (knownB L n)) ∧ Below w.heap.size w w' := by
  have HC := Lib.hid hc
  obtain ⟨m, hm⟩ : ∃ m, L.length = m := ⟨_, rfl⟩
  have HM := Lib.hid hm
  have HK := Lib.hid (show knownB L n = L.any (knB n) from rfl)
  generalize knownB L n = R at *
  rw [hm] at hL ⊢
  have HB0 := Lib.hid ((Below.refl w.heap.size w).alloc (Nat.le_refl _) (.cells #[.slice co m cc] 39))
  have HO0 := Lib.hid (Own.fresh w 39 [.slice co m cc])
  clear hc hm
  go_enter Try.func13, Try.ntmps13
  go_wp2_with fail
  generalize World.alloc w _ = w1 at *
  go_loopw [10] (fun b10 wr => ∃ k : Nat, b10 = .int .i64 (k : Int) ∧ (k : Int) ≤ m ∧ Hid ((L.take k).any (knB n) = false) ∧ Hid (Below w.heap.size w wr) ∧ Hid (Own wr w.heap.size 39 [.slice co m cc])) (fun b10 _ => m - (intOf b10).toNat)
  case atStart => exact ⟨0, rfl, by omega, Lib.hid rfl, HB0, HO0⟩
  case round =>
    obtain ⟨k, rfl, hk, HA, HB, HO⟩ := hrel
    clear HB0 HO0
    have o0 : wr.cell? ⟨w.heap.size, 0, none⟩ = some (.slice co m cc) := HO.out.cell 0
    by_cases h1 : (k : Int) < m
    · obtain ⟨⟨a, t⟩, hy⟩ : ∃ y, L[k]? = some y := ⟨_, List.getElem?_eq_getElem (by have := HM.out; omega)⟩
      obtain ⟨g, off, rfl, hg, hcell⟩ := HC.out k a t hy
      have HY := Lib.hid hy
      have c0 := keepc (hcell 0 _ rfl) HB.out
      have c1 := keepc (hcell 1 _ rfl) HB.out
      have c2 := keepc (hcell 2 _ rfl) HB.out
      have c3 := keepc (hcell 3 _ rfl) HB.out
      have c4 := keepc (hcell 4 _ rfl) HB.out
      have c5 := keepc (hcell 5 _ rfl) HB.out
      have c6 := keepc (hcell 6 _ rfl) HB.out
      have c7 := keepc (hcell 7 _ rfl) HB.out
      have c8 := keepc (hcell 8 _ rfl) HB.out
      have c9 := keepc (hcell 9 _ rfl) HB.out
      have c10 := keepc (hcell 10 _ rfl) HB.out
      have c11 := keepc (hcell 11 _ rfl) HB.out
      have c12 := keepc (hcell 12 _ rfl) HB.out
      have c13 := keepc (hcell 13 _ rfl) HB.out
      simp only [Nat.add_zero] at c0
      have hgw := Nat.lt_of_lt_of_le hg HB.out.size
      have hw1 : IntKind.i64.wrap ((k : Int) + 1) = (k : Int) + 1 := by rw [IntKind.wrap_i64]; omega
      clear hy hcell hg
      obtain ⟨z, hz⟩ : ∃ z, (t.toList == n.toList) = z := ⟨_, rfl⟩
      have HZ := Lib.hid (show knB n (a, t) = ((a == 11 || a == 12) && z) by rw [← hz]; rfl)

      have HA2 := Lib.hid (HB.out.alloc HB.out.size (.cells #[.int .i64 a, .string t, .int .u64 0, .int .u64 0, .int .u64 0, .int .u64 0, .slice none 0 0, .int .u64 0, .int .u64 0, .int .u64 0, .int .u64 0, .bool false, .slice none 0 0, .int .i64 0] 44))
      have HO2 := Lib.hid (HO.out.on_alloc (.cells #[.int .i64 a, .string t, .int .u64 0, .int .u64 0, .int .u64 0, .int .u64 0, .slice none 0 0, .int .u64 0, .int .u64 0, .int .u64 0, .int .u64 0, .bool false, .slice none 0 0, .int .i64 0] 44))

      by_cases q1 : a = 11
      · have e1 : (a == 11) = true := by simp [q1]
        clear q1
        cases z with
        | true =>
          have HE := Lib.hid (show R = true by rw [HK.out]; exact any_hit HY.out (by rw [HZ.out]; simp [e1]))
          go_wp2
          go_ret
          exact ⟨ret_bool HE.out.symm, HA2.out⟩
        | false =>
          have HE := Lib.hid (show (L.take (k + 1)).any (knB n) = false by rw [any_take HY.out, HA.out, HZ.out]; simp)
          go_wp2
          go_roundw
          case rel => exact ⟨k + 1, by go_num, by omega, HE, HA2, HO2⟩
          case measure => simp [intOf]; omega
      · have e1 : (a == 11) = false := by simp [q1]
        by_cases q2 : a = 12
        · have e2 : (a == 12) = true := by simp [q2]
          clear q1 q2
          cases z with
          | true =>
            have HE := Lib.hid (show R = true by rw [HK.out]; exact any_hit HY.out (by rw [HZ.out]; simp [e2]))
            go_wp2
            go_ret
            exact ⟨ret_bool HE.out.symm, HA2.out⟩
          | false =>
            have HE := Lib.hid (show (L.take (k + 1)).any (knB n) = false by rw [any_take HY.out, HA.out, HZ.out]; simp)
            go_wp2
            go_roundw
            case rel => exact ⟨k + 1, by go_num, by omega, HE, HA2, HO2⟩
            case measure => simp [intOf]; omega
        · have e2 : (a == 12) = false := by simp [q2]
          clear q1 q2
          have HE := Lib.hid (show (L.take (k + 1)).any (knB n) = false by rw [any_take HY.out, HA.out, HZ.out]; simp [e1, e2])
          go_wp2
          go_roundw
          case rel => exact ⟨k + 1, by go_num, by omega, HE, HA2, HO2⟩
          case measure => simp [intOf]; omega
    · obtain rfl : k = m := by omega
      have HE := Lib.hid (show R = false by rw [HK.out, ← HA.out, List.take_of_length_le (by rw [HM.out]; omega)])
      go_wp2
      go_ret
      exact ⟨ret_bool HE.out.symm, HB.out⟩

set_option maxRecDepth 1000000 in
set_option maxHeartbeats 3200000 in
theorem rknown_any (L : List (Int × ByteArray)) (co : Option Addr) (cc : Nat) (n : ByteArray) (hL : (L.length : Int) ≤ 1000) (w : World) (hc : HasI w co L) :
    Calls Try.prog 14 #[.agg #[.slice co L.length cc], .string n] w fun e w' => e = .returned (.bool (knownB L n)) ∧ Below w.heap.size w w' := by
  have HC := Lib.hid hc
  obtain ⟨m, hm⟩ : ∃ m, L.length = m := ⟨_, rfl⟩
  have HM := Lib.hid hm
  have HK := Lib.hid (show knownB L n = L.any (knB n) from rfl)
  generalize knownB L n = R at *
  rw [hm] at hL ⊢
  have HB0 := Lib.hid ((Below.refl w.heap.size w).alloc (Nat.le_refl _) (.cells #[.slice co m cc] 39))
  have HO0 := Lib.hid (Own.fresh w 39 [.slice co m cc])
  clear hc hm
  go_enter Try.func14, Try.ntmps14
  go_wp2_with fail
  generalize World.alloc w _ = w1 at *
  go_loopw [5] (fun b10 wr => ∃ k : Nat, b10 = .int .i64 (k : Int) ∧ (k : Int) ≤ m ∧ Hid ((L.take k).any (knB n) = false) ∧ Hid (Below w.heap.size w wr) ∧ Hid (Own wr w.heap.size 39 [.slice co m cc])) (fun b10 _ => m - (intOf b10).toNat)
  case atStart => exact ⟨0, rfl, by omega, Lib.hid rfl, HB0, HO0⟩
  case round =>
    obtain ⟨k, rfl, hk, HA, HB, HO⟩ := hrel
    clear HB0 HO0
    have o0 : wr.cell? ⟨w.heap.size, 0, none⟩ = some (.slice co m cc) := HO.out.cell 0
    by_cases h1 : (k : Int) < m
    · obtain ⟨⟨a, t⟩, hy⟩ : ∃ y, L[k]? = some y := ⟨_, List.getElem?_eq_getElem (by have := HM.out; omega)⟩
      obtain ⟨g, off, rfl, hg, hcell⟩ := HC.out k a t hy
      have HY := Lib.hid hy
      have c0 := keepc (hcell 0 _ rfl) HB.out
      have c1 := keepc (hcell 1 _ rfl) HB.out
      have c2 := keepc (hcell 2 _ rfl) HB.out
      have c3 := keepc (hcell 3 _ rfl) HB.out
      have c4 := keepc (hcell 4 _ rfl) HB.out
      have c5 := keepc (hcell 5 _ rfl) HB.out
      have c6 := keepc (hcell 6 _ rfl) HB.out
      have c7 := keepc (hcell 7 _ rfl) HB.out
      have c8 := keepc (hcell 8 _ rfl) HB.out
      have c9 := keepc (hcell 9 _ rfl) HB.out
      have c10 := keepc (hcell 10 _ rfl) HB.out
      have c11 := keepc (hcell 11 _ rfl) HB.out
      have c12 := keepc (hcell 12 _ rfl) HB.out
      have c13 := keepc (hcell 13 _ rfl) HB.out
      simp only [Nat.add_zero] at c0
      have hgw := Nat.lt_of_lt_of_le hg HB.out.size
      have hw1 : IntKind.i64.wrap ((k : Int) + 1) = (k : Int) + 1 := by rw [IntKind.wrap_i64]; omega
      clear hy hcell hg
      obtain ⟨z, hz⟩ : ∃ z, (t.toList == n.toList) = z := ⟨_, rfl⟩
      have HZ := Lib.hid (show knB n (a, t) = ((a == 11 || a == 12) && z) by rw [← hz]; rfl)

      by_cases q1 : a = 11
      · have e1 : (a == 11) = true := by simp [q1]
        clear q1
        cases z with
        | true =>
          have HE := Lib.hid (show R = true by rw [HK.out]; exact any_hit HY.out (by rw [HZ.out]; simp [e1]))
          go_wp2
          go_ret
          exact ⟨ret_bool HE.out.symm, HB.out⟩
        | false =>
          have HE := Lib.hid (show (L.take (k + 1)).any (knB n) = false by rw [any_take HY.out, HA.out, HZ.out]; simp)
          go_wp2
          go_roundw
          case rel => exact ⟨k + 1, by go_num, by omega, HE, HB, HO⟩
          case measure => simp [intOf]; omega
      · have e1 : (a == 11) = false := by simp [q1]
        by_cases q2 : a = 12
        · have e2 : (a == 12) = true := by simp [q2]
          clear q1 q2
          cases z with
          | true =>
            have HE := Lib.hid (show R = true by rw [HK.out]; exact any_hit HY.out (by rw [HZ.out]; simp [e2]))
            go_wp2
            go_ret
            exact ⟨ret_bool HE.out.symm, HB.out⟩
          | false =>
            have HE := Lib.hid (show (L.take (k + 1)).any (knB n) = false by rw [any_take HY.out, HA.out, HZ.out]; simp)
            go_wp2
            go_roundw
            case rel => exact ⟨k + 1, by go_num, by omega, HE, HB, HO⟩
            case measure => simp [intOf]; omega
        · have e2 : (a == 12) = false := by simp [q2]
          clear q1 q2
          have HE := Lib.hid (show (L.take (k + 1)).any (knB n) = false by rw [any_take HY.out, HA.out, HZ.out]; simp [e1, e2])
          go_wp2
          go_roundw
          case rel => exact ⟨k + 1, by go_num, by omega, HE, HB, HO⟩
          case measure => simp [intOf]; omega
    · obtain rfl : k = m := by omega
      have HE := Lib.hid (show R = false by rw [HK.out, ← HA.out, List.take_of_length_le (by rw [HM.out]; omega)])
      go_wp2
      go_ret
      exact ⟨ret_bool HE.out.symm, HB.out⟩

end Go.Proofs.Ytnopnjleibbakab
