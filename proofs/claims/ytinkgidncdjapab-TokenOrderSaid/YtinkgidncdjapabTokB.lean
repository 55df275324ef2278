/- How long a name is, where a line ends, where blanks end, of the program and of the reference, walked. -/
import Derived.Test.YtinkgidncdjapabTokA
namespace Go.Proofs.Ytinkgidncdjapab
set_option linter.unusedVariables false
open Go.RowKit

/-- The rest of a text, from p on. -/
def restS (s : ByteArray) (p : Nat) : ByteArray := s.extract p s.size
theorem rest_size (s : ByteArray) {p : Nat} (hp : p ≤ s.size) : (restS s p).size = s.size - p := by
  unfold restS; rw [ByteArray.size_extract]; omega
theorem rest_byt (s : ByteArray) (p j : Nat) : byt (restS s p) j = byt s (p + j) := by
  unfold restS
  rw [← ofL_drop]
  unfold byt
  rw [show (ofL (s.data.toList.drop p)).data.toList = s.data.toList.drop p by show (s.data.toList.drop p).toArray.toList = _; simp]
  rw [List.getD_eq_getElem?_getD, List.getD_eq_getElem?_getD, List.getElem?_drop]
theorem nm_is {s : ByteArray} {p n : Nat} (hp : p ≤ s.size) (hn : n ≤ (restS s p).size) (h : ∀ j, j < n → innB (byt (restS s p) j) = true) (h2 : n < (restS s p).size → innB (byt (restS s p) n) = false) : nmO s p = n := by
  rw [rest_size s hp] at hn h2
  refine runB_is n s.size p (by omega) (fun j hj => ⟨by omega, by rw [← rest_byt]; exact h j hj⟩) (fun hlt => ?_)
  rintro ⟨g1, g2⟩
  have := h2 (by omega)
  rw [rest_byt, g2] at this; cases this
theorem nt_is {s : ByteArray} {p n : Nat} (hp : p ≤ s.size) (hn : p + n ≤ s.size) (h : ∀ j, j < n → byt s (p + j) ≠ 10) (h2 : p + n < s.size → byt s (p + n) = 10) : ntO s p = n := by
  refine runB_is n s.size p (by omega) (fun j hj => ⟨by omega, by simp [h j hj]⟩) (fun hlt => ?_)
  rintro ⟨g1, g2⟩
  rw [h2 g1] at g2; revert g2; decide

set_option maxHeartbeats 1600000 in
theorem nml_any (v : ByteArray) (hv : v.size ≤ 1000000) (w : World) :
    Calls Try.prog 22 #[.string v] w fun e w' => (∃ n : Nat, e = .returned (.int .i64 (n : Int)) ∧ n ≤ v.size ∧ (∀ j, j < n → innB (byt v j) = true) ∧ (n < v.size → innB (byt v n) = false)) ∧ w' = w := by
  go_enter Try.func22, Try.ntmps22
  go_wp2
  go_loop [3] (fun i => ∃ k : Nat, k ≤ v.size ∧ i = .int .i64 k ∧ Hid (∀ j, j < k → innB (byt v j) = true)) (fun i => v.size - (intOf i).toNat)
  case atStart => exact ⟨0, Nat.zero_le _, rfl, Lib.hid (fun j h => by omega)⟩
  case round =>
    obtain ⟨k, hk, rfl, HA⟩ := hrel
    by_cases hlt : k < v.size
    · obtain ⟨x, hx⟩ : ∃ x : Int, (v[k].toNat : Int) = x := ⟨_, rfl⟩
      have HX := Lib.hid (show byt v k = x by rw [byt_get hlt, hx])
      have HL := Lib.hid (fun W => let_any x W)
      have HI := Lib.hid (show innB x = (letB x || (decide (48 ≤ x) && decide (x ≤ 57)) || x == 95) from rfl)
      obtain ⟨b, hb⟩ : ∃ b, letB x = b := ⟨_, rfl⟩
      rw [hb] at HI HL
      clear hb
      obtain ⟨q, hq⟩ : ∃ q, (x == 95) = q := ⟨_, rfl⟩
      have HQ := Lib.hid hq
      by_cases g0 : 48 ≤ x <;> by_cases g1 : x ≤ 57 <;> cases b <;> cases q
      all_goals try (exfalso; omega)
      all_goals first
        | (have HN := Lib.hid (show innB x = true by rw [HI.out, HQ.out]; simp <;> omega)
           have HA1 : Hid (∀ j, j < k + 1 → innB (byt v j) = true) := Lib.hid (fun j hj => by
             by_cases e : j = k
             · rw [e, HX.out]; exact HN.out
             · exact HA.out j (by omega))
           go_wp2_with fail
           refine (HL.out _).mono ?_
           rintro e w1 ⟨rfl, rfl⟩
           go_wp2
           go_round
           case rel => exact ⟨k + 1, by omega, by go_num, HA1⟩
           case measure => simp [intOf]; omega)
        | (have HN := Lib.hid (show innB x = false by rw [HI.out, HQ.out]; simp <;> omega)
           go_wp2_with fail
           refine (HL.out _).mono ?_
           rintro e w1 ⟨rfl, rfl⟩
           go_wp2
           go_ret
           exact ⟨⟨k, rfl, hk, HA.out, fun _ => by rw [HX.out]; exact HN.out⟩, rfl⟩)
    · obtain rfl : k = v.size := by omega
      go_wp2
      go_ret
      exact ⟨⟨v.size, rfl, Nat.le_refl _, HA.out, fun h => by omega⟩, rfl⟩
theorem idx_bytes {v : ByteArray} {n : Nat} (h : Lib.indexByte v.data.toList 10 = (n : Int)) : n < v.size ∧ byt v n = 10 ∧ ∀ j, j < n → byt v j ≠ 10 := by
  obtain ⟨h1, h2⟩ := Lib.indexByte_some h
  have hlt := (List.getElem?_eq_some_iff.1 h1).1
  refine ⟨by simpa using hlt, ?_, fun j hj hb => ?_⟩
  · unfold byt; rw [List.getD_eq_getElem?_getD, h1]; rfl
  · have hj' : j < v.data.toList.length := by omega
    refine h2 j hj ?_
    rw [List.getElem?_eq_getElem hj']
    congr 1
    apply UInt8.toNat.inj
    have h3 : (v.data.toList[j].toNat : Int) = 10 := by rw [← hb]; unfold byt; rw [List.getD_eq_getElem?_getD, List.getElem?_eq_getElem hj']; rfl
    show _ = 10
    omega
theorem idx_none {v : ByteArray} (h : Lib.indexByte v.data.toList 10 = -1) : ∀ j, j < v.size → byt v j ≠ 10 := fun j hj hb => by
  have hj' : j < v.data.toList.length := by simpa using hj
  refine Lib.indexByte_none h j ?_
  rw [List.getElem?_eq_getElem hj']
  congr 1
  apply UInt8.toNat.inj
  have h3 : (v.data.toList[j].toNat : Int) = 10 := by rw [← hb]; unfold byt; rw [List.getD_eq_getElem?_getD, List.getElem?_eq_getElem hj']; rfl
  show _ = 10
  omega
set_option maxHeartbeats 1600000 in
theorem lend_any (s : ByteArray) (hs : s.size ≤ 1000000) (p : Nat) (hp : p ≤ s.size) (w : World) :
    Calls Try.prog 20 #[.string (restS s p)] w fun e w' => e = .returned (.int .i64 (ntO s p : Int)) ∧ w' = w := by
  have hr := rest_size s hp
  have hge := Lib.indexByte_ge (restS s p).data.toList (10 : Int).toNat.toUInt8
  obtain ⟨x, hx⟩ : ∃ x, Lib.indexByte (restS s p).data.toList (10 : Int).toNat.toUInt8 = x := ⟨_, rfl⟩
  rw [hx] at hge
  have HX := Lib.hid hx
  by_cases g : 0 ≤ x
  · obtain ⟨n, rfl⟩ : ∃ n : Nat, x = (n : Int) := ⟨x.toNat, by omega⟩
    obtain ⟨h1, h2, h3⟩ := idx_bytes hx
    have HE := Lib.hid (show ntO s p = n from nt_is hp (by omega) (fun j hj => by rw [← rest_byt]; exact h3 j hj) (fun _ => by rw [← rest_byt]; exact h2))
    clear hx h1 h2 h3 hge
    go_enter Try.func20, Try.ntmps20
    go_wp2_with fail
    refine (Try.strings_IndexByte (restS s p) 10 _).mono ?_
    rintro e w' ⟨rfl, rfl⟩
    rw [HX.out]
    go_wp2
    go_ret
    exact ⟨ret_int (by rw [HE.out]), rfl⟩
  · obtain rfl : x = -1 := by omega
    have h3 := idx_none hx
    have HE := Lib.hid (show ntO s p = (restS s p).size from nt_is hp (by omega) (fun j hj => by rw [← rest_byt]; exact h3 j hj) (fun h => by omega))
    clear hx h3 hge g
    go_enter Try.func20, Try.ntmps20
    go_wp2_with fail
    refine (Try.strings_IndexByte (restS s p) 10 _).mono ?_
    rintro e w' ⟨rfl, rfl⟩
    rw [HX.out]
    go_wp2
    go_ret
    exact ⟨ret_int (by rw [HE.out, hr]), rfl⟩
end Go.Proofs.Ytinkgidncdjapab
