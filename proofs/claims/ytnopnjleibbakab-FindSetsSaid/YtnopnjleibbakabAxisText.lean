/- The walks of Text. -/
import Derived.Test.YtnopnjleibbakabGf
namespace Go.Proofs.Ytnopnjleibbakab
set_option linter.unusedVariables false
open Go.RowKit Go.Sort

theorem ret_node {a b : ByteArray} (h : b = a) : Ending.returned (.string a) = .returned (.string b) := by rw [h]
theorem ext_all (s : ByteArray) : s.extract 0 s.size = s := by simp
set_option maxHeartbeats 1600000 in
theorem text_any (l : Nodes) (ao : Option Addr) (cap : Nat) (s : ByteArray) (hs : (s.size : Int) ≤ 1000) (i : Int) (B : Nat) (hn : (l.n : Int) ≤ 1000) (w : World) (hB : B ≤ w.heap.size) (hl : Has w ao B l) :
    Calls Try.prog 35 #[.slice ao l.n cap, .string s, .int .i64 i] w fun e w' => e = .returned (.string (nodeT l s i)) ∧ Below w.heap.size w w' := by
  rcases place_of l.n i with h1 | ⟨h1, h2⟩ | ⟨j, rfl, hj⟩
  · have H := Lib.hid (text_out (l := l) (s := s) (.inl h1))
    go_enter Try.func35, Try.ntmps35
    go_wp2_with fail
    go_ret
    exact ⟨ret_node H.out, Below.refl _ _⟩
  · have H := Lib.hid (text_out (l := l) (s := s) (.inr h2))
    go_enter Try.func35, Try.ntmps35
    go_wp2_with fail
    go_ret
    exact ⟨ret_node H.out, Below.refl _ _⟩
  · obtain ⟨b, off, rfl, hbB, -, -, c2, c3, -⟩ := hl j hj
    have hj' : (j : Int) < l.n := by omega
    have HY := Lib.hid (text_in (l := l) (s := s) hj)
    have HN := Lib.hid (text_no (l := l) (s := s) (i := j))
    generalize l.fr j = x at *
    generalize l.tt j = y at *
    clear hl
    by_cases cx : x < 0
    · have ep : max x 0 = 0 := by omega
      rw [ep] at HY HN
      clear ep
      by_cases cy : (s.size : Int) < y
      · have eq : min y (s.size : Int) = (s.size : Int) := by omega
        rw [eq] at HY HN
        clear eq
        by_cases h3 : 0 < (s.size : Int)
        · have H := Lib.hid (HY.out h3)
          have hne : ¬ s = ByteArray.empty := fun e => by rw [e] at h3; simp at h3
          clear HY HN
          go_enter Try.func35, Try.ntmps35
          go_wp2_with fail
          go_region
          all_goals go_wp2
          all_goals go_ret
          all_goals exact ⟨ret_node (by rw [H.out]; try first | rfl | exact ext_all s), below_drewN (Below.refl _ _) 1⟩
        · have H := Lib.hid (HN.out h3)
          obtain rfl : s = ByteArray.empty := ByteArray.size_eq_zero_iff.1 (by omega)
          clear HY HN
          go_enter Try.func35, Try.ntmps35
          go_wp2_with fail
          go_region
          all_goals go_wp2
          all_goals go_ret
          all_goals exact ⟨ret_node (by rw [H.out]), below_drewN (Below.refl _ _) 1⟩
      · have eq : min y (s.size : Int) = y := by omega
        rw [eq] at HY HN
        clear eq
        by_cases h3 : 0 < y
        · have H := Lib.hid (HY.out h3)
          clear HY HN
          go_enter Try.func35, Try.ntmps35
          go_wp2_with fail
          go_region
          all_goals go_wp2
          all_goals go_ret
          all_goals exact ⟨ret_node (by rw [H.out]; try first | rfl | exact ext_all s), below_drewN (Below.refl _ _) 1⟩
        · have H := Lib.hid (HN.out h3)
          clear HY HN
          go_enter Try.func35, Try.ntmps35
          go_wp2_with fail
          go_region
          all_goals go_wp2
          all_goals go_ret
          all_goals exact ⟨ret_node (by rw [H.out]), below_drewN (Below.refl _ _) 1⟩
    · have ep : max x 0 = x := by omega
      rw [ep] at HY HN
      clear ep
      by_cases cy : (s.size : Int) < y
      · have eq : min y (s.size : Int) = (s.size : Int) := by omega
        rw [eq] at HY HN
        clear eq
        by_cases h3 : x < (s.size : Int)
        · have H := Lib.hid (HY.out h3)
          clear HY HN
          go_enter Try.func35, Try.ntmps35
          go_wp2_with fail
          go_region
          all_goals go_wp2
          all_goals go_ret
          all_goals exact ⟨ret_node (by rw [H.out]; try first | rfl | exact ext_all s), below_drewN (Below.refl _ _) 1⟩
        · have H := Lib.hid (HN.out h3)
          clear HY HN
          go_enter Try.func35, Try.ntmps35
          go_wp2_with fail
          go_region
          all_goals go_wp2
          all_goals go_ret
          all_goals exact ⟨ret_node (by rw [H.out]), below_drewN (Below.refl _ _) 1⟩
      · have eq : min y (s.size : Int) = y := by omega
        rw [eq] at HY HN
        clear eq
        by_cases h3 : x < y
        · have H := Lib.hid (HY.out h3)
          clear HY HN
          go_enter Try.func35, Try.ntmps35
          go_wp2_with fail
          go_region
          all_goals go_wp2
          all_goals go_ret
          all_goals exact ⟨ret_node (by rw [H.out]; try first | rfl | exact ext_all s), below_drewN (Below.refl _ _) 1⟩
        · have H := Lib.hid (HN.out h3)
          clear HY HN
          go_enter Try.func35, Try.ntmps35
          go_wp2_with fail
          go_region
          all_goals go_wp2
          all_goals go_ret
          all_goals exact ⟨ret_node (by rw [H.out]), below_drewN (Below.refl _ _) 1⟩

set_option maxHeartbeats 1600000 in
theorem rtext_any (l : Nodes) (ao : Option Addr) (cap : Nat) (s : ByteArray) (hs : (s.size : Int) ≤ 1000) (i : Int) (B : Nat) (hn : (l.n : Int) ≤ 1000) (w : World) (hB : B ≤ w.heap.size) (hl : Has w ao B l) :
    Calls Try.prog 41 #[.slice ao l.n cap, .string s, .int .i64 i] w fun e w' => e = .returned (.string (nodeT l s i)) ∧ Below w.heap.size w w' := by
  rcases place_of l.n i with h1 | ⟨h1, h2⟩ | ⟨j, rfl, hj⟩
  · have H := Lib.hid (text_out (l := l) (s := s) (.inl h1))
    go_enter Try.func41, Try.ntmps41
    go_wp2_with fail
    go_ret
    exact ⟨ret_node H.out, Below.refl _ _⟩
  · have H := Lib.hid (text_out (l := l) (s := s) (.inr h2))
    go_enter Try.func41, Try.ntmps41
    go_wp2_with fail
    go_ret
    exact ⟨ret_node H.out, Below.refl _ _⟩
  · obtain ⟨b, off, rfl, hbB, -, -, c2, c3, -⟩ := hl j hj
    have hj' : (j : Int) < l.n := by omega
    have HY := Lib.hid (text_in (l := l) (s := s) hj)
    have HN := Lib.hid (text_no (l := l) (s := s) (i := j))
    generalize l.fr j = x at *
    generalize l.tt j = y at *
    clear hl
    by_cases cx : x < 0
    · have ep : max x 0 = 0 := by omega
      rw [ep] at HY HN
      clear ep
      by_cases cy : (s.size : Int) < y
      · have eq : min y (s.size : Int) = (s.size : Int) := by omega
        rw [eq] at HY HN
        clear eq
        by_cases h3 : 0 < (s.size : Int)
        · have H := Lib.hid (HY.out h3)
          have hne : ¬ s = ByteArray.empty := fun e => by rw [e] at h3; simp at h3
          clear HY HN
          go_enter Try.func41, Try.ntmps41
          go_wp2_with fail
          go_region
          all_goals go_wp2
          all_goals go_ret
          all_goals exact ⟨ret_node (by rw [H.out]; try first | rfl | exact ext_all s), below_drewN (Below.refl _ _) 1⟩
        · have H := Lib.hid (HN.out h3)
          obtain rfl : s = ByteArray.empty := ByteArray.size_eq_zero_iff.1 (by omega)
          clear HY HN
          go_enter Try.func41, Try.ntmps41
          go_wp2_with fail
          go_region
          all_goals go_wp2
          all_goals go_ret
          all_goals exact ⟨ret_node (by rw [H.out]), below_drewN (Below.refl _ _) 1⟩
      · have eq : min y (s.size : Int) = y := by omega
        rw [eq] at HY HN
        clear eq
        by_cases h3 : 0 < y
        · have H := Lib.hid (HY.out h3)
          clear HY HN
          go_enter Try.func41, Try.ntmps41
          go_wp2_with fail
          go_region
          all_goals go_wp2
          all_goals go_ret
          all_goals exact ⟨ret_node (by rw [H.out]; try first | rfl | exact ext_all s), below_drewN (Below.refl _ _) 1⟩
        · have H := Lib.hid (HN.out h3)
          clear HY HN
          go_enter Try.func41, Try.ntmps41
          go_wp2_with fail
          go_region
          all_goals go_wp2
          all_goals go_ret
          all_goals exact ⟨ret_node (by rw [H.out]), below_drewN (Below.refl _ _) 1⟩
    · have ep : max x 0 = x := by omega
      rw [ep] at HY HN
      clear ep
      by_cases cy : (s.size : Int) < y
      · have eq : min y (s.size : Int) = (s.size : Int) := by omega
        rw [eq] at HY HN
        clear eq
        by_cases h3 : x < (s.size : Int)
        · have H := Lib.hid (HY.out h3)
          clear HY HN
          go_enter Try.func41, Try.ntmps41
          go_wp2_with fail
          go_region
          all_goals go_wp2
          all_goals go_ret
          all_goals exact ⟨ret_node (by rw [H.out]; try first | rfl | exact ext_all s), below_drewN (Below.refl _ _) 1⟩
        · have H := Lib.hid (HN.out h3)
          clear HY HN
          go_enter Try.func41, Try.ntmps41
          go_wp2_with fail
          go_region
          all_goals go_wp2
          all_goals go_ret
          all_goals exact ⟨ret_node (by rw [H.out]), below_drewN (Below.refl _ _) 1⟩
      · have eq : min y (s.size : Int) = y := by omega
        rw [eq] at HY HN
        clear eq
        by_cases h3 : x < y
        · have H := Lib.hid (HY.out h3)
          clear HY HN
          go_enter Try.func41, Try.ntmps41
          go_wp2_with fail
          go_region
          all_goals go_wp2
          all_goals go_ret
          all_goals exact ⟨ret_node (by rw [H.out]; try first | rfl | exact ext_all s), below_drewN (Below.refl _ _) 1⟩
        · have H := Lib.hid (HN.out h3)
          clear HY HN
          go_enter Try.func41, Try.ntmps41
          go_wp2_with fail
          go_region
          all_goals go_wp2
          all_goals go_ret
          all_goals exact ⟨ret_node (by rw [H.out]), below_drewN (Below.refl _ _) 1⟩

end Go.Proofs.Ytnopnjleibbakab
