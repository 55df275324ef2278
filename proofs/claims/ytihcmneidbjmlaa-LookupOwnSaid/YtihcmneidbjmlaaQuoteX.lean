/- The two digits behind \x: the walk of the reference's escape there. -/
import Derived.Test.YtihcmneidbjmlaaGg
import Derived.Deep.RegionLaw
namespace Go.Proofs.Ytihcmneidbjmlaa
set_option linter.unusedVariables false
open Go.RowKit

set_option maxHeartbeats 4000000 in
theorem escape_x (s : ByteArray) (hs : s.size ≤ 1000000) (k : Nat) (g1 : k + 2 < s.size) (sp : ByteArray) (hsz : sp.size ≤ 1000000) (x y : Int) (x0 : 0 ≤ x) (x1 : x ≤ 255) (y0 : 0 ≤ y) (y1 : y ≤ 255)
    (hc : (s[k].toNat : Int) = 120) (hx : (s[k + 1].toNat : Int) = x) (hy : (s[k + 2].toNat : Int) = y) (d1 d2 : Int) (g2 : 0 ≤ d1) (g3 : 0 ≤ d2) (dx : -1 ≤ d1 ∧ d1 ≤ 15) (dy : -1 ≤ d2 ∧ d2 ≤ 15)
    (H1 : Hid (∀ W, Calls Try.prog 69 #[.int .u8 x] W fun e w' => e = .returned (.int .i64 d1) ∧ w' = W))
    (H2 : Hid (∀ W, Calls Try.prog 69 #[.int .u8 y] W fun e w' => e = .returned (.int .i64 d2) ∧ w' = W))
    (HP : Hid (∀ W, Calls Try.prog 60 #[.int .u8 120, .string sp] W fun e w' => e = .returned (.bool (true && true)) ∧ w' = W))
    {o : Option (ByteArray × Nat)} (HO : Hid (o = some (strOfNums [16 * d1 + d2], k + 3))) (w : World) :
    Calls Try.prog 59 #[.string s, .int .i64 (k : Int), .string sp] w fun e w' => Ends o e ∧ Below w.heap.size w w' := by
  obtain ⟨-, dx⟩ := dx
  obtain ⟨-, dy⟩ := dy
  have ew : IntKind.u8.wrap (16 * d1 + d2) = 16 * d1 + d2 := by rw [IntKind.wrap_u8]; omega
  have K := conv_lit [16 * d1 + d2]
  simp only [List.map_cons, List.map_nil, List.length_cons, List.length_nil, Nat.zero_add] at K
  have K2 : ∀ w : World, (convert 108 9 (.slice (some ⟨w.heap.size, 0, none⟩) 1 1)).run Try.prog ((w.alloc (.cells #[.int .u8 (16 * d1 + d2)] 5)).drew) = .ok (.string (strOfNums [16 * d1 + d2])) ((w.alloc (.cells #[.int .u8 (16 * d1 + d2)] 5)).drew) := fun w => K w.drew
  clear K
  have g1' : (k : Int) + 2 < s.size := by omega
  go_enter Try.func59, Try.ntmps59
  go_wp2_with fail
  refine (HP.out _).mono ?_
  rintro e w1 ⟨rfl, rfl⟩
  go_wp2_with fail
  refine (H1.out _).mono ?_
  rintro e w1 ⟨rfl, rfl⟩
  go_wp2_with fail
  refine (H2.out _).mono ?_
  rintro e w1 ⟨rfl, rfl⟩
  go_wp2_with fail
  have v1 : IntKind.i64.wrap ((k : Int) + 1) = (k : Int) + 1 := by rw [IntKind.wrap_i64]; omega
  have v2 : IntKind.i64.wrap ((k : Int) + 2) = (k : Int) + 2 := by rw [IntKind.wrap_i64]; omega
  have v3 : IntKind.i64.wrap ((k : Int) + 3) = (k : Int) + 3 := by rw [IntKind.wrap_i64]; omega
  have v4 : IntKind.i64.wrap (16 * d1) = 16 * d1 := by rw [IntKind.wrap_i64]; omega
  have v5 : IntKind.i64.wrap (16 * d1 + d2) = 16 * d1 + d2 := by rw [IntKind.wrap_i64]; omega
  have b1 : (0 : Int) ≤ (k : Int) + 1 ∧ (k : Int) + 1 < s.size := ⟨by omega, by omega⟩
  have b2 : (0 : Int) ≤ (k : Int) + 2 ∧ (k : Int) + 2 < s.size := ⟨by omega, by omega⟩
  have i1 : ∀ h, ((s[((k : Int) + 1).toNat]'h).toNat : Int) = x := fun h => by
    have e : ((k : Int) + 1).toNat = k + 1 := by omega
    simp only [e]; exact hx
  have i2 : ∀ h, ((s[((k : Int) + 2).toNat]'h).toNat : Int) = y := fun h => by
    have e : ((k : Int) + 2).toNat = k + 2 := by omega
    simp only [e]; exact hy
  refine wp_region_any (by kernel_rfl) ?_
  try (change wpAny _ _ _ _ _ _ _ (World.drew _))
  refine wpAny_take (i := 0) (v := ?_) rfl (by kernel_rfl) (by kernel_rfl) (by kernel_rfl) (fun _ _ _ h => h) (Or.inl ⟨by rfl, ?_⟩) ?_
  rotate_left
  · intro w
    go_simp
    try with_reducible rfl
  go_simp
  refine wpAny_take (i := 1) (v := ?_) rfl (by kernel_rfl) (by kernel_rfl) (by kernel_rfl) (fun _ _ _ h => h) (Or.inl ⟨by rfl, ?_⟩) ?_
  rotate_left
  · intro w
    go_simp
    try with_reducible rfl
  go_simp
  refine wpAny_take (i := 2) (v := ?_) rfl (by kernel_rfl) (by kernel_rfl) (by kernel_rfl) (fun _ _ _ h => h) (Or.inl ⟨by rfl, ?_⟩) ?_
  rotate_left
  · intro w
    go_simp
    try with_reducible rfl
  go_simp
  refine wpAny_take (i := 3) (v := ?_) rfl (by kernel_rfl) (by kernel_rfl) (by kernel_rfl) (fun _ _ _ h => h) (Or.inl ⟨by rfl, ?_⟩) ?_
  rotate_left
  · intro w
    go_simp
    try with_reducible rfl
  go_simp
  refine wpAny_take (i := 6) (v := ?_) rfl (by kernel_rfl) (by kernel_rfl) (by kernel_rfl) (fun _ _ _ h => h) (Or.inl ⟨by rfl, ?_⟩) ?_
  rotate_left
  · intro w
    go_simp
    try with_reducible rfl
  go_simp
  refine wpAny_take (i := 7) (v := ?_) rfl (by kernel_rfl) (by kernel_rfl) (by kernel_rfl) (fun _ _ _ h => h) (Or.inl ⟨by rfl, ?_⟩) ?_
  rotate_left
  · intro w
    go_simp
    try with_reducible rfl
  go_simp
  refine wpAny_take (i := 8) (v := ?_) rfl (by kernel_rfl) (by kernel_rfl) (by kernel_rfl) (fun _ _ _ h => h) (Or.inl ⟨by rfl, ?_⟩) ?_
  rotate_left
  · intro w
    go_simp
    try with_reducible rfl
  go_simp
  refine wpAny_take (i := 9) (v := ?_) rfl (by kernel_rfl) (by kernel_rfl) (by kernel_rfl) (fun _ _ _ h => h) (Or.inl ⟨by rfl, ?_⟩) ?_
  rotate_left
  · intro w
    go_simp
    try with_reducible rfl
  go_simp
  refine wpAny_take (i := 15) (v := ?_) rfl (by kernel_rfl) (by kernel_rfl) (by kernel_rfl) (fun _ _ _ h => h) (Or.inl ⟨by rfl, ?_⟩) ?_
  rotate_left
  · intro w
    go_simp
    try with_reducible rfl
  go_simp
  refine wpAny_take (i := 16) (v := ?_) rfl (by kernel_rfl) (by kernel_rfl) (by kernel_rfl) (fun _ _ _ h => h) (Or.inl ⟨by rfl, ?_⟩) ?_
  rotate_left
  · intro w
    go_simp
    try with_reducible rfl
  go_simp
  refine wpAny_ready (rs := [4]) (by kernel_rfl) (by simp) ?_
  refine AllReady.cons rfl (fun K hK => ?_) ?_
  rotate_left
  · exact AllReady.nil
  go_simp
  go_at_call 69
  refine (H1.out _).mono ?_
  rintro e wy ⟨rfl, rfl⟩
  go_simp
  refine hK _ _ ?_
  clear hK K
  refine wpAny_take (i := 5) (v := ?_) rfl (by kernel_rfl) (by kernel_rfl) (by kernel_rfl) (fun _ _ _ h => h) (Or.inl ⟨by rfl, ?_⟩) ?_
  rotate_left
  · intro w
    go_simp
    try with_reducible rfl
  go_simp
  refine wpAny_ready (rs := [10]) (by kernel_rfl) (by simp) ?_
  refine AllReady.cons rfl (fun K hK => ?_) ?_
  rotate_left
  · exact AllReady.nil
  go_simp
  go_at_call 69
  refine (H2.out _).mono ?_
  rintro e wy ⟨rfl, rfl⟩
  go_simp
  refine hK _ _ ?_
  clear hK K
  refine wpAny_take (i := 11) (v := ?_) rfl (by kernel_rfl) (by kernel_rfl) (by kernel_rfl) (fun _ _ _ h => h) (Or.inl ⟨by rfl, ?_⟩) ?_
  rotate_left
  · intro w
    go_simp
    try with_reducible rfl
  go_simp
  refine wpAny_take (i := 12) (v := ?_) rfl (by kernel_rfl) (by kernel_rfl) (by kernel_rfl) (fun _ _ _ h => h) (Or.inl ⟨by rfl, ?_⟩) ?_
  rotate_left
  · intro w
    go_simp
    try with_reducible rfl
  go_simp
  refine wpAny_ready (rs := [13]) (by kernel_rfl) (by simp) ?_
  refine AllReady.cons rfl (fun K hK => ?_) ?_
  rotate_left
  · exact AllReady.nil
  go_simp
  refine hK _ _ ?_
  clear hK K
  refine wpAny_ready (rs := [14]) (by kernel_rfl) (by simp) ?_
  refine AllReady.cons rfl (fun K hK => ?_) ?_
  rotate_left
  · exact AllReady.nil
  go_simp
  refine hK _ _ ?_
  clear hK K
  refine wpAny_take (i := 17) (v := ?_) rfl (by kernel_rfl) (by kernel_rfl) (by kernel_rfl) (fun _ _ _ h => h) (Or.inl ⟨by rfl, ?_⟩) ?_
  rotate_left
  · intro w
    go_simp
    try with_reducible rfl
  go_simp
  refine wpAny_take (i := 18) (v := ?_) rfl (by kernel_rfl) (by kernel_rfl) (by kernel_rfl) (fun _ _ _ h => h) (Or.inl ⟨by rfl, ?_⟩) ?_
  rotate_left
  · intro w
    go_simp
    try with_reducible rfl
  go_simp
  refine wpAny_take (i := 19) (v := ?_) rfl (by kernel_rfl) (by kernel_rfl) (by kernel_rfl) (fun _ _ _ h => h) (Or.inl ⟨by rfl, ?_⟩) ?_
  rotate_left
  · intro w
    go_simp
    try with_reducible rfl
  go_simp
  refine wpAny_done (by kernel_rfl) ?_ _
  go_wp2
  go_ret3
  exact ⟨ends_yes HO.out rfl (by omega), by go_grown⟩
end Go.Proofs.Ytihcmneidbjmlaa
