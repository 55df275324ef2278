/- The two digits behind \x: the walk of the reference's escape there. What stands behind a backslash: the walk of the reference's escape. One byte or what is escaped: the walk of the reference's one. A literal that stands at a place: what it is, and the walk of the reference's ReadText. -/
import Derived.Test.YtialpofiagiclaaDoorHg
import Derived.Deep.RegionLaw
namespace Go.Proofs.YtialpofiagiclaaDoor
set_option linter.unusedVariables false
set_option maxRecDepth 1000000
open Go.RowKit

set_option maxHeartbeats 4000000 in
theorem escape_x (s : ByteArray) (hs : s.size ≤ 1000000) (k : Nat) (g1 : k + 2 < s.size) (sp : ByteArray) (hsz : sp.size ≤ 1000000) (x y : Int) (x0 : 0 ≤ x) (x1 : x ≤ 255) (y0 : 0 ≤ y) (y1 : y ≤ 255)
    (hc : (s[k].toNat : Int) = 120) (hx : (s[k + 1].toNat : Int) = x) (hy : (s[k + 2].toNat : Int) = y) (d1 d2 : Int) (g2 : 0 ≤ d1) (g3 : 0 ≤ d2) (dx : -1 ≤ d1 ∧ d1 ≤ 15) (dy : -1 ≤ d2 ∧ d2 ≤ 15)
    (H1 : Hid (∀ W, Calls Tryd.prog 70 #[.int .u8 x] W fun e w' => e = .returned (.int .i64 d1) ∧ w' = W))
    (H2 : Hid (∀ W, Calls Tryd.prog 70 #[.int .u8 y] W fun e w' => e = .returned (.int .i64 d2) ∧ w' = W))
    (HP : Hid (∀ W, Calls Tryd.prog 64 #[.int .u8 120, .string sp] W fun e w' => e = .returned (.bool (true && true)) ∧ w' = W))
    {o : Option (ByteArray × Nat)} (HO : Hid (o = some (strOfNums [16 * d1 + d2], k + 3))) (w : World) :
    Calls Tryd.prog 63 #[.string s, .int .i64 (k : Int), .string sp] w fun e w' => Ends o e ∧ Below w.heap.size w w' := by
  obtain ⟨-, dx⟩ := dx
  obtain ⟨-, dy⟩ := dy
  have ew : IntKind.u8.wrap (16 * d1 + d2) = 16 * d1 + d2 := by rw [IntKind.wrap_u8]; omega
  have K := conv_lit [16 * d1 + d2]
  simp only [List.map_cons, List.map_nil, List.length_cons, List.length_nil, Nat.zero_add] at K
  have K2 : ∀ w : World, (convert 54 9 (.slice (some ⟨w.heap.size, 0, none⟩) 1 1)).run Tryd.prog ((w.alloc (.cells #[.int .u8 (16 * d1 + d2)] 5)).drew) = .ok (.string (strOfNums [16 * d1 + d2])) ((w.alloc (.cells #[.int .u8 (16 * d1 + d2)] 5)).drew) := fun w => K w.drew
  clear K
  have g1' : (k : Int) + 2 < s.size := by omega
  go_enter Tryd.func63, Tryd.ntmps63
  go_wp2_with fail
  refine (HP.out _).mono ?_
  rintro e w1 ⟨rfl, rfl⟩
  go_wp2_with fail
  refine (H1.out _).mono ?_
  rintro e w1 ⟨rfl, rfl⟩
  go_wp2_with fail
  refine (H2.out _).mono ?_
  rintro e w1 ⟨rfl, rfl⟩
  go_wp2_with fail
  have v1 : IntKind.i64.wrap ((k : Int) + 1) = (k : Int) + 1 := by rw [IntKind.wrap_i64]; omega
  have v2 : IntKind.i64.wrap ((k : Int) + 2) = (k : Int) + 2 := by rw [IntKind.wrap_i64]; omega
  have v3 : IntKind.i64.wrap ((k : Int) + 3) = (k : Int) + 3 := by rw [IntKind.wrap_i64]; omega
  have v4 : IntKind.i64.wrap (16 * d1) = 16 * d1 := by rw [IntKind.wrap_i64]; omega
  have v5 : IntKind.i64.wrap (16 * d1 + d2) = 16 * d1 + d2 := by rw [IntKind.wrap_i64]; omega
  have b1 : (0 : Int) ≤ (k : Int) + 1 ∧ (k : Int) + 1 < s.size := ⟨by omega, by omega⟩
  have b2 : (0 : Int) ≤ (k : Int) + 2 ∧ (k : Int) + 2 < s.size := ⟨by omega, by omega⟩
  have i1 : ∀ h, ((s[((k : Int) + 1).toNat]'h).toNat : Int) = x := fun h => by
    have e : ((k : Int) + 1).toNat = k + 1 := by omega
    simp only [e]; exact hx
  have i2 : ∀ h, ((s[((k : Int) + 2).toNat]'h).toNat : Int) = y := fun h => by
    have e : ((k : Int) + 2).toNat = k + 2 := by omega
    simp only [e]; exact hy
  refine wp_region_any (by kernel_rfl) ?_
  try (change wpAny _ _ _ _ _ _ _ (World.drew _))
  refine wpAny_take (i := 0) (v := ?_) rfl (by kernel_rfl) (by kernel_rfl) (by kernel_rfl) (fun _ _ _ h => h) (Or.inl ⟨by rfl, ?_⟩) ?_
  rotate_left
  · intro w
    go_simp
    try with_reducible rfl
  go_simp
  refine wpAny_take (i := 1) (v := ?_) rfl (by kernel_rfl) (by kernel_rfl) (by kernel_rfl) (fun _ _ _ h => h) (Or.inl ⟨by rfl, ?_⟩) ?_
  rotate_left
  · intro w
    go_simp
    try with_reducible rfl
  go_simp
  refine wpAny_take (i := 2) (v := ?_) rfl (by kernel_rfl) (by kernel_rfl) (by kernel_rfl) (fun _ _ _ h => h) (Or.inl ⟨by rfl, ?_⟩) ?_
  rotate_left
  · intro w
    go_simp
    try with_reducible rfl
  go_simp
  refine wpAny_take (i := 3) (v := ?_) rfl (by kernel_rfl) (by kernel_rfl) (by kernel_rfl) (fun _ _ _ h => h) (Or.inl ⟨by rfl, ?_⟩) ?_
  rotate_left
  · intro w
    go_simp
    try with_reducible rfl
  go_simp
  refine wpAny_take (i := 6) (v := ?_) rfl (by kernel_rfl) (by kernel_rfl) (by kernel_rfl) (fun _ _ _ h => h) (Or.inl ⟨by rfl, ?_⟩) ?_
  rotate_left
  · intro w
    go_simp
    try with_reducible rfl
  go_simp
  refine wpAny_take (i := 7) (v := ?_) rfl (by kernel_rfl) (by kernel_rfl) (by kernel_rfl) (fun _ _ _ h => h) (Or.inl ⟨by rfl, ?_⟩) ?_
  rotate_left
  · intro w
    go_simp
    try with_reducible rfl
  go_simp
  refine wpAny_take (i := 8) (v := ?_) rfl (by kernel_rfl) (by kernel_rfl) (by kernel_rfl) (fun _ _ _ h => h) (Or.inl ⟨by rfl, ?_⟩) ?_
  rotate_left
  · intro w
    go_simp
    try with_reducible rfl
  go_simp
  refine wpAny_take (i := 9) (v := ?_) rfl (by kernel_rfl) (by kernel_rfl) (by kernel_rfl) (fun _ _ _ h => h) (Or.inl ⟨by rfl, ?_⟩) ?_
  rotate_left
  · intro w
    go_simp
    try with_reducible rfl
  go_simp
  refine wpAny_take (i := 15) (v := ?_) rfl (by kernel_rfl) (by kernel_rfl) (by kernel_rfl) (fun _ _ _ h => h) (Or.inl ⟨by rfl, ?_⟩) ?_
  rotate_left
  · intro w
    go_simp
    try with_reducible rfl
  go_simp
  refine wpAny_take (i := 16) (v := ?_) rfl (by kernel_rfl) (by kernel_rfl) (by kernel_rfl) (fun _ _ _ h => h) (Or.inl ⟨by rfl, ?_⟩) ?_
  rotate_left
  · intro w
    go_simp
    try with_reducible rfl
  go_simp
  refine wpAny_ready (rs := [4]) (by kernel_rfl) (by simp) ?_
  refine AllReady.cons rfl (fun K hK => ?_) ?_
  rotate_left
  · exact AllReady.nil
  go_simp
  go_at_call 70
  refine (H1.out _).mono ?_
  rintro e wy ⟨rfl, rfl⟩
  go_simp
  refine hK _ _ ?_
  clear hK K
  refine wpAny_take (i := 5) (v := ?_) rfl (by kernel_rfl) (by kernel_rfl) (by kernel_rfl) (fun _ _ _ h => h) (Or.inl ⟨by rfl, ?_⟩) ?_
  rotate_left
  · intro w
    go_simp
    try with_reducible rfl
  go_simp
  refine wpAny_ready (rs := [10]) (by kernel_rfl) (by simp) ?_
  refine AllReady.cons rfl (fun K hK => ?_) ?_
  rotate_left
  · exact AllReady.nil
  go_simp
  go_at_call 70
  refine (H2.out _).mono ?_
  rintro e wy ⟨rfl, rfl⟩
  go_simp
  refine hK _ _ ?_
  clear hK K
  refine wpAny_take (i := 11) (v := ?_) rfl (by kernel_rfl) (by kernel_rfl) (by kernel_rfl) (fun _ _ _ h => h) (Or.inl ⟨by rfl, ?_⟩) ?_
  rotate_left
  · intro w
    go_simp
    try with_reducible rfl
  go_simp
  refine wpAny_take (i := 12) (v := ?_) rfl (by kernel_rfl) (by kernel_rfl) (by kernel_rfl) (fun _ _ _ h => h) (Or.inl ⟨by rfl, ?_⟩) ?_
  rotate_left
  · intro w
    go_simp
    try with_reducible rfl
  go_simp
  refine wpAny_ready (rs := [13]) (by kernel_rfl) (by simp) ?_
  refine AllReady.cons rfl (fun K hK => ?_) ?_
  rotate_left
  · exact AllReady.nil
  go_simp
  refine hK _ _ ?_
  clear hK K
  refine wpAny_ready (rs := [14]) (by kernel_rfl) (by simp) ?_
  refine AllReady.cons rfl (fun K hK => ?_) ?_
  rotate_left
  · exact AllReady.nil
  go_simp
  refine hK _ _ ?_
  clear hK K
  refine wpAny_take (i := 17) (v := ?_) rfl (by kernel_rfl) (by kernel_rfl) (by kernel_rfl) (fun _ _ _ h => h) (Or.inl ⟨by rfl, ?_⟩) ?_
  rotate_left
  · intro w
    go_simp
    try with_reducible rfl
  go_simp
  refine wpAny_take (i := 18) (v := ?_) rfl (by kernel_rfl) (by kernel_rfl) (by kernel_rfl) (fun _ _ _ h => h) (Or.inl ⟨by rfl, ?_⟩) ?_
  rotate_left
  · intro w
    go_simp
    try with_reducible rfl
  go_simp
  refine wpAny_take (i := 19) (v := ?_) rfl (by kernel_rfl) (by kernel_rfl) (by kernel_rfl) (fun _ _ _ h => h) (Or.inl ⟨by rfl, ?_⟩) ?_
  rotate_left
  · intro w
    go_simp
    try with_reducible rfl
  go_simp
  refine wpAny_done (by kernel_rfl) ?_ _
  go_wp2
  go_ret3
  exact ⟨ends_yes HO.out rfl (by omega), by go_grown⟩
end Go.Proofs.YtialpofiagiclaaDoor

namespace Go.Proofs.YtialpofiagiclaaDoor
set_option linter.unusedVariables false
set_option maxRecDepth 1000000
open Go.RowKit

theorem plain_sp {sp : ByteArray} {c : Int} (hi : isSp sp c = true) : plainB sp c = false := by unfold plainB; rw [hi]; simp
theorem plain_non {sp : ByteArray} {c : Int} (hi : isSp sp c = false) (h : c ≠ 92) : plainB sp c = (decide (32 ≤ c) && decide (c ≤ 126)) := by
  unfold plainB; rw [hi]; have : (c != 92) = true := by simp [h]
  rw [this]; simp

theorem two_iff {s : ByteArray} {a : Nat} : hexN s a 2 = 2 ↔ a + 1 < s.size ∧ 0 ≤ hexV (byt s a) ∧ 0 ≤ hexV (byt s (a + 1)) := by
  constructor
  · intro h
    obtain ⟨h1, h2, h3⟩ := hexN_pre h
    obtain ⟨-, -, h5⟩ := hexN_pre h1
    exact ⟨h2, h5, h3⟩
  · rintro ⟨h1, h2, h3⟩
    exact hexN_go (hexN_go (k := 0) rfl (by omega) h2) h1 h3

set_option maxHeartbeats 1600000 in
theorem escape_any (s : ByteArray) (hs : s.size ≤ 1000000) (k : Nat) (hk2 : k ≤ 1000001) (sp : ByteArray) (hsz : sp.size ≤ 1000000) (hsp : ∀ c : Int, 0 ≤ c → c ≤ 255 → isSp sp c = true → 32 ≤ c ∧ c ≤ 126) (w : World) :
    Calls Tryd.prog 63 #[.string s, .int .i64 (k : Int), .string sp] w fun e w' => Ends (escO s k sp) e ∧ Below w.heap.size w w' := by
  by_cases hk : k < s.size
  · obtain ⟨c, hc⟩ : ∃ c : Int, (s[k].toNat : Int) = c := ⟨_, rfl⟩
    have hbc : byt s k = c := by rw [byt_get hk, hc]
    have HF := Lib.hid (escO_at (sp := sp) hk hbc)
    obtain ⟨hc0, hc1⟩ : 0 ≤ c ∧ c ≤ 255 := by rw [← hbc]; exact byt_lt s k
    have HSP := Lib.hid (hsp c hc0 hc1)
    have HG := Lib.hid (rsign_any s hs (k + 2) (by omega))
    rw [show ((k + 2 : Nat) : Int) = (k : Int) + 2 by omega] at HG
    obtain ⟨o, ho⟩ : ∃ o, escO s k sp = o := ⟨_, rfl⟩
    rw [ho] at HF ⊢
    clear ho hbc hsp
    by_cases h1 : c = 110
    · subst h1
      have HO := Lib.hid (show o = some (⟨#[10]⟩, k + 1) by rw [HF.out]; rfl)
      clear HF HSP HG
      go_enter Tryd.func63, Tryd.ntmps63
      go_wp2
      go_ret3
      exact ⟨ends_yes HO.out rfl (by omega), Below.refl _ _⟩
    have e1 : (c == 110) = false := beq_eq_false_iff_ne.2 h1
    by_cases h2 : c = 116
    · subst h2
      have HO := Lib.hid (show o = some (⟨#[9]⟩, k + 1) by rw [HF.out]; rfl)
      clear HF HSP HG
      go_enter Tryd.func63, Tryd.ntmps63
      go_wp2
      go_ret3
      exact ⟨ends_yes HO.out rfl (by omega), Below.refl _ _⟩
    have e2 : (c == 116) = false := beq_eq_false_iff_ne.2 h2
    have HP := Lib.hid (fun W => rplain_any sp hsz c hc0 hc1 W)
    by_cases h3 : c = 92
    · subst h3
      have HO := Lib.hid (show o = some (strOfNums [92], k + 1) by rw [HF.out, if_neg h1, if_neg h2, if_pos (by simp)])
      have K := conv_lit [92]
      simp only [List.map_cons, List.map_nil, List.length_cons, List.length_nil, Nat.zero_add] at K
      clear HF HSP HG HP
      go_enter Tryd.func63, Tryd.ntmps63
      go_wp2
      go_ret3
      exact ⟨ends_yes HO.out rfl (by omega), by go_grown⟩
    have e3 : (c == 92) = false := beq_eq_false_iff_ne.2 h3
    obtain ⟨bi, hbi⟩ : ∃ bi, isSp sp c = bi := ⟨_, rfl⟩
    cases bi
    · rw [plain_non hbi h3] at HP
      have HF2 := Lib.hid (show o = if c = 120 then (if hexN s (k + 1) 2 = 2 then some (strOfNums [valN s (k + 1) 2], k + 3) else none)
        else if c = 117 ∧ standB s ((k + 1 : Nat) : Int) 123 = true then signO s (k + 2) else none by rw [HF.out, if_neg h1, if_neg h2, hbi, e3]; simp)
      clear HF HSP hbi
      by_cases h5 : c = 120
      · subst h5
        rw [decide_eq_true (by decide), decide_eq_true (by decide)] at HP
        have HF3 := Lib.hid (show o = if hexN s (k + 1) 2 = 2 then some (strOfNums [valN s (k + 1) 2], k + 3) else none by rw [HF2.out, if_pos rfl])
        clear HF2 HG
        by_cases g1 : k + 2 < s.size
        · have g1' : (k : Int) + 2 < s.size := by omega
          obtain ⟨x, hx⟩ : ∃ x : Int, (s[k + 1].toNat : Int) = x := ⟨_, rfl⟩
          have hxb : byt s (k + 1) = x := by rw [byt_get (by omega), hx]
          obtain ⟨x0, x1⟩ : 0 ≤ x ∧ x ≤ 255 := by rw [← hxb]; exact byt_lt s (k + 1)
          obtain ⟨y, hy⟩ : ∃ y : Int, (s[k + 2].toNat : Int) = y := ⟨_, rfl⟩
          have hyb : byt s (k + 2) = y := by rw [byt_get g1, hy]
          obtain ⟨y0, y1⟩ : 0 ≤ y ∧ y ≤ 255 := by rw [← hyb]; exact byt_lt s (k + 2)
          have H1 := Lib.hid (fun W => hex_any x x0 x1 W)
          have H2 := Lib.hid (fun W => hex_any y y0 y1 W)
          have dx := hexV_bd x
          have dy := hexV_bd y
          have hi := two_iff (s := s) (a := k + 1)
          rw [hxb, show byt s (k + 1 + 1) = y from hyb] at hi
          obtain ⟨d1, hd1⟩ : ∃ d, hexV x = d := ⟨_, rfl⟩
          obtain ⟨d2, hd2⟩ : ∃ d, hexV y = d := ⟨_, rfl⟩
          have hval : valN s (k + 1) 2 = 16 * d1 + d2 := by
            show (0 * 16 + hexV (byt s (k + 1))) * 16 + hexV (byt s (k + 1 + 1)) = _
            rw [hxb, show byt s (k + 1 + 1) = y from hyb, hd1, hd2]; omega
          rw [hd1] at H1 dx hi
          rw [hd2] at H2 dy hi
          clear hd1 hd2 hxb hyb
          by_cases g2 : 0 ≤ d1
          · by_cases g3 : 0 ≤ d2
            · have HO := Lib.hid (show o = some (strOfNums [16 * d1 + d2], k + 3) by rw [HF3.out, if_pos (hi.2 ⟨by omega, g2, g3⟩), hval])
              exact escape_x s hs k g1 sp hsz x y x0 x1 y0 y1 hc hx hy d1 d2 g2 g3 dx dy H1 H2 HP HO w
            · have HO := Lib.hid (show o = none by rw [HF3.out, if_neg (fun h => g3 (hi.1 h).2.2)])
              clear HF3 hi hval dx dy
              go_enter Tryd.func63, Tryd.ntmps63
              go_wp2_with fail
              refine (HP.out _).mono ?_
              rintro e w1 ⟨rfl, rfl⟩
              go_wp2_with fail
              refine (H1.out _).mono ?_
              rintro e w1 ⟨rfl, rfl⟩
              go_wp2_with fail
              refine (H2.out _).mono ?_
              rintro e w1 ⟨rfl, rfl⟩
              go_wp2
              go_ret3
              exact ⟨ends_no HO.out _ _, Below.refl _ _⟩
          · have HO := Lib.hid (show o = none by rw [HF3.out, if_neg (fun h => g2 (hi.1 h).2.1)])
            clear HF3 hi hval dx dy H2
            go_enter Tryd.func63, Tryd.ntmps63
            go_wp2_with fail
            refine (HP.out _).mono ?_
            rintro e w1 ⟨rfl, rfl⟩
            go_wp2_with fail
            refine (H1.out _).mono ?_
            rintro e w1 ⟨rfl, rfl⟩
            go_wp2
            go_ret3
            exact ⟨ends_no HO.out _ _, Below.refl _ _⟩
        · have g1' : ¬ (k : Int) + 2 < s.size := by omega
          have HO := Lib.hid (show o = none by rw [HF3.out, if_neg (fun h => g1 (by have := (two_iff.1 h).1; omega))])
          clear HF3
          go_enter Tryd.func63, Tryd.ntmps63
          go_wp2_with fail
          refine (HP.out _).mono ?_
          rintro e w1 ⟨rfl, rfl⟩
          go_wp2
          go_ret3
          exact ⟨ends_no HO.out _ _, Below.refl _ _⟩
      have e5 : (c == 120) = false := beq_eq_false_iff_ne.2 h5
      by_cases h6 : c = 117
      · subst h6
        by_cases g1 : k + 1 < s.size
        · obtain ⟨x, hx⟩ : ∃ x : Int, (s[k + 1].toNat : Int) = x := ⟨_, rfl⟩
          have hxb : byt s (k + 1) = x := by rw [byt_get g1, hx]
          have g1' : (k : Int) + 1 < s.size := by omega
          by_cases g2 : x = 123
          · subst g2
            have HO := Lib.hid (show signO s (k + 2) = o by rw [HF2.out, stand_in g1, hxb]; simp)
            rw [HO.out] at HG
            clear HF2 hxb HO
            go_enter Tryd.func63, Tryd.ntmps63
            go_wp2_with fail
            refine (HP.out _).mono ?_
            rintro e w1 ⟨rfl, rfl⟩
            go_wp2_with fail
            refine (HG.out _).mono ?_
            rintro e w1 ⟨⟨t, n, b, rfl, hr⟩, hb1⟩
            go_wp2
            go_ret3
            exact ⟨⟨t, n, b, rfl, hr⟩, hb1⟩
          · have e7 : (x == 123) = false := beq_eq_false_iff_ne.2 g2
            have HO := Lib.hid (show o = none by rw [HF2.out, stand_in g1, hxb, e7]; simp)
            clear HF2 hxb HG
            go_enter Tryd.func63, Tryd.ntmps63
            go_wp2_with fail
            refine (HP.out _).mono ?_
            rintro e w1 ⟨rfl, rfl⟩
            go_wp2
            go_ret3
            exact ⟨ends_no HO.out _ _, Below.refl _ _⟩
        · have g1' : ¬ (k : Int) + 1 < s.size := by omega
          have HO := Lib.hid (show o = none by rw [HF2.out, stand_out g1]; simp)
          clear HF2 HG
          go_enter Tryd.func63, Tryd.ntmps63
          go_wp2_with fail
          refine (HP.out _).mono ?_
          rintro e w1 ⟨rfl, rfl⟩
          go_wp2
          go_ret3
          exact ⟨ends_no HO.out _ _, Below.refl _ _⟩
      have e6 : (c == 117) = false := beq_eq_false_iff_ne.2 h6
      have HO := Lib.hid (show o = none by rw [HF2.out, if_neg h5, if_neg (fun h => h6 h.1)])
      clear HF2 HG
      have g : (32 ≤ c ∧ c ≤ 126) ∨ c < 32 ∨ 126 < c := by omega
      rcases g with ⟨g, g'⟩ | g | g
      · rw [decide_eq_true g, decide_eq_true g'] at HP
        go_enter Tryd.func63, Tryd.ntmps63
        go_wp2_with fail
        refine (HP.out _).mono ?_
        rintro e w1 ⟨rfl, rfl⟩
        go_wp2
        go_ret3
        exact ⟨ends_no HO.out _ _, Below.refl _ _⟩
      · rw [decide_eq_false (by omega : ¬ 32 ≤ c), Bool.false_and] at HP
        go_enter Tryd.func63, Tryd.ntmps63
        go_wp2_with fail
        refine (HP.out _).mono ?_
        rintro e w1 ⟨rfl, rfl⟩
        go_wp2
        go_ret3
        exact ⟨ends_no HO.out _ _, Below.refl _ _⟩
      · rw [decide_eq_false (by omega : ¬ c ≤ 126), Bool.and_false] at HP
        have g0 : 32 ≤ c := by omega
        go_enter Tryd.func63, Tryd.ntmps63
        go_wp2_with fail
        refine (HP.out _).mono ?_
        rintro e w1 ⟨rfl, rfl⟩
        go_wp2
        go_ret3
        exact ⟨ends_no HO.out _ _, Below.refl _ _⟩
    · obtain ⟨g0, g1⟩ := HSP.out hbi
      rw [plain_sp hbi] at HP
      have HO := Lib.hid (show o = some (strOfNums [c], k + 1) by rw [HF.out, if_neg h1, if_neg h2, hbi]; simp)
      have K := conv_lit [c]
      simp only [List.map_cons, List.map_nil, List.length_cons, List.length_nil, Nat.zero_add] at K
      clear HF HSP HG hbi
      go_enter Tryd.func63, Tryd.ntmps63
      go_wp2_with fail
      refine (HP.out _).mono ?_
      rintro e w1 ⟨rfl, rfl⟩
      go_wp2
      go_ret3
      exact ⟨ends_yes HO.out rfl (by omega), by go_grown⟩
  · have HO := Lib.hid (escO_out (sp := sp) hk)
    go_enter Tryd.func63, Tryd.ntmps63
    go_wp2
    go_ret3
    exact ⟨ends_no HO.out _ _, Below.refl _ _⟩
end Go.Proofs.YtialpofiagiclaaDoor

namespace Go.Proofs.YtialpofiagiclaaDoor
set_option linter.unusedVariables false
set_option maxRecDepth 1000000
open Go.RowKit

theorem plain_92 (sp : ByteArray) : plainB sp 92 = false := by unfold plainB; simp

set_option maxHeartbeats 1600000 in
theorem one_any (s : ByteArray) (hs : s.size ≤ 1000000) (k : Nat) (hk2 : k ≤ 2000000) (sp : ByteArray) (hsz : sp.size ≤ 1000000) (hsp : ∀ c : Int, 0 ≤ c → c ≤ 255 → isSp sp c = true → 32 ≤ c ∧ c ≤ 126) (w : World) :
    Calls Tryd.prog 52 #[.string s, .int .i64 (k : Int), .string sp] w fun e w' => Ends (readO s k sp) e ∧ Below w.heap.size w w' := by
  by_cases hk : k < s.size
  · obtain ⟨c, hc⟩ : ∃ c : Int, (s[k].toNat : Int) = c := ⟨_, rfl⟩
    have hbc : byt s k = c := by rw [byt_get hk, hc]
    have HF := Lib.hid (readO_at (sp := sp) hk hbc)
    obtain ⟨hc0, hc1⟩ : 0 ≤ c ∧ c ≤ 255 := by rw [← hbc]; exact byt_lt s k
    have HX1 := Lib.hid (one_byte hk)
    rw [hbc] at HX1
    have HE := Lib.hid (fun W => escape_any s hs (k + 1) (by omega) sp hsz hsp W)
    rw [show ((k + 1 : Nat) : Int) = (k : Int) + 1 by omega] at HE
    have HP := Lib.hid (fun W => rplain_any sp hsz c hc0 hc1 W)
    obtain ⟨o, ho⟩ : ∃ o, readO s k sp = o := ⟨_, rfl⟩
    rw [ho] at HF ⊢
    clear ho hbc hsp
    have hsl : (k : Int) + 1 ≤ s.size := by omega
    by_cases h1 : c = 92
    · subst h1
      rw [show escO s (k + 1) sp = o by rw [HF.out, plain_92]; simp] at HE
      clear HF HX1 HP
      go_enter Tryd.func52, Tryd.ntmps52
      go_wp2_with fail
      refine (HE.out _).mono ?_
      rintro e w1 ⟨⟨t, n, b, rfl, hr⟩, hb1⟩
      go_wp2
      go_ret3
      exact ⟨⟨t, n, b, rfl, hr⟩, hb1⟩
    · have e1 : (c == 92) = false := beq_eq_false_iff_ne.2 h1
      obtain ⟨bp, hbp⟩ : ∃ bp, plainB sp c = bp := ⟨_, rfl⟩
      rw [hbp] at HP HF
      clear hbp HE
      cases bp
      · have HO := Lib.hid (show o = none by rw [HF.out, if_neg h1]; simp)
        clear HF HX1
        go_enter Tryd.func52, Tryd.ntmps52
        go_wp2_with fail
        refine (HP.out _).mono ?_
        rintro e w1 ⟨rfl, rfl⟩
        go_wp2
        go_ret3
        exact ⟨ends_no HO.out _ _, Below.refl _ _⟩
      · have HO := Lib.hid (show o = some (strOfNums [c], k + 1) by rw [HF.out]; simp)
        clear HF
        go_enter Tryd.func52, Tryd.ntmps52
        go_wp2_with fail
        refine (HP.out _).mono ?_
        rintro e w1 ⟨rfl, rfl⟩
        go_wp2
        go_ret3
        exact ⟨ends_yes HO.out HX1.out (by omega), Below.refl _ _⟩
  · have HO := Lib.hid (readO_out (sp := sp) hk)
    go_enter Tryd.func52, Tryd.ntmps52
    go_wp2
    go_ret3
    exact ⟨ends_no HO.out _ _, Below.refl _ _⟩
end Go.Proofs.YtialpofiagiclaaDoor

namespace Go.Proofs.YtialpofiagiclaaDoor
set_option linter.unusedVariables false
set_option maxRecDepth 1000000
open Go.RowKit

theorem ends_none {e : Ending} (h : Ends none e) : ∃ t n, e = .returned (.tuple #[.string t, .int .i64 n, .bool false]) := by
  obtain ⟨t, n, b, rfl, h⟩ := h
  obtain rfl : b = false := h
  exact ⟨t, n, rfl⟩
theorem ends_some {u : ByteArray} {m : Nat} {e : Ending} (h : Ends (some (u, m)) e) : e = .returned (.tuple #[.string u, .int .i64 (m : Int), .bool true]) := by
  obtain ⟨t, n, b, rfl, h⟩ := h
  obtain ⟨rfl, rfl, rfl⟩ : b = true ∧ t = u ∧ n = (m : Int) := h
  rfl
theorem encS_le (n : Int) : (encS n).size ≤ 4 := by
  unfold encS
  split
  · rw [strOfNums_size, encL_len]; split <;> (try split) <;> (try split) <;> omega
  · decide
theorem one_size (c : Int) : (strOfNums [c]).size ≤ 4 := by rw [strOfNums_size]; simp
theorem signO_bd {s : ByteArray} {a m : Nat} {u : ByteArray} (h : signO s a = some (u, m)) : a < m ∧ m ≤ a + 7 ∧ u.size ≤ 4 := by
  unfold signO at h
  split at h
  · have := hexN_le s a 6
    injection h with h
    injection h with h1 h2
    subst h1 h2
    exact ⟨by omega, by omega, encS_le _⟩
  · cases h
theorem escO_bd {s : ByteArray} {k m : Nat} {sp u : ByteArray} (h : escO s k sp = some (u, m)) : k < m ∧ m ≤ k + 9 ∧ u.size ≤ 4 := by
  by_cases hk : k < s.size
  · rw [escO_at hk rfl] at h
    split at h
    · (injection h with h; injection h with h1 h2; subst h1 h2; exact ⟨by omega, by omega, by decide⟩)
    · split at h
      · (injection h with h; injection h with h1 h2; subst h1 h2; exact ⟨by omega, by omega, by decide⟩)
      · split at h
        · (injection h with h; injection h with h1 h2; subst h1 h2; exact ⟨by omega, by omega, one_size _⟩)
        · split at h
          · split at h
            · (injection h with h; injection h with h1 h2; subst h1 h2; exact ⟨by omega, by omega, one_size _⟩)
            · cases h
          · split at h
            · obtain ⟨r1, r2, r3⟩ := signO_bd h
              exact ⟨by omega, by omega, r3⟩
            · cases h
  · rw [escO_out hk] at h; cases h
theorem readO_bd {s : ByteArray} {k m : Nat} {sp u : ByteArray} (h : readO s k sp = some (u, m)) : k < s.size ∧ k < m ∧ m ≤ k + 10 ∧ u.size ≤ 4 := by
  by_cases hk : k < s.size
  · rw [readO_at hk rfl] at h
    refine ⟨hk, ?_⟩
    split at h
    · injection h with h; injection h with h1 h2; subst h1 h2; exact ⟨by omega, by omega, one_size _⟩
    · split at h
      · have := escO_bd h; exact ⟨by omega, by omega, this.2.2⟩
      · cases h
  · rw [readO_out hk] at h; cases h
theorem empty_size (t : ByteArray) : t.toList.isEmpty = decide (t.size = 0) := by
  rw [ByteArray.toList_eq, Bool.eq_iff_iff, List.isEmpty_iff_length_eq_zero, decide_eq_true_iff]; simp
/-- What a literal means from a byte within it on. -/
def txtF (s : ByteArray) : Nat → Nat → ByteArray → Option (ByteArray × Nat)
  | 0, _, _ => none
  | f + 1, k, out =>
    if k < s.size then
      if byt s k = 34 then (if out.size = 0 ∨ 40 < out.size then none else some (out, k + 1))
      else match readO s k spT with
        | none => none
        | some (u, m) => txtF s f m (out ++ u)
    else none
theorem txtF_end {s : ByteArray} {f k : Nat} {out : ByteArray} (hf : s.size < f + k) (hk : k < s.size) (hc : byt s k = 34) : txtF s f k out = if out.size = 0 ∨ 40 < out.size then none else some (out, k + 1) := by
  obtain ⟨g, rfl⟩ : ∃ g, f = g + 1 := ⟨f - 1, by omega⟩
  unfold txtF; rw [if_pos hk, if_pos hc]
theorem txtF_no {s : ByteArray} {f k : Nat} {out : ByteArray} (hc : byt s k ≠ 34) (h : readO s k spT = none) : txtF s f k out = none := by
  cases f
  · rfl
  · unfold txtF; rw [if_neg hc, h]; simp
theorem txtF_go {s : ByteArray} {f k m : Nat} {out u : ByteArray} (hf : s.size < f + k) (hc : byt s k ≠ 34) (h : readO s k spT = some (u, m)) : txtF s f k out = txtF s (f - 1) m (out ++ u) := by
  have hk := (readO_bd h).1
  obtain ⟨g, rfl⟩ : ∃ g, f = g + 1 := ⟨f - 1, by omega⟩
  rw [txtF.eq_2, if_pos hk, if_neg hc, h]; rfl
theorem txtF_out {s : ByteArray} {f k : Nat} {out : ByteArray} (hk : ¬ k < s.size) : txtF s f k out = none := by
  cases f
  · rfl
  · unfold txtF; rw [if_neg hk]
/-- The literal that stands at a place. -/
def txtO (s : ByteArray) (i : Int) : Option (ByteArray × Nat) := if standB s i 34 = true then txtF s (s.size + 1) (i.toNat + 1) ⟨#[]⟩ else none

def txtT : Option (ByteArray × Nat) → Value
  | none => .tuple #[.string ⟨#[]⟩, .int .i64 0, .bool false]
  | some (u, m) => .tuple #[.string u, .int .i64 (m : Int), .bool true]
theorem ex_no {o : Option (ByteArray × Nat)} (h : o = none) : Ending.returned (.tuple #[.string ⟨#[]⟩, .int .i64 0, .bool false]) = .returned (txtT o) := by rw [h]; rfl
theorem ex_yes {o : Option (ByteArray × Nat)} {u t : ByteArray} {m : Nat} {n : Int} (h : o = some (u, m)) (ht : t = u) (hn : n = (m : Int)) : Ending.returned (.tuple #[.string t, .int .i64 n, .bool true]) = .returned (txtT o) := by rw [h, ht, hn]; rfl

set_option maxHeartbeats 1600000 in
set_option maxRecDepth 100000 in
theorem rreadtext_any (s : ByteArray) (hs : s.size ≤ 1000000) (i : Int) (w : World) :
    Calls Tryd.prog 37 #[.string s, .int .i64 i] w fun e w' => e = .returned (txtT (txtO s i)) ∧ Below w.heap.size w w' := by
  have HF := Lib.hid (show txtO s i = if standB s i 34 = true then txtF s (s.size + 1) (i.toNat + 1) ⟨#[]⟩ else none from rfl)
  obtain ⟨o, ho⟩ : ∃ o, txtO s i = o := ⟨_, rfl⟩
  rw [ho] at HF ⊢
  clear ho
  by_cases h0 : 0 ≤ i
  · obtain ⟨a, rfl⟩ : ∃ a : Nat, i = (a : Int) := ⟨i.toNat, by omega⟩
    rw [Int.toNat_natCast] at HF
    by_cases h1 : (a : Int) < s.size
    · have ha : a < s.size := by omega
      obtain ⟨c, hc⟩ : ∃ c : Int, (s[a].toNat : Int) = c := ⟨_, rfl⟩
      have hbc : byt s a = c := by rw [byt_get ha, hc]
      by_cases h2 : c = 34
      · subst h2
        have HT0 := Lib.hid (show txtF s (s.size + 1) (a + 1) ⟨#[]⟩ = o by rw [HF.out, stand_in ha, hbc]; rfl)
        have HB0 := Lib.hid (Below.refl w.heap.size w)
        have e9 : decide (s.size ≤ a) = false := decide_eq_false (by omega)
        have e8 : decide ((a : Int) < 0) = false := decide_eq_false (by omega)
        clear HF hbc
        go_enter Tryd.func37, Tryd.ntmps37
        go_wp2_with fail
        go_loopw [7, 8] (fun b7 b8 wr => ∃ (k f : Nat) (out : ByteArray), b8 = .int .i64 (k : Int) ∧ b7 = .string out ∧ (k : Int) ≤ s.size + 20 ∧ Hid (txtF s f k out = o ∧ s.size < f + k ∧ out.size ≤ 4 * k) ∧ Hid (Below w.heap.size w wr)) (fun _ b8 _ => s.size + 20 - (intOf b8).toNat)
        case atStart => exact ⟨a + 1, s.size + 1, ⟨#[]⟩, by go_num, rfl, by omega, Lib.hid ⟨HT0.out, by omega, Nat.zero_le _⟩, HB0⟩
        case round =>
          obtain ⟨k, f, out, rfl, rfl, hk, HT, HB⟩ := hrel
          clear HT0 HB0 hc
          have hu : out.size ≤ 5000000 := by have := HT.out.2.2; omega
          by_cases hlt : (k : Int) < s.size
          · have hk1 : k < s.size := by omega
            obtain ⟨c, hc⟩ : ∃ c : Int, (s[k].toNat : Int) = c := ⟨_, rfl⟩
            have hbc : byt s k = c := by rw [byt_get hk1, hc]
            by_cases h3 : c = 34
            · subst h3
              have HE := Lib.hid (show o = if out.size = 0 ∨ 40 < out.size then none else some (out, k + 1) by rw [← HT.out.1, txtF_end HT.out.2.1 hk1 hbc])
              clear HT hbc
              by_cases g1 : out.size = 0
              · obtain rfl : out = ⟨#[]⟩ := by
                  apply ByteArray.ext
                  have : out.data.size = 0 := g1
                  exact Array.eq_empty_of_size_eq_zero this
                have HE2 := Lib.hid (show o = none by rw [HE.out]; rfl)
                clear HE g1 hu
                go_wp2
                go_ret3
                exact ⟨ex_no HE2.out, HB.out⟩
              · have g3 : out.toList.isEmpty = false := by rw [empty_size]; exact decide_eq_false g1
                by_cases g2 : 40 < (out.size : Int)
                · have HE2 := Lib.hid (show o = none by rw [HE.out, if_pos (.inr (by omega))])
                  clear HE
                  go_wp2
                  go_ret3
                  exact ⟨ex_no HE2.out, HB.out⟩
                · have HE2 := Lib.hid (show o = some (out, k + 1) by rw [HE.out, if_neg (by omega)])
                  clear HE
                  go_wp2
                  go_ret3
                  exact ⟨ex_yes HE2.out rfl (by omega), HB.out⟩
            · have e3 : (c == 34) = false := beq_eq_false_iff_ne.2 h3
              have HO := Lib.hid (fun W => one_any s hs k (by omega) spT (by decide) (fun c h0 h1 h => spT_in h0 h1 h) W)
              obtain ⟨q, hq⟩ : ∃ q, readO s k spT = q := ⟨_, rfl⟩
              rw [hq] at HO
              cases q with
              | none =>
                have HE := Lib.hid (show o = none by rw [← HT.out.1, txtF_no (by rw [hbc]; exact h3) hq])
                clear HT hbc hq
                go_wp2_with fail
                refine (HO.out _).mono ?_
                rintro e w2 ⟨he, hb2⟩
                obtain ⟨t, n, rfl⟩ := ends_none he
                have HB2 := Lib.hid (keepb HB.out hb2)
                clear hb2 HB he
                go_wp2
                go_ret3
                exact ⟨ex_no HE.out, HB2.out⟩
              | some p =>
                obtain ⟨u, m⟩ := p
                obtain ⟨q1, q2, q3, q4⟩ := readO_bd hq
                have HT2 := Lib.hid (show txtF s (f - 1) m (out ++ u) = o ∧ s.size < (f - 1) + m ∧ (out ++ u).size ≤ 4 * m by
                  refine ⟨by rw [← HT.out.1]; exact (txtF_go HT.out.2.1 (by rw [hbc]; exact h3) hq).symm, by have := HT.out.2.1; omega, ?_⟩
                  have := HT.out.2.2
                  rw [ByteArray.size_append]; omega)
                clear HT hbc hq
                go_wp2_with fail
                refine (HO.out _).mono ?_
                rintro e w2 ⟨he, hb2⟩
                obtain rfl := ends_some he
                have HB2 := Lib.hid (keepb HB.out hb2)
                clear hb2 HB he
                go_wp2
                go_roundw
                case rel => exact ⟨m, f - 1, out ++ u, rfl, rfl, by omega, HT2, HB2⟩
                case measure => simp [intOf]; omega
          · have HE := Lib.hid (show o = none by rw [← HT.out.1, txtF_out (by omega)])
            clear HT
            go_wp2
            go_ret3
            exact ⟨ex_no HE.out, HB.out⟩
      · have e2 : (c != 34) = true := by simp [h2]
        have e3 : (c == 34) = false := beq_eq_false_iff_ne.2 h2
        have HE := Lib.hid (show o = none by rw [HF.out, stand_in ha, hbc, e3]; rfl)
        clear HF hbc
        go_enter Tryd.func37, Tryd.ntmps37
        go_wp2
        go_ret3
        exact ⟨ex_no HE.out, Below.refl _ _⟩
    · have HE := Lib.hid (show o = none by rw [HF.out, stand_out (by omega)]; rfl)
      clear HF
      go_enter Tryd.func37, Tryd.ntmps37
      go_wp2
      go_ret3
      exact ⟨ex_no HE.out, Below.refl _ _⟩
  · have HE := Lib.hid (show o = none by rw [HF.out]; unfold standB; rw [decide_eq_false h0]; rfl)
    clear HF
    go_enter Tryd.func37, Tryd.ntmps37
    go_wp2
    go_ret3
    exact ⟨ex_no HE.out, Below.refl _ _⟩
end Go.Proofs.YtialpofiagiclaaDoor
