/- What stands behind a backslash: the walk of the reference's escape. -/
import Derived.Test.YtinkgidncdjapabQuoteX
namespace Go.Proofs.Ytinkgidncdjapab
set_option linter.unusedVariables false
open Go.RowKit

theorem plain_sp {sp : ByteArray} {c : Int} (hi : isSp sp c = true) : plainB sp c = false := by unfold plainB; rw [hi]; simp
theorem plain_non {sp : ByteArray} {c : Int} (hi : isSp sp c = false) (h : c ≠ 92) : plainB sp c = (decide (32 ≤ c) && decide (c ≤ 126)) := by
  unfold plainB; rw [hi]; have : (c != 92) = true := by simp [h]
  rw [this]; simp

theorem two_iff {s : ByteArray} {a : Nat} : hexN s a 2 = 2 ↔ a + 1 < s.size ∧ 0 ≤ hexV (byt s a) ∧ 0 ≤ hexV (byt s (a + 1)) := by
  constructor
  · intro h
    obtain ⟨h1, h2, h3⟩ := hexN_pre h
    obtain ⟨-, -, h5⟩ := hexN_pre h1
    exact ⟨h2, h5, h3⟩
  · rintro ⟨h1, h2, h3⟩
    exact hexN_go (hexN_go (k := 0) rfl (by omega) h2) h1 h3

set_option maxHeartbeats 1600000 in
theorem escape_any (s : ByteArray) (hs : s.size ≤ 1000000) (k : Nat) (hk2 : k ≤ 1000001) (sp : ByteArray) (hsz : sp.size ≤ 1000000) (hsp : ∀ c : Int, 0 ≤ c → c ≤ 255 → isSp sp c = true → 32 ≤ c ∧ c ≤ 126) (w : World) :
    Calls Try.prog 37 #[.string s, .int .i64 (k : Int), .string sp] w fun e w' => Ends (escO s k sp) e ∧ Below w.heap.size w w' := by
  by_cases hk : k < s.size
  · obtain ⟨c, hc⟩ : ∃ c : Int, (s[k].toNat : Int) = c := ⟨_, rfl⟩
    have hbc : byt s k = c := by rw [byt_get hk, hc]
    have HF := Lib.hid (escO_at (sp := sp) hk hbc)
    obtain ⟨hc0, hc1⟩ : 0 ≤ c ∧ c ≤ 255 := by rw [← hbc]; exact byt_lt s k
    have HSP := Lib.hid (hsp c hc0 hc1)
    have HG := Lib.hid (rsign_any s hs (k + 2) (by omega))
    rw [show ((k + 2 : Nat) : Int) = (k : Int) + 2 by omega] at HG
    obtain ⟨o, ho⟩ : ∃ o, escO s k sp = o := ⟨_, rfl⟩
    rw [ho] at HF ⊢
    clear ho hbc hsp
    by_cases h1 : c = 110
    · subst h1
      have HO := Lib.hid (show o = some (⟨#[10]⟩, k + 1) by rw [HF.out]; rfl)
      clear HF HSP HG
      go_enter Try.func37, Try.ntmps37
      go_wp2
      go_ret3
      exact ⟨ends_yes HO.out rfl (by omega), Below.refl _ _⟩
    have e1 : (c == 110) = false := beq_eq_false_iff_ne.2 h1
    by_cases h2 : c = 116
    · subst h2
      have HO := Lib.hid (show o = some (⟨#[9]⟩, k + 1) by rw [HF.out]; rfl)
      clear HF HSP HG
      go_enter Try.func37, Try.ntmps37
      go_wp2
      go_ret3
      exact ⟨ends_yes HO.out rfl (by omega), Below.refl _ _⟩
    have e2 : (c == 116) = false := beq_eq_false_iff_ne.2 h2
    have HP := Lib.hid (fun W => rplain_any sp hsz c hc0 hc1 W)
    by_cases h3 : c = 92
    · subst h3
      have HO := Lib.hid (show o = some (strOfNums [92], k + 1) by rw [HF.out, if_neg h1, if_neg h2, if_pos (by simp)])
      have K := conv_lit [92]
      simp only [List.map_cons, List.map_nil, List.length_cons, List.length_nil, Nat.zero_add] at K
      clear HF HSP HG HP
      go_enter Try.func37, Try.ntmps37
      go_wp2
      go_ret3
      exact ⟨ends_yes HO.out rfl (by omega), by go_grown⟩
    have e3 : (c == 92) = false := beq_eq_false_iff_ne.2 h3
    obtain ⟨bi, hbi⟩ : ∃ bi, isSp sp c = bi := ⟨_, rfl⟩
    cases bi
    · rw [plain_non hbi h3] at HP
      have HF2 := Lib.hid (show o = if c = 120 then (if hexN s (k + 1) 2 = 2 then some (strOfNums [valN s (k + 1) 2], k + 3) else none)
        else if c = 117 ∧ standB s ((k + 1 : Nat) : Int) 123 = true then signO s (k + 2) else none by rw [HF.out, if_neg h1, if_neg h2, hbi, e3]; simp)
      clear HF HSP hbi
      by_cases h5 : c = 120
      · subst h5
        rw [decide_eq_true (by decide), decide_eq_true (by decide)] at HP
        have HF3 := Lib.hid (show o = if hexN s (k + 1) 2 = 2 then some (strOfNums [valN s (k + 1) 2], k + 3) else none by rw [HF2.out, if_pos rfl])
        clear HF2 HG
        by_cases g1 : k + 2 < s.size
        · have g1' : (k : Int) + 2 < s.size := by omega
          obtain ⟨x, hx⟩ : ∃ x : Int, (s[k + 1].toNat : Int) = x := ⟨_, rfl⟩
          have hxb : byt s (k + 1) = x := by rw [byt_get (by omega), hx]
          obtain ⟨x0, x1⟩ : 0 ≤ x ∧ x ≤ 255 := by rw [← hxb]; exact byt_lt s (k + 1)
          obtain ⟨y, hy⟩ : ∃ y : Int, (s[k + 2].toNat : Int) = y := ⟨_, rfl⟩
          have hyb : byt s (k + 2) = y := by rw [byt_get g1, hy]
          obtain ⟨y0, y1⟩ : 0 ≤ y ∧ y ≤ 255 := by rw [← hyb]; exact byt_lt s (k + 2)
          have H1 := Lib.hid (fun W => hex_any x x0 x1 W)
          have H2 := Lib.hid (fun W => hex_any y y0 y1 W)
          have dx := hexV_bd x
          have dy := hexV_bd y
          have hi := two_iff (s := s) (a := k + 1)
          rw [hxb, show byt s (k + 1 + 1) = y from hyb] at hi
          obtain ⟨d1, hd1⟩ : ∃ d, hexV x = d := ⟨_, rfl⟩
          obtain ⟨d2, hd2⟩ : ∃ d, hexV y = d := ⟨_, rfl⟩
          have hval : valN s (k + 1) 2 = 16 * d1 + d2 := by
            show (0 * 16 + hexV (byt s (k + 1))) * 16 + hexV (byt s (k + 1 + 1)) = _
            rw [hxb, show byt s (k + 1 + 1) = y from hyb, hd1, hd2]; omega
          rw [hd1] at H1 dx hi
          rw [hd2] at H2 dy hi
          clear hd1 hd2 hxb hyb
          by_cases g2 : 0 ≤ d1
          · by_cases g3 : 0 ≤ d2
            · have HO := Lib.hid (show o = some (strOfNums [16 * d1 + d2], k + 3) by rw [HF3.out, if_pos (hi.2 ⟨by omega, g2, g3⟩), hval])
              exact escape_x s hs k g1 sp hsz x y x0 x1 y0 y1 hc hx hy d1 d2 g2 g3 dx dy H1 H2 HP HO w
            · have HO := Lib.hid (show o = none by rw [HF3.out, if_neg (fun h => g3 (hi.1 h).2.2)])
              clear HF3 hi hval dx dy
              go_enter Try.func37, Try.ntmps37
              go_wp2_with fail
              refine (HP.out _).mono ?_
              rintro e w1 ⟨rfl, rfl⟩
              go_wp2_with fail
              refine (H1.out _).mono ?_
              rintro e w1 ⟨rfl, rfl⟩
              go_wp2_with fail
              refine (H2.out _).mono ?_
              rintro e w1 ⟨rfl, rfl⟩
              go_wp2
              go_ret3
              exact ⟨ends_no HO.out _ _, Below.refl _ _⟩
          · have HO := Lib.hid (show o = none by rw [HF3.out, if_neg (fun h => g2 (hi.1 h).2.1)])
            clear HF3 hi hval dx dy H2
            go_enter Try.func37, Try.ntmps37
            go_wp2_with fail
            refine (HP.out _).mono ?_
            rintro e w1 ⟨rfl, rfl⟩
            go_wp2_with fail
            refine (H1.out _).mono ?_
            rintro e w1 ⟨rfl, rfl⟩
            go_wp2
            go_ret3
            exact ⟨ends_no HO.out _ _, Below.refl _ _⟩
        · have g1' : ¬ (k : Int) + 2 < s.size := by omega
          have HO := Lib.hid (show o = none by rw [HF3.out, if_neg (fun h => g1 (by have := (two_iff.1 h).1; omega))])
          clear HF3
          go_enter Try.func37, Try.ntmps37
          go_wp2_with fail
          refine (HP.out _).mono ?_
          rintro e w1 ⟨rfl, rfl⟩
          go_wp2
          go_ret3
          exact ⟨ends_no HO.out _ _, Below.refl _ _⟩
      have e5 : (c == 120) = false := beq_eq_false_iff_ne.2 h5
      by_cases h6 : c = 117
      · subst h6
        by_cases g1 : k + 1 < s.size
        · obtain ⟨x, hx⟩ : ∃ x : Int, (s[k + 1].toNat : Int) = x := ⟨_, rfl⟩
          have hxb : byt s (k + 1) = x := by rw [byt_get g1, hx]
          have g1' : (k : Int) + 1 < s.size := by omega
          by_cases g2 : x = 123
          · subst g2
            have HO := Lib.hid (show signO s (k + 2) = o by rw [HF2.out, stand_in g1, hxb]; simp)
            rw [HO.out] at HG
            clear HF2 hxb HO
            go_enter Try.func37, Try.ntmps37
            go_wp2_with fail
            refine (HP.out _).mono ?_
            rintro e w1 ⟨rfl, rfl⟩
            go_wp2_with fail
            refine (HG.out _).mono ?_
            rintro e w1 ⟨⟨t, n, b, rfl, hr⟩, hb1⟩
            go_wp2
            go_ret3
            exact ⟨⟨t, n, b, rfl, hr⟩, hb1⟩
          · have e7 : (x == 123) = false := beq_eq_false_iff_ne.2 g2
            have HO := Lib.hid (show o = none by rw [HF2.out, stand_in g1, hxb, e7]; simp)
            clear HF2 hxb HG
            go_enter Try.func37, Try.ntmps37
            go_wp2_with fail
            refine (HP.out _).mono ?_
            rintro e w1 ⟨rfl, rfl⟩
            go_wp2
            go_ret3
            exact ⟨ends_no HO.out _ _, Below.refl _ _⟩
        · have g1' : ¬ (k : Int) + 1 < s.size := by omega
          have HO := Lib.hid (show o = none by rw [HF2.out, stand_out g1]; simp)
          clear HF2 HG
          go_enter Try.func37, Try.ntmps37
          go_wp2_with fail
          refine (HP.out _).mono ?_
          rintro e w1 ⟨rfl, rfl⟩
          go_wp2
          go_ret3
          exact ⟨ends_no HO.out _ _, Below.refl _ _⟩
      have e6 : (c == 117) = false := beq_eq_false_iff_ne.2 h6
      have HO := Lib.hid (show o = none by rw [HF2.out, if_neg h5, if_neg (fun h => h6 h.1)])
      clear HF2 HG
      have g : (32 ≤ c ∧ c ≤ 126) ∨ c < 32 ∨ 126 < c := by omega
      rcases g with ⟨g, g'⟩ | g | g
      · rw [decide_eq_true g, decide_eq_true g'] at HP
        go_enter Try.func37, Try.ntmps37
        go_wp2_with fail
        refine (HP.out _).mono ?_
        rintro e w1 ⟨rfl, rfl⟩
        go_wp2
        go_ret3
        exact ⟨ends_no HO.out _ _, Below.refl _ _⟩
      · rw [decide_eq_false (by omega : ¬ 32 ≤ c), Bool.false_and] at HP
        go_enter Try.func37, Try.ntmps37
        go_wp2_with fail
        refine (HP.out _).mono ?_
        rintro e w1 ⟨rfl, rfl⟩
        go_wp2
        go_ret3
        exact ⟨ends_no HO.out _ _, Below.refl _ _⟩
      · rw [decide_eq_false (by omega : ¬ c ≤ 126), Bool.and_false] at HP
        have g0 : 32 ≤ c := by omega
        go_enter Try.func37, Try.ntmps37
        go_wp2_with fail
        refine (HP.out _).mono ?_
        rintro e w1 ⟨rfl, rfl⟩
        go_wp2
        go_ret3
        exact ⟨ends_no HO.out _ _, Below.refl _ _⟩
    · obtain ⟨g0, g1⟩ := HSP.out hbi
      rw [plain_sp hbi] at HP
      have HO := Lib.hid (show o = some (strOfNums [c], k + 1) by rw [HF.out, if_neg h1, if_neg h2, hbi]; simp)
      have K := conv_lit [c]
      simp only [List.map_cons, List.map_nil, List.length_cons, List.length_nil, Nat.zero_add] at K
      clear HF HSP HG hbi
      go_enter Try.func37, Try.ntmps37
      go_wp2_with fail
      refine (HP.out _).mono ?_
      rintro e w1 ⟨rfl, rfl⟩
      go_wp2
      go_ret3
      exact ⟨ends_yes HO.out rfl (by omega), by go_grown⟩
  · have HO := Lib.hid (escO_out (sp := sp) hk)
    go_enter Try.func37, Try.ntmps37
    go_wp2
    go_ret3
    exact ⟨ends_no HO.out _ _, Below.refl _ _⟩
end Go.Proofs.Ytinkgidncdjapab
