/- The document's examples of layer 1, walked. -/
import Derived.Test.YtmheekoaklfffaaAlphaR
import Derived.Test.YtmheekoaklfffaaEq4
namespace Go.Proofs.Ytmheekoaklfffaa
set_option linter.unusedVariables false
open Go.RowKit

theorem has_v {a b c d : Nat} {x : Int} {v : Bool} (h : inSet a b c d x.toNat = v) (hx0 : 0 ≤ x) (hx : x < 256) (ha : a < P64) (hb : b < P64) (hc : c < P64) (hd : d < P64) (w : World) :
    Calls Try.prog 7 #[.agg #[.int .u64 (a : Int), .int .u64 (b : Int), .int .u64 (c : Int), .int .u64 (d : Int)], .int .u8 x] w
      fun e w' => e = .returned (.bool v) ∧ Below w.heap.size w w' := by
  obtain ⟨n, rfl⟩ := Int.eq_ofNat_of_zero_le hx0
  exact h ▸ has_any a b c d n (by omega) ha hb hc hd w
theorem count_v {a b c d n : Nat} (h : card a b c d = n) (ha : a < P64) (hb : b < P64) (hc : c < P64) (hd : d < P64) (w : World) :
    Calls Try.prog 17 #[.agg #[.int .u64 (a : Int), .int .u64 (b : Int), .int .u64 (c : Int), .int .u64 (d : Int)]] w
      fun e w' => e = .returned (.int .i64 (n : Int)) ∧ Below w.heap.size w w' := h ▸ count_any a b c d ha hb hc hd w

theorem range_v {lo hi : Int} {r0 r1 r2 r3 : Nat} (h : rowW 0 lo.toNat (hi.toNat + 1) = r0 ∧ rowW 1 lo.toNat (hi.toNat + 1) = r1 ∧ rowW 2 lo.toNat (hi.toNat + 1) = r2 ∧ rowW 3 lo.toNat (hi.toNat + 1) = r3)
    (hl0 : 0 ≤ lo) (hl : lo < 256) (hh0 : 0 ≤ hi) (hh : hi < 256) (w : World) :
    Calls Try.prog 11 #[.int .u8 lo, .int .u8 hi] w
      fun e w' => e = .returned (.agg #[.int .u64 (r0 : Int), .int .u64 (r1 : Int), .int .u64 (r2 : Int), .int .u64 (r3 : Int)]) ∧ Below w.heap.size w w' := by
  obtain ⟨n, rfl⟩ := Int.eq_ofNat_of_zero_le hl0
  obtain ⟨m, rfl⟩ := Int.eq_ofNat_of_zero_le hh0
  obtain ⟨rfl, rfl, rfl, rfl⟩ := h
  exact range_any n m (by omega) (by omega) w
theorem or_v {a b c d a' b' c' d' r0 r1 r2 r3 : Nat} (h : a ||| a' = r0 ∧ b ||| b' = r1 ∧ c ||| c' = r2 ∧ d ||| d' = r3)
    (hs : (a < P64 ∧ b < P64 ∧ c < P64 ∧ d < P64) ∧ a' < P64 ∧ b' < P64 ∧ c' < P64 ∧ d' < P64) (w : World) :
    Calls Try.prog 13 #[.agg #[.int .u64 (a : Int), .int .u64 (b : Int), .int .u64 (c : Int), .int .u64 (d : Int)], .agg #[.int .u64 (a' : Int), .int .u64 (b' : Int), .int .u64 (c' : Int), .int .u64 (d' : Int)]] w
      fun e w' => e = .returned (.agg #[.int .u64 (r0 : Int), .int .u64 (r1 : Int), .int .u64 (r2 : Int), .int .u64 (r3 : Int)]) ∧ Below w.heap.size w w' := by
  obtain ⟨rfl, rfl, rfl, rfl⟩ := h
  exact or_any a b c d a' b' c' d' hs.1.1 hs.1.2.1 hs.1.2.2.1 hs.1.2.2.2 hs.2.1 hs.2.2.1 hs.2.2.2.1 hs.2.2.2.2 w
theorem with_ex (w : World) : Calls Try.prog 9 #[.agg #[.int .u64 0, .int .u64 0, .int .u64 0, .int .u64 0], .int .u8 200] w
      fun e w' => e = .returned (.agg #[.int .u64 0, .int .u64 0, .int .u64 0, .int .u64 256]) ∧ Below w.heap.size w w' :=
  with_any 0 0 0 0 200 (by decide) (by decide) (by decide) (by decide) (by decide) w

/-- The document's example: what is in which set. -/
theorem ex_facts : ∃ d0 d1 d2 d3 s0 s1 s2 s3 q0 q1 q2 q3 r0 r1 r2 r3 z0 z1 z2 z3 : Nat, (rowW 0 48 58 = d0 ∧ rowW 1 48 58 = d1 ∧ rowW 2 48 58 = d2 ∧ rowW 3 48 58 = d3 ∧
    withW d0 120 0 = s0 ∧ withW d1 120 1 = s1 ∧ withW d2 120 2 = s2 ∧ withW d3 120 3 = s3) ∧ (d0 < P64 ∧ d1 < P64 ∧ d2 < P64 ∧ d3 < P64 ∧ s0 < P64 ∧ s1 < P64 ∧ s2 < P64 ∧ s3 < P64) ∧
    inSet s0 s1 s2 s3 120 = true ∧ inSet s0 s1 s2 s3 53 = true ∧ inSet d0 d1 d2 d3 120 = false ∧ card s0 s1 s2 s3 = 11 ∧ card (notW s0) (notW s1) (notW s2) (notW s3) = 245 ∧
    (rowW 0 53 98 = q0 ∧ rowW 1 53 98 = q1 ∧ rowW 2 53 98 = q2 ∧ rowW 3 53 98 = q3) ∧ (rowW 0 48 98 = r0 ∧ rowW 1 48 98 = r1 ∧ rowW 2 48 98 = r2 ∧ rowW 3 48 98 = r3) ∧
    (d0 ||| q0 = r0 ∧ d1 ||| q1 = r1 ∧ d2 ||| q2 = r2 ∧ d3 ||| q3 = r3) ∧ ((d0 < P64 ∧ d1 < P64 ∧ d2 < P64 ∧ d3 < P64) ∧ q0 < P64 ∧ q1 < P64 ∧ q2 < P64 ∧ q3 < P64) ∧
    (rowW 0 0 256 = z0 ∧ rowW 1 0 256 = z1 ∧ rowW 2 0 256 = z2 ∧ rowW 3 0 256 = z3) ∧ card z0 z1 z2 z3 = 256 ∧ z0 < P64 ∧ z1 < P64 ∧ z2 < P64 ∧ z3 < P64 ∧ (rowW 0 57 49 = 0 ∧ rowW 1 57 49 = 0 ∧ rowW 2 57 49 = 0 ∧ rowW 3 57 49 = 0) :=
  ⟨_, _, _, _, _, _, _, _, _, _, _, _, _, _, _, _, _, _, _, _, ⟨rfl, rfl, rfl, rfl, rfl, rfl, rfl, rfl⟩, by decide +kernel, by decide +kernel, by decide +kernel, by decide +kernel, by decide +kernel, by decide +kernel,
    ⟨rfl, rfl, rfl, rfl⟩, ⟨rfl, rfl, rfl, rfl⟩, by decide +kernel, by decide +kernel, ⟨rfl, rfl, rfl, rfl⟩, by decide +kernel, by decide +kernel, by decide +kernel, by decide +kernel, by decide +kernel, by decide +kernel⟩

set_option maxHeartbeats 4000000 in
theorem awake_any (w : World) : Calls Try.prog 6 #[] w fun e w' => e = .returned (.bool true) ∧ Below w.heap.size w w' := by
  obtain ⟨d0, d1, d2, d3, s0, s1, s2, s3, q0, q1, q2, q3, r0, r1, r2, r3, z0, z1, z2, z3, HE, HL, F1, F2, F3, F4, F5, F6, F7, F8, F9, F10, F11, l0, l1, l2, l3, F12⟩ := ex_facts
  have R := Lib.hid (range_any 48 57 (by decide) (by decide))
  have T := Lib.hid (with_any d0 d1 d2 d3 120 (by decide) HL.1 HL.2.1 HL.2.2.1 HL.2.2.2.1)
  obtain ⟨h1, h2, h3, h4, h5, h6, h7, h8⟩ := HE
  rw [h1, h2, h3, h4] at R
  rw [h5, h6, h7, h8] at T
  have HL' := Lib.hid HL
  have F1' := Lib.hid F1
  have F2' := Lib.hid F2
  have F3' := Lib.hid F3
  have F4' := Lib.hid F4
  have F5' := Lib.hid F5
  have F6' := Lib.hid F6
  have F7' := Lib.hid F7
  have F8' := Lib.hid F8
  have F9' := Lib.hid F9
  have F10' := Lib.hid F10
  have F11' := Lib.hid F11
  have l0' := Lib.hid l0
  have l1' := Lib.hid l1
  have l2' := Lib.hid l2
  have l3' := Lib.hid l3
  have F12' := Lib.hid F12
  have C1 := Lib.hid (range_v (lo := 57) (hi := 48) F12 (by decide) (by decide) (by decide) (by decide))
  have C2 := Lib.hid (range_v (lo := 0) (hi := 255) F10 (by decide) (by decide) (by decide) (by decide))
  have C3 := Lib.hid (range_v (lo := 53) (hi := 97) F6 (by decide) (by decide) (by decide) (by decide))
  have C4 := Lib.hid (range_v (lo := 48) (hi := 97) F7 (by decide) (by decide) (by decide) (by decide))
  clear h1 h2 h3 h4 h5 h6 h7 h8 F1 F2 F3 F4 F5 F6 F7 F8 F9 F10 F11 l0 l1 l2 l3 F12 HL
  go_enter Try.func6, Try.ntmps6
  go_wp2_with fail
  refine (R.out _).mono ?_
  rintro e w1 ⟨rfl, hb1⟩
  go_wp2_with fail
  refine (T.out _).mono ?_
  rintro e w2 ⟨rfl, hb2⟩
  go_wp2_with fail
  have D := (Own.fresh w1 24 [.int .u64 (d0 : Int), .int .u64 (d1 : Int), .int .u64 (d2 : Int), .int .u64 (d3 : Int)])
  have D2 := (D.under hb2 D.lt).on_alloc (.cells #[.int .u64 (s0 : Int), .int .u64 (s1 : Int), .int .u64 (s2 : Int), .int .u64 (s3 : Int)] 24)
  have E2 := (Own.fresh w2 24 [.int .u64 (s0 : Int), .int .u64 (s1 : Int), .int .u64 (s2 : Int), .int .u64 (s3 : Int)])
  have hB : Below w.heap.size w (w2.alloc (.cells #[.int .u64 (s0 : Int), .int .u64 (s1 : Int), .int .u64 (s2 : Int), .int .u64 (s3 : Int)] 24)) := by
    have h1 := hb1.size
    have hz := hb2.size
    rw [World.size_alloc] at hz
    refine ((hb1.alloc h1 _).trans (hb2.mono (by simp; omega))).alloc (by omega) _
  clear D hb1 hb2
  generalize w2.alloc _ = W at *
  generalize w1.heap.size = g1 at *
  generalize w2.heap.size = g2 at *
  obtain ⟨a0, a1, a2, a3, -⟩ := D2.four
  obtain ⟨b0, b1, b2, b3, -⟩ := E2.four
  clear D2 E2
  go_region_held3 (fun w' => w'.cell? ⟨g1, 0, none⟩ = some (.int .u64 (d0 : Int)) ∧ w'.cell? ⟨g1, 1, none⟩ = some (.int .u64 (d1 : Int)) ∧ w'.cell? ⟨g1, 2, none⟩ = some (.int .u64 (d2 : Int)) ∧ w'.cell? ⟨g1, 3, none⟩ = some (.int .u64 (d3 : Int)) ∧
      w'.cell? ⟨g2, 0, none⟩ = some (.int .u64 (s0 : Int)) ∧ w'.cell? ⟨g2, 1, none⟩ = some (.int .u64 (s1 : Int)) ∧ w'.cell? ⟨g2, 2, none⟩ = some (.int .u64 (s2 : Int)) ∧ w'.cell? ⟨g2, 3, none⟩ = some (.int .u64 (s3 : Int)) ∧ Below w.heap.size w w')
    (first | exact ⟨a0, a1, a2, a3, b0, b1, b2, b3, hB.drew⟩ | exact keep8 (by assumption) hbc)
    (first
      | (go_at_call 7; first
          | ((with_reducible refine (has_v (x := 120) F1'.out (by decide) (by decide) HL'.out.2.2.2.2.1 HL'.out.2.2.2.2.2.1 HL'.out.2.2.2.2.2.2.1 HL'.out.2.2.2.2.2.2.2 _).mono ?_); rintro e wc ⟨rfl, hbc⟩)
          | ((with_reducible refine (has_v (x := 53) F2'.out (by decide) (by decide) HL'.out.2.2.2.2.1 HL'.out.2.2.2.2.2.1 HL'.out.2.2.2.2.2.2.1 HL'.out.2.2.2.2.2.2.2 _).mono ?_); rintro e wc ⟨rfl, hbc⟩)
          | ((with_reducible refine (has_v (x := 120) F3'.out (by decide) (by decide) HL'.out.1 HL'.out.2.1 HL'.out.2.2.1 HL'.out.2.2.2.1 _).mono ?_); rintro e wc ⟨rfl, hbc⟩))
      | (go_at_call 17; first
          | ((with_reducible refine (count_v F4'.out HL'.out.2.2.2.2.1 HL'.out.2.2.2.2.2.1 HL'.out.2.2.2.2.2.2.1 HL'.out.2.2.2.2.2.2.2 _).mono ?_); rintro e wc ⟨rfl, hbc⟩)
          | ((with_reducible refine (count_v F5'.out (notW_lt _) (notW_lt _) (notW_lt _) (notW_lt _) _).mono ?_); rintro e wc ⟨rfl, hbc⟩)
          | ((with_reducible refine (count_v F11'.out l0'.out l1'.out l2'.out l3'.out _).mono ?_); rintro e wc ⟨rfl, hbc⟩))
      | (go_at_call 11; first
          | ((with_reducible refine (C1.out _).mono ?_); rintro e wc ⟨rfl, hbc⟩)
          | ((with_reducible refine (C2.out _).mono ?_); rintro e wc ⟨rfl, hbc⟩)
          | ((with_reducible refine (C3.out _).mono ?_); rintro e wc ⟨rfl, hbc⟩)
          | ((with_reducible refine (C4.out _).mono ?_); rintro e wc ⟨rfl, hbc⟩))
      | (go_at_call 13; (with_reducible refine (or_v F8'.out F9'.out _).mono ?_); rintro e wc ⟨rfl, hbc⟩)
      | (go_at_call 9; refine (with_ex _).mono ?_; rintro e wc ⟨rfl, hbc⟩)
      | (go_at_call 15; (with_reducible refine (not_any _ _ _ _ HL'.out.2.2.2.2.1 HL'.out.2.2.2.2.2.1 HL'.out.2.2.2.2.2.2.1 HL'.out.2.2.2.2.2.2.2 _).mono ?_); rintro e wc ⟨rfl, hbc⟩))
  rename_i hS
  obtain ⟨-, -, -, -, -, -, -, -, hBB⟩ := hS
  go_wp2
  go_ret
  exact ⟨rfl, hBB⟩
end Go.Proofs.Ytmheekoaklfffaa
