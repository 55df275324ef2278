/- A class as it is written: the walk of the reference's Class. -/
import Derived.Test.YtnopnjleibbakacQuoteK
namespace Go.Proofs.Ytnopnjleibbakac
set_option linter.unusedVariables false
open Go.RowKit

set_option maxHeartbeats 1600000 in
set_option maxRecDepth 100000 in
theorem rclass_any (a b c d : Nat) (ha : a < P64) (hb : b < P64) (hc : c < P64) (hd : d < P64) (w : World) :
    Calls Try.prog 12 #[.agg #[.int .u64 (a : Int), .int .u64 (b : Int), .int .u64 (c : Int), .int .u64 (d : Int)]] w
      fun e w' => e = .returned (.string (classS (inSet a b c d))) ∧ Below w.heap.size w w' := by
  have HH := Lib.hid (fun x hx W => rhas_any a b c d x hx ha hb hc hd W)
  clear ha hb hc hd
  obtain ⟨h, hh⟩ : ∃ h, inSet a b c d = h := ⟨_, rfl⟩
  rw [hh] at HH ⊢
  clear hh
  have HTL := Lib.hid (clsL_len h)
  obtain ⟨tot, htot⟩ : ∃ tot, clsL h = tot := ⟨_, rfl⟩
  rw [htot] at HTL
  have HE := Lib.hid (show ofL tot ++ ⟨#[93]⟩ = classS h by unfold classS; rw [htot, ofL_app])
  have HT0 := Lib.hid (show [91] ++ clsF h 257 0 = tot from htot)
  clear htot
  have HO0 := Lib.hid (Own.fresh w 24 [.int .u64 (a : Int), .int .u64 (b : Int), .int .u64 (c : Int), .int .u64 (d : Int)])
  have HB0 := Lib.hid (show Below w.heap.size w (w.alloc (.cells #[.int .u64 (a : Int), .int .u64 (b : Int), .int .u64 (c : Int), .int .u64 (d : Int)] 24)) from (Below.refl _ _).alloc (Nat.le_refl _) _)
  go_enter Try.func12, Try.ntmps12
  go_wp2_with fail
  go_loopw [3, 4] (fun b3 b4 wr => ∃ (low f : Nat) (acc : List UInt8), b4 = .int .i64 (low : Int) ∧ low ≤ 256 ∧ b3 = .string (ofL acc) ∧ Hid (acc ++ clsF h f low = tot ∧ 256 < f + low) ∧ Hid (Own wr w.heap.size 24 [.int .u64 (a : Int), .int .u64 (b : Int), .int .u64 (c : Int), .int .u64 (d : Int)]) ∧ Hid (Below w.heap.size w wr)) (fun _ b4 _ => 256 - (intOf b4).toNat)
  case atStart => exact ⟨0, 257, [91], rfl, by omega, rfl, Lib.hid ⟨HT0.out, by omega⟩, HO0, HB0⟩
  case round =>
    obtain ⟨low, f, acc, rfl, hlow, rfl, HT, HO, HB⟩ := hrel
    clear HT0 HO0 HB0
    have hu : (ofL acc).size ≤ 100000 := by rw [ofL_size]; have := acc_le HT.out.1 HTL.out; omega
    by_cases hlt : low < 256
    · obtain ⟨o0, o1, o2, o3, q0, q1, q2, q3⟩ := HO.out.four
      obtain ⟨bh, hbh⟩ : ∃ bh, h low = bh := ⟨_, rfl⟩
      have HC := Lib.hid (HH.out low hlt)
      rw [hbh] at HC
      cases bh
      · have HT2 := Lib.hid (And.intro (cls_skip HT.out.1 HT.out.2 hlt hbh) (show 256 < (f - 1) + (low + 1) by have := HT.out.2; omega))
        clear HT hbh
        go_wp2_with fail
        refine (HC.out _).mono ?_
        rintro e w2 ⟨rfl, hb2⟩
        have HO2 := Lib.hid (HO.out.under hb2 HO.out.lt)
        have HB2 := Lib.hid (keepb HB.out hb2)
        clear hb2 HO HB o0 o1 o2 o3 q0 q1 q2 q3
        go_wp2
        go_roundw
        case rel => exact ⟨low + 1, f - 1, acc, by go_num, by omega, rfl, HT2, HO2, HB2⟩
        case measure => simp [intOf]; omega
      · have hge := runTo_ge h 255 low
        have hle := runTo_le h 255 low (by omega)
        have HT2 := Lib.hid (And.intro (cls_step HT.out.1 HT.out.2 hlt hbh) (show 256 < (f - 1) + (runTo h 255 low + 1) by have := HT.out.2; omega))
        obtain ⟨HI, hHI⟩ : ∃ HI, runTo h 255 low = HI := ⟨_, rfl⟩
        rw [hHI] at hge hle HT2
        have HR0 := Lib.hid hHI
        clear HT hbh hHI
        go_wp2_with fail
        refine (HC.out _).mono ?_
        rintro e w2 ⟨rfl, hb2⟩
        have HO2 := Lib.hid (HO.out.under hb2 HO.out.lt)
        have HB2 := Lib.hid (keepb HB.out hb2)
        clear hb2 HO HB HC o0 o1 o2 o3 q0 q1 q2 q3
        go_wp2_with fail
        go_loopw [5] (fun b5 wr => ∃ (k f' : Nat), b5 = .int .i64 (k : Int) ∧ k ≤ 255 ∧ Hid (runTo h f' k = HI ∧ 254 < f' + k) ∧ Hid (Own wr w.heap.size 24 [.int .u64 (a : Int), .int .u64 (b : Int), .int .u64 (c : Int), .int .u64 (d : Int)]) ∧ Hid (Below w.heap.size w wr)) (fun b5 _ => 255 - (intOf b5).toNat)
        case atStart => exact ⟨low, 255, rfl, by omega, Lib.hid ⟨HR0.out, by omega⟩, HO2, HB2⟩
        case round =>
          obtain ⟨k, f', rfl, hk, HR, HO, HB⟩ := hrel
          clear HO2 HB2 HR0
          obtain ⟨o0, o1, o2, o3, q0, q1, q2, q3⟩ := HO.out.four
          by_cases hk1 : k < 255
          · have HC := Lib.hid (HH.out (k + 1) (by omega))
            obtain ⟨bh, hbh⟩ : ∃ bh, h (k + 1) = bh := ⟨_, rfl⟩
            rw [hbh] at HC
            cases bh
            · have hE := HR.out.1
              rw [runTo_stop f' (by rw [hbh]; simp)] at hE
              subst hE
              clear HR hbh
              go_wp2_with fail
              refine (HC.out _).mono ?_
              rintro e w3 ⟨rfl, hb3⟩
              have HO3 := Lib.hid (HO.out.under hb3 HO.out.lt)
              have HB3 := Lib.hid (keepb HB.out hb3)
              clear hb3 HO HB HC o0 o1 o2 o3 q0 q1 q2 q3
              have HO := HO3
              have HB := HB3
              clear HO3 HB3

              have HL1 := Lib.hid (fun W => letter_any spC (by decide) (low : Int) (by omega) (by omega) (spC_in (by omega) (by omega)) W)
              have HL2 := Lib.hid (fun W => letter_any spC (by decide) (k : Int) (by omega) (by omega) (spC_in (by omega) (by omega)) W)
              have ht1 := wrS_size spC (low : Int)
              have ht2 := wrS_size spC (k : Int)
              have hlow0 : (0 : Int) ≤ (low : Int) := Int.natCast_nonneg _
              have hk0 : (0 : Int) ≤ (k : Int) := Int.natCast_nonneg _
              by_cases g1 : low + 1 < k
              · have HE3 := Lib.hid (show ofL acc ++ wrS spC low ++ ⟨#[45]⟩ ++ wrS spC k = ofL (acc ++ rowS low k) from row3 acc g1)
                generalize wrS spC (low : Int) = t1 at *
                generalize wrS spC (k : Int) = t2 at *
                generalize ofL acc = u at *
                go_wp2_with fail
                refine (HL1.out _).mono ?_
                rintro e w4 ⟨rfl, hb4⟩
                have HO4 := Lib.hid (HO.out.under hb4 HO.out.lt)
                have HB4 := Lib.hid (keepb HB.out hb4)
                clear hb4 HO HB
                go_wp2_with fail
                refine (HL2.out _).mono ?_
                rintro e w5 ⟨rfl, hb5⟩
                have HO5 := Lib.hid (HO4.out.under hb5 HO4.out.lt)
                have HB5 := Lib.hid (keepb HB4.out hb5)
                clear hb5 HO4 HB4
                go_wp2
                go_roundw
                case rel => exact ⟨k + 1, f - 1, acc ++ rowS low k, by go_num, by omega, by rw [← HE3.out], HT2, HO5, HB5⟩
                case measure => simp [intOf]; omega
              · by_cases g2 : low < k
                · have HE3 := Lib.hid (show ofL acc ++ wrS spC low ++ wrS spC k = ofL (acc ++ rowS low k) from row2 acc g1 g2)
                  generalize wrS spC (low : Int) = t1 at *
                  generalize wrS spC (k : Int) = t2 at *
                  generalize ofL acc = u at *
                  go_wp2_with fail
                  refine (HL1.out _).mono ?_
                  rintro e w4 ⟨rfl, hb4⟩
                  have HO4 := Lib.hid (HO.out.under hb4 HO.out.lt)
                  have HB4 := Lib.hid (keepb HB.out hb4)
                  clear hb4 HO HB
                  go_wp2_with fail
                  refine (HL2.out _).mono ?_
                  rintro e w5 ⟨rfl, hb5⟩
                  have HO5 := Lib.hid (HO4.out.under hb5 HO4.out.lt)
                  have HB5 := Lib.hid (keepb HB4.out hb5)
                  clear hb5 HO4 HB4
                  go_wp2
                  go_roundw
                  case rel => exact ⟨k + 1, f - 1, acc ++ rowS low k, by go_num, by omega, by rw [← HE3.out], HT2, HO5, HB5⟩
                  case measure => simp [intOf]; omega
                · have HE3 := Lib.hid (show ofL acc ++ wrS spC low = ofL (acc ++ rowS low k) from row1 acc g2)
                  generalize wrS spC (low : Int) = t1 at *
                  generalize wrS spC (k : Int) = t2 at *
                  generalize ofL acc = u at *
                  go_wp2_with fail
                  refine (HL1.out _).mono ?_
                  rintro e w4 ⟨rfl, hb4⟩
                  have HO4 := Lib.hid (HO.out.under hb4 HO.out.lt)
                  have HB4 := Lib.hid (keepb HB.out hb4)
                  clear hb4 HO HB
                  go_wp2
                  go_roundw
                  case rel => exact ⟨k + 1, f - 1, acc ++ rowS low k, by go_num, by omega, by rw [← HE3.out], HT2, HO4, HB4⟩
                  case measure => simp [intOf]; omega
            · have HR2 := Lib.hid (show runTo h (f' - 1) (k + 1) = HI ∧ 254 < (f' - 1) + (k + 1) by
                obtain ⟨r1, r2⟩ := HR.out
                obtain ⟨g, rfl⟩ : ∃ g, f' = g + 1 := ⟨f' - 1, by omega⟩
                rw [runTo_step hk1 hbh] at r1
                exact ⟨r1, by omega⟩)
              clear HR hbh
              go_wp2_with fail
              refine (HC.out _).mono ?_
              rintro e w3 ⟨rfl, hb3⟩
              have HO3 := Lib.hid (HO.out.under hb3 HO.out.lt)
              have HB3 := Lib.hid (keepb HB.out hb3)
              clear hb3 HO HB HC o0 o1 o2 o3 q0 q1 q2 q3
              go_wp2
              go_roundw
              case rel => exact ⟨k + 1, f' - 1, by go_num, by omega, HR2, HO3, HB3⟩
              case measure => simp [intOf]; omega
          · have hE := HR.out.1
            rw [runTo_stop f' (by omega)] at hE
            subst hE
            clear HR
            clear o0 o1 o2 o3 q0 q1 q2 q3

            have HL1 := Lib.hid (fun W => letter_any spC (by decide) (low : Int) (by omega) (by omega) (spC_in (by omega) (by omega)) W)
            have HL2 := Lib.hid (fun W => letter_any spC (by decide) (k : Int) (by omega) (by omega) (spC_in (by omega) (by omega)) W)
            have ht1 := wrS_size spC (low : Int)
            have ht2 := wrS_size spC (k : Int)
            have hlow0 : (0 : Int) ≤ (low : Int) := Int.natCast_nonneg _
            have hk0 : (0 : Int) ≤ (k : Int) := Int.natCast_nonneg _
            by_cases g1 : low + 1 < k
            · have HE3 := Lib.hid (show ofL acc ++ wrS spC low ++ ⟨#[45]⟩ ++ wrS spC k = ofL (acc ++ rowS low k) from row3 acc g1)
              generalize wrS spC (low : Int) = t1 at *
              generalize wrS spC (k : Int) = t2 at *
              generalize ofL acc = u at *
              go_wp2_with fail
              refine (HL1.out _).mono ?_
              rintro e w4 ⟨rfl, hb4⟩
              have HO4 := Lib.hid (HO.out.under hb4 HO.out.lt)
              have HB4 := Lib.hid (keepb HB.out hb4)
              clear hb4 HO HB
              go_wp2_with fail
              refine (HL2.out _).mono ?_
              rintro e w5 ⟨rfl, hb5⟩
              have HO5 := Lib.hid (HO4.out.under hb5 HO4.out.lt)
              have HB5 := Lib.hid (keepb HB4.out hb5)
              clear hb5 HO4 HB4
              go_wp2
              go_roundw
              case rel => exact ⟨k + 1, f - 1, acc ++ rowS low k, by go_num, by omega, by rw [← HE3.out], HT2, HO5, HB5⟩
              case measure => simp [intOf]; omega
            · by_cases g2 : low < k
              · have HE3 := Lib.hid (show ofL acc ++ wrS spC low ++ wrS spC k = ofL (acc ++ rowS low k) from row2 acc g1 g2)
                generalize wrS spC (low : Int) = t1 at *
                generalize wrS spC (k : Int) = t2 at *
                generalize ofL acc = u at *
                go_wp2_with fail
                refine (HL1.out _).mono ?_
                rintro e w4 ⟨rfl, hb4⟩
                have HO4 := Lib.hid (HO.out.under hb4 HO.out.lt)
                have HB4 := Lib.hid (keepb HB.out hb4)
                clear hb4 HO HB
                go_wp2_with fail
                refine (HL2.out _).mono ?_
                rintro e w5 ⟨rfl, hb5⟩
                have HO5 := Lib.hid (HO4.out.under hb5 HO4.out.lt)
                have HB5 := Lib.hid (keepb HB4.out hb5)
                clear hb5 HO4 HB4
                go_wp2
                go_roundw
                case rel => exact ⟨k + 1, f - 1, acc ++ rowS low k, by go_num, by omega, by rw [← HE3.out], HT2, HO5, HB5⟩
                case measure => simp [intOf]; omega
              · have HE3 := Lib.hid (show ofL acc ++ wrS spC low = ofL (acc ++ rowS low k) from row1 acc g2)
                generalize wrS spC (low : Int) = t1 at *
                generalize wrS spC (k : Int) = t2 at *
                generalize ofL acc = u at *
                go_wp2_with fail
                refine (HL1.out _).mono ?_
                rintro e w4 ⟨rfl, hb4⟩
                have HO4 := Lib.hid (HO.out.under hb4 HO.out.lt)
                have HB4 := Lib.hid (keepb HB.out hb4)
                clear hb4 HO HB
                go_wp2
                go_roundw
                case rel => exact ⟨k + 1, f - 1, acc ++ rowS low k, by go_num, by omega, by rw [← HE3.out], HT2, HO4, HB4⟩
                case measure => simp [intOf]; omega
    · have hA := cls_stop HT.out.1 hlt
      subst hA
      clear HT
      generalize ofL acc = u at *
      go_wp2
      go_ret
      exact ⟨ret_str HE.out, HB.out⟩
end Go.Proofs.Ytnopnjleibbakac
