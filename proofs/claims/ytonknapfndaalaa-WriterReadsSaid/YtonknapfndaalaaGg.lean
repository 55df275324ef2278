/- A class as it is written: the walk of the program's Class. A class as it is written: the walk of the reference's Class. -/
import Derived.Test.YtonknapfndaalaaGf
namespace Go.Proofs.Ytonknapfndaalaa
set_option linter.unusedVariables false
set_option maxRecDepth 1000000
open Go.RowKit
theorem prow3 (acc : List UInt8) {lo hi : Nat} (h : lo + 1 < hi) : acc ++ (wrS spC lo).data.toList ++ [45] ++ (wrS spC hi).data.toList = acc ++ rowS lo hi := by
 unfold rowS; rw [if_pos h, if_pos (by omega)]; simp [List.append_assoc]
theorem prow2 (acc : List UInt8) {lo hi : Nat} (h : ¬ lo + 1 < hi) (h2 : lo < hi) : acc ++ (wrS spC lo).data.toList ++ (wrS spC hi).data.toList = acc ++ rowS lo hi := by
 unfold rowS; rw [if_neg h, if_pos h2]; simp [List.append_assoc]
theorem prow1 (acc : List UInt8) {lo hi : Nat} (h2 : ¬ lo < hi) : acc ++ (wrS spC lo).data.toList = acc ++ rowS lo hi := by
 unfold rowS; rw [if_neg (by omega), if_neg h2]; simp
set_option maxHeartbeats 1600000 in
set_option maxRecDepth 100000 in
theorem class_any (a b c d : Nat) (ha : a < P64) (hb : b < P64) (hc : c < P64) (hd : d < P64) (w : World) :
  Calls Try.prog 23 #[.agg #[.int .u64 (a : Int), .int .u64 (b : Int), .int .u64 (c : Int), .int .u64 (d : Int)]] w
   fun e w' => e = .returned (.string (classS (inSet a b c d))) ∧ Below w.heap.size w w' := by
 have HH := Lib.hid (fun x hx W => has_any a b c d x hx ha hb hc hd W)
 clear ha hb hc hd
 obtain ⟨h, hh⟩ : ∃ h, inSet a b c d = h := ⟨_, rfl⟩
 rw [hh] at HH ⊢
 clear hh
 have HTL := Lib.hid (clsL_len h)
 obtain ⟨tot, htot⟩ : ∃ tot, clsL h = tot := ⟨_, rfl⟩
 rw [htot] at HTL
 have HE := Lib.hid (show ofL (tot ++ [93]) = classS h by unfold classS; rw [htot])
 have HT0 := Lib.hid (show [91] ++ clsF h 257 0 = tot from htot)
 clear htot
 obtain ⟨BX, hBX⟩ : ∃ BX, Obj.cells #[.int .u64 (a : Int), .int .u64 (b : Int), .int .u64 (c : Int), .int .u64 (d : Int)] 25 = BX := ⟨_, rfl⟩
 have HO0 := Lib.hid ((Own.fresh w 25 [.int .u64 (a : Int), .int .u64 (b : Int), .int .u64 (c : Int), .int .u64 (d : Int)]).on_alloc (.cells #[.pointer none, .slice none 0 0] 67))
 have HB0 := Lib.hid (show Below w.heap.size w ((w.alloc (.cells #[.int .u64 (a : Int), .int .u64 (b : Int), .int .u64 (c : Int), .int .u64 (d : Int)] 25)).alloc (.cells #[.pointer none, .slice none 0 0] 67)) by go_grown)
 have HL0 := Lib.hid (show Bld (w.heap.size + 1) (w.heap.size + 1) [] ((w.alloc (.cells #[.int .u64 (a : Int), .int .u64 (b : Int), .int .u64 (c : Int), .int .u64 (d : Int)] 25)).alloc (.cells #[.pointer none, .slice none 0 0] 67)) by
  have g := bld_new (w.alloc (.cells #[.int .u64 (a : Int), .int .u64 (b : Int), .int .u64 (c : Int), .int .u64 (d : Int)] 25))
  rw [show (w.alloc (.cells #[.int .u64 (a : Int), .int .u64 (b : Int), .int .u64 (c : Int), .int .u64 (d : Int)] 25)).heap.size = w.heap.size + 1 by simp] at g
  exact g)
 clear hBX BX
 go_enter Try.func23, Try.ntmps23
 go_wp2_with fail
 refine (bbyte_any (w.heap.size + 1) (w.heap.size + 1) [] 91 _ HL0.out (by simp) HO0.out.lt).mono ?_
 rintro e w1 ⟨rfl, hl1, hb1⟩
 have HO1 := Lib.hid (HO0.out.under hb1 (Nat.lt_succ_self _))
 have HB1 := Lib.hid (HB0.out.trans (hb1.mono (Nat.le_succ _)))
 have HL1 := Lib.hid hl1
 clear hl1 hb1 HO0 HB0 HL0
 go_wp2_with fail
 go_loopw [4] (fun b4 wr => ∃ (low f : Nat) (acc : List UInt8), b4 = .int .i64 (low : Int) ∧ low ≤ 256 ∧ Hid (acc ++ clsF h f low = tot ∧ 256 < f + low) ∧ Hid (Bld (w.heap.size + 1) (w.heap.size + 1) acc wr) ∧ Hid (Own wr w.heap.size 25 [.int .u64 (a : Int), .int .u64 (b : Int), .int .u64 (c : Int), .int .u64 (d : Int)]) ∧ Hid (Below w.heap.size w wr)) (fun b4 _ => 256 - (intOf b4).toNat)
 case atStart => exact ⟨0, 257, [91], rfl, by omega, Lib.hid ⟨HT0.out, by omega⟩, HL1, HO1, HB1⟩
 case round =>
  obtain ⟨low, f, acc, rfl, hlow, HT, HL, HO, HB⟩ := hrel
  clear HT0 HO1 HB1 HL1
  have hu : acc.length ≤ 2400 := acc_le HT.out.1 HTL.out
  by_cases hlt : low < 256
  ·
   obtain ⟨o0, o1, o2, o3, q0, q1, q2, q3⟩ := HO.out.four
   obtain ⟨bh, hbh⟩ : ∃ bh, h low = bh := ⟨_, rfl⟩
   have HC := Lib.hid (HH.out low hlt)
   rw [hbh] at HC
   cases bh
   ·
    have HT2 := Lib.hid (And.intro (cls_skip HT.out.1 HT.out.2 hlt hbh) (show 256 < (f - 1) + (low + 1) by have := HT.out.2; omega))
    clear HT hbh
    go_wp2_with fail
    refine (HC.out _).mono ?_
    rintro e w2 ⟨rfl, hb2⟩
    have HO2 := Lib.hid (HO.out.under hb2 HO.out.lt)
    have HB2 := Lib.hid (keepb HB.out hb2)
    have HL2 := Lib.hid (HL.out.below hb2)
    clear hb2 HO HB HL
    clear HC o0 o1 o2 o3 q0 q1 q2 q3
    go_wp2
    go_roundw
    case rel => exact ⟨low + 1, f - 1, acc, by go_num, by omega, HT2, HL2, HO2, HB2⟩
    case measure => simp [intOf]; omega
   ·
    have hge := runTo_ge h 255 low
    have hle := runTo_le h 255 low (by omega)
    have HT2 := Lib.hid (And.intro (cls_step HT.out.1 HT.out.2 hlt hbh) (show 256 < (f - 1) + (runTo h 255 low + 1) by have := HT.out.2; omega))
    obtain ⟨HI, hHI⟩ : ∃ HI, runTo h 255 low = HI := ⟨_, rfl⟩
    rw [hHI] at hge hle HT2
    have HR0 := Lib.hid hHI
    clear HT hbh hHI
    go_wp2_with fail
    refine (HC.out _).mono ?_
    rintro e w2 ⟨rfl, hb2⟩
    have HO2 := Lib.hid (HO.out.under hb2 HO.out.lt)
    have HB2 := Lib.hid (keepb HB.out hb2)
    have HL2 := Lib.hid (HL.out.below hb2)
    clear hb2 HO HB HL
    clear HC o0 o1 o2 o3 q0 q1 q2 q3
    go_wp2_with fail
    go_loopw [5] (fun b5 wr => ∃ (k f' : Nat), b5 = .int .i64 (k : Int) ∧ k ≤ 255 ∧ Hid (runTo h f' k = HI ∧ 254 < f' + k) ∧ Hid (Bld (w.heap.size + 1) (w.heap.size + 1) acc wr) ∧ Hid (Own wr w.heap.size 25 [.int .u64 (a : Int), .int .u64 (b : Int), .int .u64 (c : Int), .int .u64 (d : Int)]) ∧ Hid (Below w.heap.size w wr)) (fun b5 _ => 255 - (intOf b5).toNat)
    case atStart => exact ⟨low, 255, rfl, by omega, Lib.hid ⟨HR0.out, by omega⟩, HL2, HO2, HB2⟩
    case round =>
     obtain ⟨k, f', rfl, hk, HR, HL, HO, HB⟩ := hrel
     clear HO2 HB2 HR0 HL2
     obtain ⟨o0, o1, o2, o3, q0, q1, q2, q3⟩ := HO.out.four
     by_cases hk1 : k < 255
     ·
      have HC := Lib.hid (HH.out (k + 1) (by omega))
      obtain ⟨bh, hbh⟩ : ∃ bh, h (k + 1) = bh := ⟨_, rfl⟩
      rw [hbh] at HC
      cases bh
      ·
       have hE := HR.out.1
       rw [runTo_stop f' (by rw [hbh]; simp)] at hE
       subst hE
       clear HR hbh
       go_wp2_with fail
       refine (HC.out _).mono ?_
       rintro e w3 ⟨rfl, hb3⟩
       have HO3 := Lib.hid (HO.out.under hb3 HO.out.lt)
       have HB3 := Lib.hid (keepb HB.out hb3)
       have HL3 := Lib.hid (HL.out.below hb3)
       clear hb3 HO HB HL
       clear HC o0 o1 o2 o3 q0 q1 q2 q3
       have HW1 := Lib.hid (fun W => written_any spC (low : Int) (by omega) (by omega) W)
       have HW2 := Lib.hid (fun W => written_any spC (k : Int) (by omega) (by omega) W)
       have ht1 := wrS_size spC (low : Int)
       have ht2 := wrS_size spC (k : Int)
       have hlow0 : (0 : Int) ≤ (low : Int) := Int.natCast_nonneg _
       have hk0 : (0 : Int) ≤ (k : Int) := Int.natCast_nonneg _
       by_cases g1 : low + 1 < k
       ·
        have HE3 := Lib.hid (show acc ++ (wrS spC low).data.toList ++ [45] ++ (wrS spC k).data.toList = acc ++ rowS low k from prow3 acc g1)
        have hz1 : (wrS spC low).data.toList.length ≤ 4 := wr_len _ _
        generalize wrS spC (low : Int) = t1 at *
        generalize wrS spC (k : Int) = t2 at *
        go_wp2_with fail
        refine (HW1.out _).mono ?_
        rintro e w4 ⟨rfl, hb4⟩
        have HO4 := Lib.hid (HO3.out.under hb4 HO3.out.lt)
        have HB4 := Lib.hid (keepb HB3.out hb4)
        have HL4 := Lib.hid (HL3.out.below hb4)
        clear hb4 HO3 HB3 HL3
        go_wp2_with fail
        refine (bstr_any (w.heap.size + 1) (w.heap.size + 1) acc t1 _ HL4.out (by omega) (by omega) HO4.out.lt).mono ?_
        rintro e w5 ⟨rfl, hl5, hb5⟩
        have HO5 := Lib.hid (HO4.out.under hb5 (Nat.lt_succ_self _))
        have HB5 := Lib.hid (HB4.out.trans (hb5.mono (Nat.le_succ _)))
        have HL5 := Lib.hid hl5
        clear hl5 hb5 HO4 HB4 HL4
        go_wp2_with fail
        refine (bbyte_any (w.heap.size + 1) (w.heap.size + 1) (acc ++ t1.data.toList) 45 _ HL5.out (by rw [List.length_append]; omega) HO5.out.lt).mono ?_
        rintro e w6 ⟨rfl, hl6, hb6⟩
        have HO6 := Lib.hid (HO5.out.under hb6 (Nat.lt_succ_self _))
        have HB6 := Lib.hid (HB5.out.trans (hb6.mono (Nat.le_succ _)))
        have HL6 := Lib.hid hl6
        clear hl6 hb6 HO5 HB5 HL5
        go_wp2_with fail
        refine (HW2.out _).mono ?_
        rintro e w7 ⟨rfl, hb7⟩
        have HO7 := Lib.hid (HO6.out.under hb7 HO6.out.lt)
        have HB7 := Lib.hid (keepb HB6.out hb7)
        have HL7 := Lib.hid (HL6.out.below hb7)
        clear hb7 HO6 HB6 HL6
        go_wp2_with fail
        refine (bstr_any (w.heap.size + 1) (w.heap.size + 1) (acc ++ t1.data.toList ++ [45]) t2 _ HL7.out (by simp only [List.length_append, List.length_cons, List.length_nil]; omega) (by omega) HO7.out.lt).mono ?_
        rintro e w8 ⟨rfl, hl8, hb8⟩
        have HO8 := Lib.hid (HO7.out.under hb8 (Nat.lt_succ_self _))
        have HB8 := Lib.hid (HB7.out.trans (hb8.mono (Nat.le_succ _)))
        have HL8 := Lib.hid hl8
        clear hl8 hb8 HO7 HB7 HL7
        have HLZ := Lib.hid (show Bld (w.heap.size + 1) (w.heap.size + 1) (acc ++ rowS low k) _ from HE3.out ▸ HL8.out)
        clear HL8
        go_wp2
        go_roundw
        case rel => exact ⟨k + 1, f - 1, acc ++ rowS low k, by go_num, by omega, HT2, HLZ, HO8, HB8⟩
        case measure => simp [intOf]; omega
       ·
        by_cases g2 : low < k
        ·
         have HE3 := Lib.hid (show acc ++ (wrS spC low).data.toList ++ (wrS spC k).data.toList = acc ++ rowS low k from prow2 acc g1 g2)
         have hz1 : (wrS spC low).data.toList.length ≤ 4 := wr_len _ _
         generalize wrS spC (low : Int) = t1 at *
         generalize wrS spC (k : Int) = t2 at *
         go_wp2_with fail
         refine (HW1.out _).mono ?_
         rintro e w4 ⟨rfl, hb4⟩
         have HO4 := Lib.hid (HO3.out.under hb4 HO3.out.lt)
         have HB4 := Lib.hid (keepb HB3.out hb4)
         have HL4 := Lib.hid (HL3.out.below hb4)
         clear hb4 HO3 HB3 HL3
         go_wp2_with fail
         refine (bstr_any (w.heap.size + 1) (w.heap.size + 1) acc t1 _ HL4.out (by omega) (by omega) HO4.out.lt).mono ?_
         rintro e w5 ⟨rfl, hl5, hb5⟩
         have HO5 := Lib.hid (HO4.out.under hb5 (Nat.lt_succ_self _))
         have HB5 := Lib.hid (HB4.out.trans (hb5.mono (Nat.le_succ _)))
         have HL5 := Lib.hid hl5
         clear hl5 hb5 HO4 HB4 HL4
         go_wp2_with fail
         refine (HW2.out _).mono ?_
         rintro e w7 ⟨rfl, hb7⟩
         have HO7 := Lib.hid (HO5.out.under hb7 HO5.out.lt)
         have HB7 := Lib.hid (keepb HB5.out hb7)
         have HL7 := Lib.hid (HL5.out.below hb7)
         clear hb7 HO5 HB5 HL5
         go_wp2_with fail
         refine (bstr_any (w.heap.size + 1) (w.heap.size + 1) (acc ++ t1.data.toList) t2 _ HL7.out (by simp only [List.length_append]; omega) (by omega) HO7.out.lt).mono ?_
         rintro e w8 ⟨rfl, hl8, hb8⟩
         have HO8 := Lib.hid (HO7.out.under hb8 (Nat.lt_succ_self _))
         have HB8 := Lib.hid (HB7.out.trans (hb8.mono (Nat.le_succ _)))
         have HL8 := Lib.hid hl8
         clear hl8 hb8 HO7 HB7 HL7
         have HLZ := Lib.hid (show Bld (w.heap.size + 1) (w.heap.size + 1) (acc ++ rowS low k) _ from HE3.out ▸ HL8.out)
         clear HL8
         go_wp2
         go_roundw
         case rel => exact ⟨k + 1, f - 1, acc ++ rowS low k, by go_num, by omega, HT2, HLZ, HO8, HB8⟩
         case measure => simp [intOf]; omega
        ·
         have HE3 := Lib.hid (show acc ++ (wrS spC low).data.toList = acc ++ rowS low k from prow1 acc g2)
         have hz1 : (wrS spC low).data.toList.length ≤ 4 := wr_len _ _
         generalize wrS spC (low : Int) = t1 at *
         generalize wrS spC (k : Int) = t2 at *
         go_wp2_with fail
         refine (HW1.out _).mono ?_
         rintro e w4 ⟨rfl, hb4⟩
         have HO4 := Lib.hid (HO3.out.under hb4 HO3.out.lt)
         have HB4 := Lib.hid (keepb HB3.out hb4)
         have HL4 := Lib.hid (HL3.out.below hb4)
         clear hb4 HO3 HB3 HL3
         go_wp2_with fail
         refine (bstr_any (w.heap.size + 1) (w.heap.size + 1) acc t1 _ HL4.out (by omega) (by omega) HO4.out.lt).mono ?_
         rintro e w5 ⟨rfl, hl5, hb5⟩
         have HO5 := Lib.hid (HO4.out.under hb5 (Nat.lt_succ_self _))
         have HB5 := Lib.hid (HB4.out.trans (hb5.mono (Nat.le_succ _)))
         have HL5 := Lib.hid hl5
         clear hl5 hb5 HO4 HB4 HL4
         have HLZ := Lib.hid (show Bld (w.heap.size + 1) (w.heap.size + 1) (acc ++ rowS low k) _ from HE3.out ▸ HL5.out)
         clear HL5
         go_wp2
         go_roundw
         case rel => exact ⟨k + 1, f - 1, acc ++ rowS low k, by go_num, by omega, HT2, HLZ, HO5, HB5⟩
         case measure => simp [intOf]; omega
      ·
       have HR2 := Lib.hid (show runTo h (f' - 1) (k + 1) = HI ∧ 254 < (f' - 1) + (k + 1) by
        obtain ⟨r1, r2⟩ := HR.out
        obtain ⟨g, rfl⟩ : ∃ g, f' = g + 1 := ⟨f' - 1, by omega⟩
        rw [runTo_step hk1 hbh] at r1
        exact ⟨r1, by omega⟩)
       clear HR hbh
       go_wp2_with fail
       refine (HC.out _).mono ?_
       rintro e w3 ⟨rfl, hb3⟩
       have HO3 := Lib.hid (HO.out.under hb3 HO.out.lt)
       have HB3 := Lib.hid (keepb HB.out hb3)
       have HL3 := Lib.hid (HL.out.below hb3)
       clear hb3 HO HB HL
       clear HC o0 o1 o2 o3 q0 q1 q2 q3
       go_wp2
       go_roundw
       case rel => exact ⟨k + 1, f' - 1, by go_num, by omega, HR2, HL3, HO3, HB3⟩
       case measure => simp [intOf]; omega
     ·
      have hE := HR.out.1
      rw [runTo_stop f' (by omega)] at hE
      subst hE
      clear HR o0 o1 o2 o3 q0 q1 q2 q3
      have HW1 := Lib.hid (fun W => written_any spC (low : Int) (by omega) (by omega) W)
      have HW2 := Lib.hid (fun W => written_any spC (k : Int) (by omega) (by omega) W)
      have ht1 := wrS_size spC (low : Int)
      have ht2 := wrS_size spC (k : Int)
      have hlow0 : (0 : Int) ≤ (low : Int) := Int.natCast_nonneg _
      have hk0 : (0 : Int) ≤ (k : Int) := Int.natCast_nonneg _
      by_cases g1 : low + 1 < k
      ·
       have HE3 := Lib.hid (show acc ++ (wrS spC low).data.toList ++ [45] ++ (wrS spC k).data.toList = acc ++ rowS low k from prow3 acc g1)
       have hz1 : (wrS spC low).data.toList.length ≤ 4 := wr_len _ _
       generalize wrS spC (low : Int) = t1 at *
       generalize wrS spC (k : Int) = t2 at *
       go_wp2_with fail
       refine (HW1.out _).mono ?_
       rintro e w4 ⟨rfl, hb4⟩
       have HO4 := Lib.hid (HO.out.under hb4 HO.out.lt)
       have HB4 := Lib.hid (keepb HB.out hb4)
       have HL4 := Lib.hid (HL.out.below hb4)
       clear hb4 HO HB HL
       go_wp2_with fail
       refine (bstr_any (w.heap.size + 1) (w.heap.size + 1) acc t1 _ HL4.out (by omega) (by omega) HO4.out.lt).mono ?_
       rintro e w5 ⟨rfl, hl5, hb5⟩
       have HO5 := Lib.hid (HO4.out.under hb5 (Nat.lt_succ_self _))
       have HB5 := Lib.hid (HB4.out.trans (hb5.mono (Nat.le_succ _)))
       have HL5 := Lib.hid hl5
       clear hl5 hb5 HO4 HB4 HL4
       go_wp2_with fail
       refine (bbyte_any (w.heap.size + 1) (w.heap.size + 1) (acc ++ t1.data.toList) 45 _ HL5.out (by rw [List.length_append]; omega) HO5.out.lt).mono ?_
       rintro e w6 ⟨rfl, hl6, hb6⟩
       have HO6 := Lib.hid (HO5.out.under hb6 (Nat.lt_succ_self _))
       have HB6 := Lib.hid (HB5.out.trans (hb6.mono (Nat.le_succ _)))
       have HL6 := Lib.hid hl6
       clear hl6 hb6 HO5 HB5 HL5
       go_wp2_with fail
       refine (HW2.out _).mono ?_
       rintro e w7 ⟨rfl, hb7⟩
       have HO7 := Lib.hid (HO6.out.under hb7 HO6.out.lt)
       have HB7 := Lib.hid (keepb HB6.out hb7)
       have HL7 := Lib.hid (HL6.out.below hb7)
       clear hb7 HO6 HB6 HL6
       go_wp2_with fail
       refine (bstr_any (w.heap.size + 1) (w.heap.size + 1) (acc ++ t1.data.toList ++ [45]) t2 _ HL7.out (by simp only [List.length_append, List.length_cons, List.length_nil]; omega) (by omega) HO7.out.lt).mono ?_
       rintro e w8 ⟨rfl, hl8, hb8⟩
       have HO8 := Lib.hid (HO7.out.under hb8 (Nat.lt_succ_self _))
       have HB8 := Lib.hid (HB7.out.trans (hb8.mono (Nat.le_succ _)))
       have HL8 := Lib.hid hl8
       clear hl8 hb8 HO7 HB7 HL7
       have HLZ := Lib.hid (show Bld (w.heap.size + 1) (w.heap.size + 1) (acc ++ rowS low k) _ from HE3.out ▸ HL8.out)
       clear HL8
       go_wp2
       go_roundw
       case rel => exact ⟨k + 1, f - 1, acc ++ rowS low k, by go_num, by omega, HT2, HLZ, HO8, HB8⟩
       case measure => simp [intOf]; omega
      ·
       by_cases g2 : low < k
       ·
        have HE3 := Lib.hid (show acc ++ (wrS spC low).data.toList ++ (wrS spC k).data.toList = acc ++ rowS low k from prow2 acc g1 g2)
        have hz1 : (wrS spC low).data.toList.length ≤ 4 := wr_len _ _
        generalize wrS spC (low : Int) = t1 at *
        generalize wrS spC (k : Int) = t2 at *
        go_wp2_with fail
        refine (HW1.out _).mono ?_
        rintro e w4 ⟨rfl, hb4⟩
        have HO4 := Lib.hid (HO.out.under hb4 HO.out.lt)
        have HB4 := Lib.hid (keepb HB.out hb4)
        have HL4 := Lib.hid (HL.out.below hb4)
        clear hb4 HO HB HL
        go_wp2_with fail
        refine (bstr_any (w.heap.size + 1) (w.heap.size + 1) acc t1 _ HL4.out (by omega) (by omega) HO4.out.lt).mono ?_
        rintro e w5 ⟨rfl, hl5, hb5⟩
        have HO5 := Lib.hid (HO4.out.under hb5 (Nat.lt_succ_self _))
        have HB5 := Lib.hid (HB4.out.trans (hb5.mono (Nat.le_succ _)))
        have HL5 := Lib.hid hl5
        clear hl5 hb5 HO4 HB4 HL4
        go_wp2_with fail
        refine (HW2.out _).mono ?_
        rintro e w7 ⟨rfl, hb7⟩
        have HO7 := Lib.hid (HO5.out.under hb7 HO5.out.lt)
        have HB7 := Lib.hid (keepb HB5.out hb7)
        have HL7 := Lib.hid (HL5.out.below hb7)
        clear hb7 HO5 HB5 HL5
        go_wp2_with fail
        refine (bstr_any (w.heap.size + 1) (w.heap.size + 1) (acc ++ t1.data.toList) t2 _ HL7.out (by simp only [List.length_append]; omega) (by omega) HO7.out.lt).mono ?_
        rintro e w8 ⟨rfl, hl8, hb8⟩
        have HO8 := Lib.hid (HO7.out.under hb8 (Nat.lt_succ_self _))
        have HB8 := Lib.hid (HB7.out.trans (hb8.mono (Nat.le_succ _)))
        have HL8 := Lib.hid hl8
        clear hl8 hb8 HO7 HB7 HL7
        have HLZ := Lib.hid (show Bld (w.heap.size + 1) (w.heap.size + 1) (acc ++ rowS low k) _ from HE3.out ▸ HL8.out)
        clear HL8
        go_wp2
        go_roundw
        case rel => exact ⟨k + 1, f - 1, acc ++ rowS low k, by go_num, by omega, HT2, HLZ, HO8, HB8⟩
        case measure => simp [intOf]; omega
       ·
        have HE3 := Lib.hid (show acc ++ (wrS spC low).data.toList = acc ++ rowS low k from prow1 acc g2)
        have hz1 : (wrS spC low).data.toList.length ≤ 4 := wr_len _ _
        generalize wrS spC (low : Int) = t1 at *
        generalize wrS spC (k : Int) = t2 at *
        go_wp2_with fail
        refine (HW1.out _).mono ?_
        rintro e w4 ⟨rfl, hb4⟩
        have HO4 := Lib.hid (HO.out.under hb4 HO.out.lt)
        have HB4 := Lib.hid (keepb HB.out hb4)
        have HL4 := Lib.hid (HL.out.below hb4)
        clear hb4 HO HB HL
        go_wp2_with fail
        refine (bstr_any (w.heap.size + 1) (w.heap.size + 1) acc t1 _ HL4.out (by omega) (by omega) HO4.out.lt).mono ?_
        rintro e w5 ⟨rfl, hl5, hb5⟩
        have HO5 := Lib.hid (HO4.out.under hb5 (Nat.lt_succ_self _))
        have HB5 := Lib.hid (HB4.out.trans (hb5.mono (Nat.le_succ _)))
        have HL5 := Lib.hid hl5
        clear hl5 hb5 HO4 HB4 HL4
        have HLZ := Lib.hid (show Bld (w.heap.size + 1) (w.heap.size + 1) (acc ++ rowS low k) _ from HE3.out ▸ HL5.out)
        clear HL5
        go_wp2
        go_roundw
        case rel => exact ⟨k + 1, f - 1, acc ++ rowS low k, by go_num, by omega, HT2, HLZ, HO5, HB5⟩
        case measure => simp [intOf]; omega
  ·
   have hA := cls_stop HT.out.1 hlt
   subst hA
   clear HT
   go_wp2_with fail
   refine (bbyte_any (w.heap.size + 1) (w.heap.size + 1) acc 93 _ HL.out (by omega) HO.out.lt).mono ?_
   rintro e w2 ⟨rfl, hl2, hb2⟩
   have HO2 := Lib.hid (HO.out.under hb2 (Nat.lt_succ_self _))
   have HB2 := Lib.hid (HB.out.trans (hb2.mono (Nat.le_succ _)))
   have HL2 := Lib.hid hl2
   clear hl2 hb2 HO HB HL
   go_wp2_with fail
   refine (bstring_any (w.heap.size + 1) (w.heap.size + 1) (acc ++ [93]) _ HL2.out HO2.out.lt).mono ?_
   rintro e w3 ⟨rfl, hb3⟩
   have HB3 := Lib.hid (HB2.out.trans (hb3.mono (Nat.le_succ _)))
   clear hb3
   go_wp2
   go_ret
   exact ⟨ret_str HE.out, HB3.out⟩
end Go.Proofs.Ytonknapfndaalaa

namespace Go.Proofs.Ytonknapfndaalaa
set_option linter.unusedVariables false
set_option maxRecDepth 1000000
open Go.RowKit
end Go.Proofs.Ytonknapfndaalaa
