/- The walks of Deep and Size, of the program's and the reference's. -/
import Derived.Test.YtinkgidncdjapacChecked
import Derived.Test.YtinkgidncdjapacEx
import Derived.Test.YtinkgidncdjapacQuiet
import Derived.Handy
import Derived.KernelRfl
import Derived.WalkLawsBesides
import Derived.BigQuiet
namespace Go.Proofs.Ytinkgidncdjapac
set_option linter.unusedVariables false
open Go.RowKit Go.Sort

set_option maxHeartbeats 1600000 in
theorem deep_any : ∀ (n : Nat) (hn : n ≤ 18) (x : Ex) (ko : Option Addr) (kc : Nat) (w : World), grt n x = false → HasK w n ko x.kids →
    Calls Try.prog 12 #[exv x ko kc] w fun e w' => e = .returned (.int .i64 (deepX n x)) ∧ Below w.heap.size w w'
  | 0, _, x, _, _, _, h, _ => by cases h
  | n + 1, hn, x, ko, kc, w, hf, hK => by
    have IH := Lib.hid (fun (y : Ex) (ao : Option Addr) (c : Nat) (W : World) => deep_any n (by omega) y ao c W)
    have HK := Lib.hid hK
    have HF := Lib.hid hf
    have hl := (grt_len hf).1
    obtain ⟨m, hm⟩ : ∃ m, x.kids.length = m := ⟨_, rfl⟩
    have HM := Lib.hid hm
    have HB0 := Lib.hid (show Below w.heap.size w (w.alloc (.cells #[.int .i64 x.op, .string x.text, .int .u64 x.s0, .int .u64 x.s1, .int .u64 x.s2, .int .u64 x.s3, .slice ko m kc] 27)) from (Below.refl _ _).alloc (Nat.le_refl _) _)
    have HO := Lib.hid (Own.fresh w 27 [.int .i64 x.op, .string x.text, .int .u64 x.s0, .int .u64 x.s1, .int .u64 x.s2, .int .u64 x.s3, .slice ko m kc])
    unfold exv
    rw [hm] at hl ⊢
    clear hm hK hf
    go_enter Try.func12, Try.ntmps12
    go_wp2_with fail
    go_loopw [3, 9] (fun b3 b9 wr => ∃ k : Nat, b9 = .int .i64 (k : Int) ∧ (k : Int) ≤ m ∧ b3 = .int .i64 ((x.kids.take k).foldl (fun m y => max m (deepX n y)) 0) ∧ Hid (Below w.heap.size w wr))
      (fun _ b9 _ => m - (intOf b9).toNat)
    case atStart => exact ⟨0, rfl, by omega, rfl, HB0⟩
    case round =>
      obtain ⟨k, rfl, hk2, rfl, HB⟩ := hrel
      clear HB0 HO
      by_cases h2 : (k : Int) < m
      · obtain ⟨y, hy⟩ : ∃ y, x.kids[k]? = some y := ⟨_, List.getElem?_eq_getElem (by have := HM.out; omega)⟩
        obtain ⟨g, off, kk, kd, rfl, hg, c0, c1, c2, c3, c4, c5, c6, hr⟩ := HK.out k y hy
        have HR := Lib.hid hr
        have HFY := Lib.hid (grt_kid HF.out hy)
        have HT := Lib.hid (show (x.kids.take (k + 1)).foldl (fun m y => max m (deepX n y)) 0 = max ((x.kids.take k).foldl (fun m y => max m (deepX n y)) 0) (deepX n y) from fold_snoc (fun m y => max m (deepX n y)) 0 x.kids hy)
        have hb := Lib.hid (deepX_take n x k)
        have hs := hb.out
        have hs3 := deepX_bd n y
        have HB9 := Lib.hid (And.intro hs hs3)
        clear hr hy hs hs3 hb 
        generalize hq : ((x.kids.take k).foldl (fun m y => max m (deepX n y)) 0) = q at *
        have HQ := Lib.hid hq
        clear hq
        have e0 := keepc c0 HB.out
        have e1 := keepc c1 HB.out
        have e2 := keepc c2 HB.out
        have e3 := keepc c3 HB.out
        have e4 := keepc c4 HB.out
        have e5 := keepc c5 HB.out
        have e6 := keepc c6 HB.out
        have hgr : g < wr.heap.size := Nat.lt_of_lt_of_le hg HB.out.size
        clear c0 c1 c2 c3 c4 c5 c6 hg
        obtain ⟨z, hz⟩ : ∃ z, deepX n y = z := ⟨_, rfl⟩
        have HZ := Lib.hid hz
        have hbnd := HB9.out
        rw [hz] at hbnd
        rw [hz] at HT
        clear hz HB9
        go_wp2_with fail
        refine (IH.out y kk kd _ HFY.out (HasK.below (HB.out.alloc HB.out.size _) HR.out)).mono ?_
        rintro e w1 ⟨rfl, hb1⟩
        rw [HZ.out]
        have HB1 := Lib.hid (keepb (HB.out.alloc HB.out.size _) hb1)
        clear hb1 e0 e1 e2 e3 e4 e5 e6
        obtain ⟨hq0, hq1, hz0, hz1⟩ : 0 ≤ q ∧ q ≤ 150094635296999121 ∧ 0 ≤ z ∧ z ≤ 150094635296999121 := by omega
        clear hbnd
        have HT2 := Lib.hid (HT.out)
        clear HT
        go_wp2
        all_goals go_roundw
        all_goals first
          | (case rel => exact ⟨k + 1, by go_num, by omega, by rw [HT2.out] <;> (first | rfl | (congr 1; omega)), HB1⟩)
          | skip
        all_goals (simp [intOf]; omega)
      · obtain rfl : k = m := by omega
        have HE := Lib.hid (show deepX (n + 1) x = (x.kids.take k).foldl (fun m y => max m (deepX n y)) 0 + 1 from by rw [← HM.out, fold_all]; rfl)
        have hb := deepX_take n x k
        have hs2 := cap9_le hn
        generalize hq : ((x.kids.take k).foldl (fun m y => max m (deepX n y)) 0) = q at *
        clear hq
        have hqb : 0 ≤ q ∧ q ≤ 150094635296999121 := by omega
        clear hb hs2
        go_wp2
        go_ret
        exact ⟨ret_int HE.out.symm, HB.out⟩

set_option maxHeartbeats 1600000 in
theorem rdeep_any : ∀ (n : Nat) (hn : n ≤ 18) (x : Ex) (ko : Option Addr) (kc : Nat) (w : World), grt n x = false → HasK w n ko x.kids →
    Calls Try.prog 13 #[exv x ko kc] w fun e w' => e = .returned (.int .i64 (deepX n x)) ∧ Below w.heap.size w w'
  | 0, _, x, _, _, _, h, _ => by cases h
  | n + 1, hn, x, ko, kc, w, hf, hK => by
    have IH := Lib.hid (fun (y : Ex) (ao : Option Addr) (c : Nat) (W : World) => rdeep_any n (by omega) y ao c W)
    have HK := Lib.hid hK
    have HF := Lib.hid hf
    have hl := (grt_len hf).1
    obtain ⟨m, hm⟩ : ∃ m, x.kids.length = m := ⟨_, rfl⟩
    have HM := Lib.hid hm
    have HB0 := Lib.hid (show Below w.heap.size w (w.alloc (.cells #[.int .i64 x.op, .string x.text, .int .u64 x.s0, .int .u64 x.s1, .int .u64 x.s2, .int .u64 x.s3, .slice ko m kc] 27)) from (Below.refl _ _).alloc (Nat.le_refl _) _)
    have HO := Lib.hid (Own.fresh w 27 [.int .i64 x.op, .string x.text, .int .u64 x.s0, .int .u64 x.s1, .int .u64 x.s2, .int .u64 x.s3, .slice ko m kc])
    unfold exv
    rw [hm] at hl ⊢
    clear hm hK hf
    go_enter Try.func13, Try.ntmps13
    go_wp2_with fail
    go_loopw [3, 4] (fun b3 b9 wr => ∃ k : Nat, b9 = .int .i64 (k : Int) ∧ (k : Int) ≤ m ∧ b3 = .int .i64 ((x.kids.take k).foldl (fun m y => max m (deepX n y)) 0) ∧ Hid (Below w.heap.size w wr) ∧ Hid (Own wr w.heap.size 27 [.int .i64 x.op, .string x.text, .int .u64 x.s0, .int .u64 x.s1, .int .u64 x.s2, .int .u64 x.s3, .slice ko m kc]))
      (fun _ b9 _ => m - (intOf b9).toNat)
    case atStart => exact ⟨0, rfl, by omega, rfl, HB0, HO⟩
    case round =>
      obtain ⟨k, rfl, hk2, rfl, HB, HO1⟩ := hrel
      clear HB0 HO
      have o6 := HO1.out.cell 6
      simp only [List.getElem?_cons_succ, List.getElem?_cons_zero] at o6
      by_cases h2 : (k : Int) < m
      · obtain ⟨y, hy⟩ : ∃ y, x.kids[k]? = some y := ⟨_, List.getElem?_eq_getElem (by have := HM.out; omega)⟩
        obtain ⟨g, off, kk, kd, rfl, hg, c0, c1, c2, c3, c4, c5, c6, hr⟩ := HK.out k y hy
        have HR := Lib.hid hr
        have HFY := Lib.hid (grt_kid HF.out hy)
        have HT := Lib.hid (show (x.kids.take (k + 1)).foldl (fun m y => max m (deepX n y)) 0 = max ((x.kids.take k).foldl (fun m y => max m (deepX n y)) 0) (deepX n y) from fold_snoc (fun m y => max m (deepX n y)) 0 x.kids hy)
        have hb := Lib.hid (deepX_take n x k)
        have hs := hb.out
        have hs3 := deepX_bd n y
        have HB9 := Lib.hid (And.intro hs hs3)
        clear hr hy hs hs3 hb 
        generalize hq : ((x.kids.take k).foldl (fun m y => max m (deepX n y)) 0) = q at *
        have HQ := Lib.hid hq
        clear hq
        have e0 := keepc c0 HB.out
        have e1 := keepc c1 HB.out
        have e2 := keepc c2 HB.out
        have e3 := keepc c3 HB.out
        have e4 := keepc c4 HB.out
        have e5 := keepc c5 HB.out
        have e6 := keepc c6 HB.out
        have hgr : g < wr.heap.size := Nat.lt_of_lt_of_le hg HB.out.size
        clear c0 c1 c2 c3 c4 c5 c6 hg
        obtain ⟨z, hz⟩ : ∃ z, deepX n y = z := ⟨_, rfl⟩
        have HZ := Lib.hid hz
        have hbnd := HB9.out
        rw [hz] at hbnd
        rw [hz] at HT
        clear hz HB9
        go_wp2_with fail
        refine (IH.out y kk kd _ HFY.out (HasK.below (HB.out) HR.out)).mono ?_
        rintro e w1 ⟨rfl, hb1⟩
        rw [HZ.out]
        have HB1 := Lib.hid (keepb (HB.out) hb1)
        have HO2 := Lib.hid (HO1.out.under hb1 HO1.out.lt)
        clear o6
        clear hb1 e0 e1 e2 e3 e4 e5 e6
        obtain ⟨hq0, hq1, hz0, hz1⟩ : 0 ≤ q ∧ q ≤ 150094635296999121 ∧ 0 ≤ z ∧ z ≤ 150094635296999121 := by omega
        clear hbnd
        have HT2 := Lib.hid (HT.out)
        clear HT
        go_wp2
        all_goals go_roundw
        all_goals first
          | (case rel => exact ⟨k + 1, by go_num, by omega, by rw [HT2.out] <;> (first | rfl | (congr 1; omega)), HB1, HO2⟩)
          | skip
        all_goals (simp [intOf]; omega)
      · obtain rfl : k = m := by omega
        have HE := Lib.hid (show deepX (n + 1) x = (x.kids.take k).foldl (fun m y => max m (deepX n y)) 0 + 1 from by rw [← HM.out, fold_all]; rfl)
        have hb := deepX_take n x k
        have hs2 := cap9_le hn
        generalize hq : ((x.kids.take k).foldl (fun m y => max m (deepX n y)) 0) = q at *
        clear hq
        have hqb : 0 ≤ q ∧ q ≤ 150094635296999121 := by omega
        clear hb hs2
        go_wp2
        go_ret
        exact ⟨ret_int HE.out.symm, HB.out⟩

set_option maxHeartbeats 1600000 in
theorem size_any : ∀ (n : Nat) (hn : n ≤ 18) (x : Ex) (ko : Option Addr) (kc : Nat) (w : World), grt n x = false → HasK w n ko x.kids →
    Calls Try.prog 14 #[exv x ko kc] w fun e w' => e = .returned (.int .i64 (sizeX n x)) ∧ Below w.heap.size w w'
  | 0, _, x, _, _, _, h, _ => by cases h
  | n + 1, hn, x, ko, kc, w, hf, hK => by
    have IH := Lib.hid (fun (y : Ex) (ao : Option Addr) (c : Nat) (W : World) => size_any n (by omega) y ao c W)
    have HK := Lib.hid hK
    have HF := Lib.hid hf
    have hl := (grt_len hf).1
    obtain ⟨m, hm⟩ : ∃ m, x.kids.length = m := ⟨_, rfl⟩
    have HM := Lib.hid hm
    have HB0 := Lib.hid (show Below w.heap.size w (w.alloc (.cells #[.int .i64 x.op, .string x.text, .int .u64 x.s0, .int .u64 x.s1, .int .u64 x.s2, .int .u64 x.s3, .slice ko m kc] 27)) from (Below.refl _ _).alloc (Nat.le_refl _) _)
    have HO := Lib.hid (Own.fresh w 27 [.int .i64 x.op, .string x.text, .int .u64 x.s0, .int .u64 x.s1, .int .u64 x.s2, .int .u64 x.s3, .slice ko m kc])
    unfold exv
    rw [hm] at hl ⊢
    clear hm hK hf
    go_enter Try.func14, Try.ntmps14
    go_wp2_with fail
    go_loopw [3, 9] (fun b3 b9 wr => ∃ k : Nat, b9 = .int .i64 (k : Int) ∧ (k : Int) ≤ m ∧ b3 = .int .i64 ((x.kids.take k).foldl (fun m y => m + sizeX n y) 1) ∧ Hid (Below w.heap.size w wr))
      (fun _ b9 _ => m - (intOf b9).toNat)
    case atStart => exact ⟨0, rfl, by omega, rfl, HB0⟩
    case round =>
      obtain ⟨k, rfl, hk2, rfl, HB⟩ := hrel
      clear HB0 HO
      by_cases h2 : (k : Int) < m
      · obtain ⟨y, hy⟩ : ∃ y, x.kids[k]? = some y := ⟨_, List.getElem?_eq_getElem (by have := HM.out; omega)⟩
        obtain ⟨g, off, kk, kd, rfl, hg, c0, c1, c2, c3, c4, c5, c6, hr⟩ := HK.out k y hy
        have HR := Lib.hid hr
        have HFY := Lib.hid (grt_kid HF.out hy)
        have HT := Lib.hid (show (x.kids.take (k + 1)).foldl (fun m y => m + sizeX n y) 1 = (x.kids.take k).foldl (fun m y => m + sizeX n y) 1 + sizeX n y from fold_snoc (fun m y => m + sizeX n y) 1 x.kids hy)
        have hb := Lib.hid (sizeX_take HF.out k)
        have hs := hb.out
        have hs2 := cap9_le hn
        have hs3 := sizeX_bd n y HFY.out
        have hs4 := cap9_le (n := n) (by omega)
        have HB9 := Lib.hid (And.intro hs (And.intro hs2 (And.intro hs3 hs4)))
        clear hr hy hs hs3 hb hs2 hs4
        generalize hq : ((x.kids.take k).foldl (fun m y => m + sizeX n y) 1) = q at *
        have HQ := Lib.hid hq
        clear hq
        have e0 := keepc c0 HB.out
        have e1 := keepc c1 HB.out
        have e2 := keepc c2 HB.out
        have e3 := keepc c3 HB.out
        have e4 := keepc c4 HB.out
        have e5 := keepc c5 HB.out
        have e6 := keepc c6 HB.out
        have hgr : g < wr.heap.size := Nat.lt_of_lt_of_le hg HB.out.size
        clear c0 c1 c2 c3 c4 c5 c6 hg
        obtain ⟨z, hz⟩ : ∃ z, sizeX n y = z := ⟨_, rfl⟩
        have HZ := Lib.hid hz
        have hbnd := HB9.out
        rw [hz] at hbnd
        rw [hz] at HT
        clear hz HB9
        go_wp2_with fail
        refine (IH.out y kk kd _ HFY.out (HasK.below (HB.out.alloc HB.out.size _) HR.out)).mono ?_
        rintro e w1 ⟨rfl, hb1⟩
        rw [HZ.out]
        have HB1 := Lib.hid (keepb (HB.out.alloc HB.out.size _) hb1)
        clear hb1 e0 e1 e2 e3 e4 e5 e6
        obtain ⟨hq0, hq1, hz0, hz1⟩ : 0 ≤ q ∧ q ≤ 150094635296999121 ∧ 0 ≤ z ∧ z ≤ 150094635296999121 := by omega
        clear hbnd
        have HT2 := Lib.hid (HT.out)
        clear HT
        go_wp2
        all_goals go_roundw
        all_goals first
          | (case rel => exact ⟨k + 1, by go_num, by omega, by rw [HT2.out] <;> (first | rfl | (congr 1; omega)), HB1⟩)
          | skip
        all_goals (simp [intOf]; omega)
      · obtain rfl : k = m := by omega
        have HE := Lib.hid (show sizeX (n + 1) x = (x.kids.take k).foldl (fun m y => m + sizeX n y) 1 from by rw [← HM.out, fold_all]; rfl)
        have hb := sizeX_take HF.out k
        have hs2 := cap9_le hn
        generalize hq : ((x.kids.take k).foldl (fun m y => m + sizeX n y) 1) = q at *
        clear hq
        have hqb : 0 ≤ q ∧ q ≤ 150094635296999121 := by omega
        clear hb hs2
        go_wp2
        go_ret
        exact ⟨ret_int HE.out.symm, HB.out⟩

set_option maxHeartbeats 1600000 in
theorem rsize_any : ∀ (n : Nat) (hn : n ≤ 18) (x : Ex) (ko : Option Addr) (kc : Nat) (w : World), grt n x = false → HasK w n ko x.kids →
    Calls Try.prog 15 #[exv x ko kc] w fun e w' => e = .returned (.int .i64 (sizeX n x)) ∧ Below w.heap.size w w'
  | 0, _, x, _, _, _, h, _ => by cases h
  | n + 1, hn, x, ko, kc, w, hf, hK => by
    have IH := Lib.hid (fun (y : Ex) (ao : Option Addr) (c : Nat) (W : World) => rsize_any n (by omega) y ao c W)
    have HK := Lib.hid hK
    have HF := Lib.hid hf
    have hl := (grt_len hf).1
    obtain ⟨m, hm⟩ : ∃ m, x.kids.length = m := ⟨_, rfl⟩
    have HM := Lib.hid hm
    have HB0 := Lib.hid (show Below w.heap.size w (w.alloc (.cells #[.int .i64 x.op, .string x.text, .int .u64 x.s0, .int .u64 x.s1, .int .u64 x.s2, .int .u64 x.s3, .slice ko m kc] 27)) from (Below.refl _ _).alloc (Nat.le_refl _) _)
    have HO := Lib.hid (Own.fresh w 27 [.int .i64 x.op, .string x.text, .int .u64 x.s0, .int .u64 x.s1, .int .u64 x.s2, .int .u64 x.s3, .slice ko m kc])
    unfold exv
    rw [hm] at hl ⊢
    clear hm hK hf
    go_enter Try.func15, Try.ntmps15
    go_wp2_with fail
    go_loopw [3, 4] (fun b3 b9 wr => ∃ k : Nat, b9 = .int .i64 (k : Int) ∧ (k : Int) ≤ m ∧ b3 = .int .i64 ((x.kids.take k).foldl (fun m y => m + sizeX n y) 1) ∧ Hid (Below w.heap.size w wr) ∧ Hid (Own wr w.heap.size 27 [.int .i64 x.op, .string x.text, .int .u64 x.s0, .int .u64 x.s1, .int .u64 x.s2, .int .u64 x.s3, .slice ko m kc]))
      (fun _ b9 _ => m - (intOf b9).toNat)
    case atStart => exact ⟨0, rfl, by omega, rfl, HB0, HO⟩
    case round =>
      obtain ⟨k, rfl, hk2, rfl, HB, HO1⟩ := hrel
      clear HB0 HO
      have o6 := HO1.out.cell 6
      simp only [List.getElem?_cons_succ, List.getElem?_cons_zero] at o6
      by_cases h2 : (k : Int) < m
      · obtain ⟨y, hy⟩ : ∃ y, x.kids[k]? = some y := ⟨_, List.getElem?_eq_getElem (by have := HM.out; omega)⟩
        obtain ⟨g, off, kk, kd, rfl, hg, c0, c1, c2, c3, c4, c5, c6, hr⟩ := HK.out k y hy
        have HR := Lib.hid hr
        have HFY := Lib.hid (grt_kid HF.out hy)
        have HT := Lib.hid (show (x.kids.take (k + 1)).foldl (fun m y => m + sizeX n y) 1 = (x.kids.take k).foldl (fun m y => m + sizeX n y) 1 + sizeX n y from fold_snoc (fun m y => m + sizeX n y) 1 x.kids hy)
        have hb := Lib.hid (sizeX_take HF.out k)
        have hs := hb.out
        have hs2 := cap9_le hn
        have hs3 := sizeX_bd n y HFY.out
        have hs4 := cap9_le (n := n) (by omega)
        have HB9 := Lib.hid (And.intro hs (And.intro hs2 (And.intro hs3 hs4)))
        clear hr hy hs hs3 hb hs2 hs4
        generalize hq : ((x.kids.take k).foldl (fun m y => m + sizeX n y) 1) = q at *
        have HQ := Lib.hid hq
        clear hq
        have e0 := keepc c0 HB.out
        have e1 := keepc c1 HB.out
        have e2 := keepc c2 HB.out
        have e3 := keepc c3 HB.out
        have e4 := keepc c4 HB.out
        have e5 := keepc c5 HB.out
        have e6 := keepc c6 HB.out
        have hgr : g < wr.heap.size := Nat.lt_of_lt_of_le hg HB.out.size
        clear c0 c1 c2 c3 c4 c5 c6 hg
        obtain ⟨z, hz⟩ : ∃ z, sizeX n y = z := ⟨_, rfl⟩
        have HZ := Lib.hid hz
        have hbnd := HB9.out
        rw [hz] at hbnd
        rw [hz] at HT
        clear hz HB9
        go_wp2_with fail
        refine (IH.out y kk kd _ HFY.out (HasK.below (HB.out) HR.out)).mono ?_
        rintro e w1 ⟨rfl, hb1⟩
        rw [HZ.out]
        have HB1 := Lib.hid (keepb (HB.out) hb1)
        have HO2 := Lib.hid (HO1.out.under hb1 HO1.out.lt)
        clear o6
        clear hb1 e0 e1 e2 e3 e4 e5 e6
        obtain ⟨hq0, hq1, hz0, hz1⟩ : 0 ≤ q ∧ q ≤ 150094635296999121 ∧ 0 ≤ z ∧ z ≤ 150094635296999121 := by omega
        clear hbnd
        have HT2 := Lib.hid (HT.out)
        clear HT
        go_wp2
        all_goals go_roundw
        all_goals first
          | (case rel => exact ⟨k + 1, by go_num, by omega, by rw [HT2.out] <;> (first | rfl | (congr 1; omega)), HB1, HO2⟩)
          | skip
        all_goals (simp [intOf]; omega)
      · obtain rfl : k = m := by omega
        have HE := Lib.hid (show sizeX (n + 1) x = (x.kids.take k).foldl (fun m y => m + sizeX n y) 1 from by rw [← HM.out, fold_all]; rfl)
        have hb := sizeX_take HF.out k
        have hs2 := cap9_le hn
        generalize hq : ((x.kids.take k).foldl (fun m y => m + sizeX n y) 1) = q at *
        clear hq
        have hqb : 0 ≤ q ∧ q ≤ 150094635296999121 := by omega
        clear hb hs2
        go_wp2
        go_ret
        exact ⟨ret_int HE.out.symm, HB.out⟩

end Go.Proofs.Ytinkgidncdjapac
