/- The law WriterReads, walked. -/
import Derived.Test.YtonknapfndaalaaBack8
import Derived.Test.YtonknapfndaalaaKrf
import Derived.Test.YtonknapfndaalaaWj
namespace Go.Proofs.Ytonknapfndaalaa
set_option linter.unusedVariables false
set_option maxRecDepth 1000000
open Go.RowKit Go.Sort
theorem par_cat (l : List UInt8) : ofL (parW l) = (⟨#[32, 40, 32]⟩ ++ ofL l ++ ⟨#[32, 41, 32, 35, 32]⟩ ++ ofL l : ByteArray) := by
 apply ByteArray.ext
 apply Array.ext'
 rw [ofL_list]
 simp only [ByteArray.data_append, Array.toList_append, ofL_list]
 unfold parW
 simp
theorem read_to (HW : WordOk) (HALL : AllOk) {v : ByteArray} {x : Ex} (hs : v.size ≤ 4000) (h : psO v = .ok x) (W : World) :
  Calls Try.prog 9 #[.string v] W fun e w' => (∃ ko kc n, e = .returned (.tuple #[exv x ko kc, .agg #[.int .i64 0, .int .i64 0, .int .i64 0, .int .i64 0]]) ∧ HasE w' W.heap.size n ko x.kids) ∧ Below W.heap.size W w' := by
 have := rq_parse HW HALL v hs W
 rw [h] at this
 exact this
theorem right_par (HB : BytB) {n : Nat} {x : Ex} (h : grt n x = false) (hS : SetsOk n x) (hr : rightX n x = true) (hn : n ≤ 60 := by decide) : psO (⟨#[32, 40, 32]⟩ ++ ofL (prX n x) ++ ⟨#[32, 41, 32, 35, 32]⟩ ++ ofL (prX n x) : ByteArray) = .ok x := by
 unfold rightX at hr
 rw [Bool.and_eq_true, decide_eq_true_eq] at hr
 rw [← par_cat]
 exact psO_par HB hr.2 hS hr.1 (grt_fit h) hn
set_option maxRecDepth 1000000 in
set_option maxHeartbeats 12800000 in
theorem reads8_walk (HW : WordOk) (HALL : AllOk) (HBY : BytB) (A : Ex) (ko : Option Addr) (kc n1 : Nat) (w : World) (hA : HasK w n1 ko A.kids) (sA : ∀ n, SetsOk n A) :
  Calls Try.prog 7 #[exv A ko kc] w fun e w' => e = .returned (.bool true) ∧ Below w.heap.size w w' := by
 have HKA := Lib.hid hA
 have SA := Lib.hid (sA 17)
 clear hA sA
 have HB1 := Lib.hid (below_box w (.cells #[.int .i64 A.op, .string A.text, .int .u64 A.s0, .int .u64 A.s1, .int .u64 A.s2, .int .u64 A.s3, .slice ko A.kids.length kc] 28))
 have H31 := Lib.hid (Own.fresh w 28 [.int .i64 A.op, .string A.text, .int .u64 A.s0, .int .u64 A.s1, .int .u64 A.s2, .int .u64 A.s3, .slice ko A.kids.length kc])
 obtain ⟨ga, hga⟩ : ∃ ga, grt 17 A = ga := ⟨_, rfl⟩
 have HGA := Lib.hid hga
 clear hga
 obtain ⟨ra, hra⟩ : ∃ ra, rightX 17 A = ra := ⟨_, rfl⟩
 have HRA := Lib.hid hra
 clear hra
 have HWW := Lib.hid HW
 have HAA := Lib.hid HALL
 have HYY := Lib.hid HBY
 clear HW HALL HBY
 unfold exv
 go_enter Try.func7, Try.ntmps7
 go_wp2_with fail
 generalize World.alloc w _ = w1 at *
 refine (great_any 17 0 ⟨by omega, by omega⟩ n1 A ko kc _ (HasK.below HB1.out HKA.out)).mono ?_
 rintro e w2 ⟨rfl, hb2⟩
 rw [HGA.out]
 have HB2 := Lib.hid (keepb HB1.out hb2)
 have H32 := Lib.hid (own_move H31.out hb2)
 clear hb2 HB1 H31
 cases ga
 ·
  have KA := Lib.hid (fun (W : World) (hW : Below w.heap.size w W) => HasK.cut HGA.out (HasK.below hW HKA.out))
  have FA := Lib.hid (grt_fw HGA.out SA.out)
  obtain ⟨a0, a1, a2, a3, a4, a5, a6⟩ := H32.out.seven
  have al := H32.out.lt
  go_wp2_with fail
  refine (rrightw_any 17 (by decide) A ko kc _ FA.out (KA.out _ HB2.out)).mono ?_
  rintro e wr ⟨rfl, hbr⟩
  rw [HRA.out]
  have HB3 := Lib.hid (keepb HB2.out hbr)
  have H33 := Lib.hid (own_move H32.out hbr)
  clear HB2 H32 hbr
  clear a0 a1 a2 a3 a4 a5 a6 al
  cases ra
  ·
   skip
   go_wp2_with fail
   refine (awake_any _).mono ?_
   rintro e w9 ⟨rfl, hb9⟩
   go_wp2
   go_ret
   exact ⟨rfl, keepb HB3.out hb9⟩
  ·
   have PA := Lib.hid (right_pr HGA.out SA.out HRA.out)
   obtain ⟨va, hva⟩ : ∃ v, ofL (prX 17 A) = v := ⟨_, rfl⟩
   have HPA := Lib.hid (fun (W : World) (h : HasK W 17 ko A.kids) => show Calls Try.prog 16 #[.agg #[.int .i64 A.op, .string A.text, .int .u64 A.s0, .int .u64 A.s1, .int .u64 A.s2, .int .u64 A.s3, .slice ko A.kids.length kc]] W fun e w' => e = .returned (.string va) ∧ Below W.heap.size W w' from print_to (ko := ko) (kc := kc) hva PA.out W h)
   have HVA := Lib.hid (show psO va = .ok A from by rw [← hva]; exact right_back HGA.out SA.out HRA.out)
   have HVB := Lib.hid (show psO (⟨#[32, 40, 32]⟩ ++ va ++ ⟨#[32, 41, 32, 35, 32]⟩ ++ va : ByteArray) = .ok A from by rw [← hva]; exact right_par HYY.out HGA.out SA.out HRA.out)
   clear hva HYY
   obtain ⟨a0, a1, a2, a3, a4, a5, a6⟩ := H33.out.seven
   have al := H33.out.lt
   go_wp2_with fail
   refine (HPA.out _ (KA.out _ HB3.out)).mono ?_
   rintro e wp ⟨rfl, hbp⟩
   have HB4 := Lib.hid (keepb HB3.out hbp)
   have H34 := Lib.hid (own_move H33.out hbp)
   clear HB3 H33 hbp
   clear a0 a1 a2 a3 a4 a5 a6 al
   by_cases h1000 : (va.size : Int) ≤ 1000
   ·
    have HPB := Lib.hid (read_to HWW.out HAA.out (by omega) HVA.out wp)
    have HPC := Lib.hid (fun W => read_to HWW.out HAA.out (by simp only [ByteArray.size_append]; show 3 + va.size + 5 + va.size ≤ 4000; omega) HVB.out W)
    clear HWW HAA HVA HVB
    go_wp2_with fail
    refine HPB.out.mono ?_
    rintro e wt ⟨⟨ko4, kc4, n4, rfl, hE4⟩, hbt⟩
    unfold exv
    have HB5 := Lib.hid (keepb HB4.out hbt)
    have H35 := Lib.hid (own_move H34.out hbt)
    clear HB4 H34 hbt
    obtain ⟨wc, wd, hs1, hs2, hbd, ho1, ho2⟩ := put_two wt A.op A.text A.s0 A.s1 A.s2 A.s3 ko4 A.kids.length kc4 0 0
    have HB6 := Lib.hid (keepb HB5.out hbd)
    have H36 := Lib.hid (own_move H35.out hbd)
    clear HB5 H35
    have HK46 := Lib.hid (HasK.below hbd (HasK.cut HGA.out hE4.hask))
    have HO16 := Lib.hid ho1
    have HO26 := Lib.hid ho2
    clear hbd
    have HS1 := Lib.hid hs1
    have HS2 := Lib.hid hs2
    clear hs1 hs2 ho1 ho2 hE4 HPB
    go_wp2_with (first | (with_reducible refine wpList_store_lit (.pointer (some ⟨wt.heap.size, 0, none⟩)) (.agg #[.int .i64 A.op, .string A.text, .int .u64 A.s0, .int .u64 A.s1, .int .u64 A.s2, .int .u64 A.s3, .slice ko4 A.kids.length kc4]) HS1.out ?_ ?_ ?_) | (with_reducible refine wpList_store_lit (.pointer (some ⟨wt.heap.size + 1, 0, none⟩)) (.agg #[.int .i64 0, .int .i64 0, .int .i64 0, .int .i64 0]) HS2.out ?_ ?_ ?_))
    ·
     rfl
    ·
     rfl
    ·
     rfl
    ·
     rfl
    clear HS1 HS2
    go_wp2_with fail
    refine (HPC.out wd).mono ?_
    rintro e wu ⟨⟨ko5, kc5, n5, rfl, hE5⟩, hbt⟩
    unfold exv
    have HB7 := Lib.hid (keepb HB6.out hbt)
    have H37 := Lib.hid (own_move H36.out hbt)
    have HK47 := Lib.hid (HasK.below hbt HK46.out)
    have HO17 := Lib.hid (own_move HO16.out hbt)
    have HO27 := Lib.hid (own_move HO26.out hbt)
    clear HB6 H36 HK46 HO16 HO26 hbt
    obtain ⟨wx, wy, hs1, hs2, hbd, ho1, ho2⟩ := put_two wu A.op A.text A.s0 A.s1 A.s2 A.s3 ko5 A.kids.length kc5 0 0
    have HB8 := Lib.hid (keepb HB7.out hbd)
    have H38 := Lib.hid (own_move H37.out hbd)
    have HK48 := Lib.hid (HasK.below hbd HK47.out)
    have HO18 := Lib.hid (own_move HO17.out hbd)
    have HO28 := Lib.hid (own_move HO27.out hbd)
    clear HB7 H37 HK47 HO17 HO27
    have HK58 := Lib.hid (HasK.below hbd (HasK.cut HGA.out hE5.hask))
    have HO38 := Lib.hid ho1
    have HO48 := Lib.hid ho2
    clear hbd
    have HS1 := Lib.hid hs1
    have HS2 := Lib.hid hs2
    clear hs1 hs2 ho1 ho2 hE5 HPC
    go_wp2_with (first | (with_reducible refine wpList_store_lit (.pointer (some ⟨wu.heap.size, 0, none⟩)) (.agg #[.int .i64 A.op, .string A.text, .int .u64 A.s0, .int .u64 A.s1, .int .u64 A.s2, .int .u64 A.s3, .slice ko5 A.kids.length kc5]) HS1.out ?_ ?_ ?_) | (with_reducible refine wpList_store_lit (.pointer (some ⟨wu.heap.size + 1, 0, none⟩)) (.agg #[.int .i64 0, .int .i64 0, .int .i64 0, .int .i64 0]) HS2.out ?_ ?_ ?_))
    ·
     rfl
    ·
     rfl
    ·
     rfl
    ·
     rfl
    clear HS1 HS2
    go_wp2_with fail
    refine (awake_any _).mono ?_
    rintro e w5 ⟨rfl, hb5⟩
    have HB9 := Lib.hid (keepb HB8.out hb5)
    have H39 := Lib.hid (own_move H38.out hb5)
    have HK49 := Lib.hid (HasK.below hb5 HK48.out)
    have HO19 := Lib.hid (own_move HO18.out hb5)
    have HO29 := Lib.hid (own_move HO28.out hb5)
    have HK59 := Lib.hid (HasK.below hb5 HK58.out)
    have HO39 := Lib.hid (own_move HO38.out hb5)
    have HO49 := Lib.hid (own_move HO48.out hb5)
    clear HB8 H38 HK48 HO18 HO28 HK58 HO38 HO48 hb5
    have HSM := Lib.hid (show Calls Try.prog 10 #[.agg #[.int .i64 A.op, .string A.text, .int .u64 A.s0, .int .u64 A.s1, .int .u64 A.s2, .int .u64 A.s3, .slice ko4 A.kids.length kc4], .agg #[.int .i64 A.op, .string A.text, .int .u64 A.s0, .int .u64 A.s1, .int .u64 A.s2, .int .u64 A.s3, .slice ko A.kids.length kc]] w5 fun e w' => e = .returned (.bool true) ∧ Below w5.heap.size w5 w' from same_to (grt_fit HGA.out) w5 HK49.out (KA.out _ HB9.out))
    obtain ⟨a0, a1, a2, a3, a4, a5, a6⟩ := H39.out.seven
    have al := H39.out.lt
    obtain ⟨c0, c1, c2, c3, c4, c5, c6⟩ := HO19.out.seven
    have cl := HO19.out.lt
    obtain ⟨d0, d1, d2, d3, -⟩ := HO29.out.four
    have dl := HO29.out.lt
    obtain ⟨e0, e1, e2, e3, e4, e5, e6⟩ := HO39.out.seven
    have el := HO39.out.lt
    obtain ⟨f0, f1, f2, f3, -⟩ := HO49.out.four
    have fl := HO49.out.lt
    go_wp2_with fail
    refine HSM.out.mono ?_
    rintro e w6 ⟨rfl, hb6⟩
    clear a0 a1 a2 a3 a4 a5 a6 al c0 c1 c2 c3 c4 c5 c6 cl d0 d1 d2 d3 dl e0 e1 e2 e3 e4 e5 e6 el f0 f1 f2 f3 fl
    have HB10 := Lib.hid (keepb HB9.out hb6)
    have H310 := Lib.hid (own_move H39.out hb6)
    have HK410 := Lib.hid (HasK.below hb6 HK49.out)
    have HO110 := Lib.hid (own_move HO19.out hb6)
    have HO210 := Lib.hid (own_move HO29.out hb6)
    have HK510 := Lib.hid (HasK.below hb6 HK59.out)
    have HO310 := Lib.hid (own_move HO39.out hb6)
    have HO410 := Lib.hid (own_move HO49.out hb6)
    clear HB9 H39 HK49 HO19 HO29 HK59 HO39 HO49 hb6
    have HSN := Lib.hid (show Calls Try.prog 10 #[.agg #[.int .i64 A.op, .string A.text, .int .u64 A.s0, .int .u64 A.s1, .int .u64 A.s2, .int .u64 A.s3, .slice ko5 A.kids.length kc5], .agg #[.int .i64 A.op, .string A.text, .int .u64 A.s0, .int .u64 A.s1, .int .u64 A.s2, .int .u64 A.s3, .slice ko A.kids.length kc]] w6 fun e w' => e = .returned (.bool true) ∧ Below w6.heap.size w6 w' from same_to (grt_fit HGA.out) w6 HK510.out (KA.out _ HB10.out))
    obtain ⟨a0, a1, a2, a3, a4, a5, a6⟩ := H310.out.seven
    have al := H310.out.lt
    obtain ⟨c0, c1, c2, c3, c4, c5, c6⟩ := HO110.out.seven
    have cl := HO110.out.lt
    obtain ⟨d0, d1, d2, d3, -⟩ := HO210.out.four
    have dl := HO210.out.lt
    obtain ⟨e0, e1, e2, e3, e4, e5, e6⟩ := HO310.out.seven
    have el := HO310.out.lt
    obtain ⟨f0, f1, f2, f3, -⟩ := HO410.out.four
    have fl := HO410.out.lt
    go_wp2_with fail
    refine HSN.out.mono ?_
    rintro e w7 ⟨rfl, hb7⟩
    go_wp2
    go_ret
    exact ⟨rfl, keepb HB10.out hb7⟩
   ·
    skip
    go_wp2_with fail
    refine (awake_any _).mono ?_
    rintro e w9 ⟨rfl, hb9⟩
    go_wp2
    go_ret
    exact ⟨rfl, keepb HB4.out hb9⟩
 ·
  skip
  go_wp2_with fail
  refine (awake_any _).mono ?_
  rintro e w9 ⟨rfl, hb9⟩
  go_wp2
  go_ret
  exact ⟨rfl, keepb HB2.out hb9⟩
end Go.Proofs.Ytonknapfndaalaa
