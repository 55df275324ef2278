/- The law WriterBack, walked. -/
import Derived.Test.YtonknapfndaalaaBkA
namespace Go.Proofs.Ytonknapfndaalaa
set_option linter.unusedVariables false
set_option maxRecDepth 1000000
open Go.RowKit Go.Sort
theorem ex0_agg : exv ex0 none 0 = .agg #[.int .i64 0, .string ⟨#[]⟩, .int .u64 0, .int .u64 0, .int .u64 0, .int .u64 0, .slice none 0 0] := rfl
theorem print_to {n : Nat} {x : Ex} {ko : Option Addr} {kc : Nat} {v : ByteArray} (hv : ofL (prX n x) = v) (hx : PrOk n x) (W : World) (hK : HasK W n ko x.kids) :
  Calls Try.prog 16 #[exv x ko kc] W fun e w' => e = .returned (.string v) ∧ Below W.heap.size W w' := by subst hv; exact print_any n x ko kc W hx hK
theorem parse_to {v : ByteArray} {x : Ex} (hs : v.size ≤ 4000) (h : psO v = .ok x) (W : World) :
  Calls Try.prog 15 #[.string v] W fun e w' => (∃ ko kc n, e = .returned (.tuple #[exv x ko kc, .agg #[.int .i64 0, .int .i64 0, .int .i64 0, .int .i64 0]]) ∧ HasE w' W.heap.size n ko x.kids) ∧ Below W.heap.size W w' := by
 have := parse7_any v hs W
 rw [h] at this
 exact this
theorem same_to {n : Nat} {x : Ex} (hf : fit 90001 n x = true) {k1 k2 : Option Addr} {c1 c2 : Nat} (W : World) (h1 : HasK W n k1 x.kids) (h2 : HasK W n k2 x.kids) :
  Calls Try.prog 10 #[exv x k1 c1, exv x k2 c2] W fun e w' => e = .returned (.bool true) ∧ Below W.heap.size W w' := by
 have := rsame_any n x x k1 k2 c1 c2 W hf hf h1 h2
 rw [same_self n x hf] at this
 exact this
theorem right_back {n : Nat} {x : Ex} (h : grt n x = false) (hS : SetsOk n x) (hr : rightX n x = true) (hn : n ≤ 60 := by decide) : psO (ofL (prX n x)) = .ok x := by
 unfold rightX at hr
 rw [Bool.and_eq_true, decide_eq_true_eq] at hr
 exact psO_back hr.2 hS hr.1 (grt_fit h) hn
set_option maxRecDepth 1000000 in
set_option maxHeartbeats 12800000 in
theorem back8_walk (A : Ex) (ko : Option Addr) (kc n1 : Nat) (s : ByteArray) (w : World) (hA : HasK w n1 ko A.kids) (sA : ∀ n, SetsOk n A) :
  Calls Try.prog 5 #[exv A ko kc, .string s] w fun e w' => e = .returned (.bool true) ∧ Below w.heap.size w w' := by
 have HKA := Lib.hid hA
 have SA := Lib.hid (sA 17)
 clear hA sA
 have HB1 := Lib.hid (below_box w (.cells #[.int .i64 A.op, .string A.text, .int .u64 A.s0, .int .u64 A.s1, .int .u64 A.s2, .int .u64 A.s3, .slice ko A.kids.length kc] 28))
 have H31 := Lib.hid (Own.fresh w 28 [.int .i64 A.op, .string A.text, .int .u64 A.s0, .int .u64 A.s1, .int .u64 A.s2, .int .u64 A.s3, .slice ko A.kids.length kc])
 obtain ⟨ga, hga⟩ : ∃ ga, grt 17 A = ga := ⟨_, rfl⟩
 have HGA := Lib.hid hga
 clear hga
 obtain ⟨ra, hra⟩ : ∃ ra, rightX 17 A = ra := ⟨_, rfl⟩
 have HRA := Lib.hid hra
 clear hra
 unfold exv
 go_enter Try.func5, Try.ntmps5
 go_wp2_with fail
 generalize World.alloc w _ = w1 at *
 refine (great_any 17 0 ⟨by omega, by omega⟩ n1 A ko kc _ (HasK.below HB1.out HKA.out)).mono ?_
 rintro e w2 ⟨rfl, hb2⟩
 rw [HGA.out]
 have HB2 := Lib.hid (keepb HB1.out hb2)
 have H32 := Lib.hid (own_move H31.out hb2)
 clear hb2 HB1 H31
 cases ga
 ·
  by_cases hs : (s.size : Int) ≤ 300
  ·
   have KA := Lib.hid (fun (W : World) (hW : Below w.heap.size w W) => HasK.cut HGA.out (HasK.below hW HKA.out))
   have FA := Lib.hid (grt_fw HGA.out SA.out)
   have HSS := Lib.hid (show s.size ≤ 300 by omega)
   have HP0 := Lib.hid (parse7_any s (by omega) w2)
   obtain ⟨r, hr⟩ : ∃ r, psO s = r := ⟨_, rfl⟩
   have HR := Lib.hid hr
   rw [hr] at HP0
   clear hr
   go_wp2_with fail
   refine HP0.out.mono ?_
   rintro e w3 ⟨he, hb3⟩
   have HB3 := Lib.hid (keepb HB2.out hb3)
   have H33 := Lib.hid (own_move H32.out hb3)
   clear HB2 H32 hb3
   clear HP0
   cases r
   case error f =>
    obtain ⟨rfl, hf⟩ := he
    rw [ex0_agg]
    obtain ⟨wa, wb, hs1, hs2, hbw, ho1, ho2⟩ := put_two w3 0 ⟨#[]⟩ 0 0 0 0 none 0 0 f.1 f.2
    have HS1 := Lib.hid hs1
    have HS2 := Lib.hid hs2
    have HO2 := Lib.hid ho2
    have HB4 := Lib.hid (keepb HB3.out hbw)
    have H34 := Lib.hid (own_move H33.out hbw)
    clear HB3 H33 hbw
    clear hs1 hs2 ho1 ho2
    have ef : (f.1 == 0) = false := beq_eq_false_iff_ne.2 hf
    have ef1 : decide (f.1 = 0) = false := decide_eq_false hf
    obtain ⟨d0, d1, d2, d3, -⟩ := HO2.out.four
    have dl := HO2.out.lt
    obtain ⟨a0, a1, a2, a3, a4, a5, a6⟩ := H34.out.seven
    have al := H34.out.lt
    go_wp2_with (first | (with_reducible refine wpList_store_lit (.pointer (some ⟨w3.heap.size, 0, none⟩)) (.agg #[.int .i64 0, .string ⟨#[]⟩, .int .u64 0, .int .u64 0, .int .u64 0, .int .u64 0, .slice none 0 0]) HS1.out ?_ ?_ ?_) | (with_reducible refine wpList_store_lit (.pointer (some ⟨w3.heap.size + 1, 0, none⟩)) (.agg #[.int .i64 f.1, .int .i64 f.2, .int .i64 0, .int .i64 0]) HS2.out ?_ ?_ ?_))
    ·
     rfl
    ·
     rfl
    ·
     rfl
    ·
     rfl
    clear a0 a1 a2 a3 a4 a5 a6 al
    try clear HS1 HS2
    obtain ⟨a0, a1, a2, a3, a4, a5, a6⟩ := H34.out.seven
    have al := H34.out.lt
    go_wp2_with fail
    refine (rrightw_any 17 (by decide) A ko kc _ FA.out (KA.out _ HB4.out)).mono ?_
    rintro e wr ⟨rfl, hbr⟩
    rw [HRA.out]
    have HB5 := Lib.hid (keepb HB4.out hbr)
    have H35 := Lib.hid (own_move H34.out hbr)
    clear HB4 H34 hbr
    clear a0 a1 a2 a3 a4 a5 a6 al
    cases ra
    ·
     skip
     go_wp2_with fail
     refine (awake_any _).mono ?_
     rintro e w9 ⟨rfl, hb9⟩
     go_wp2
     go_ret
     exact ⟨rfl, keepb HB5.out hb9⟩
    ·
     have PA := Lib.hid (right_pr HGA.out SA.out HRA.out)
     obtain ⟨va, hva⟩ : ∃ v, ofL (prX 17 A) = v := ⟨_, rfl⟩
     have HPA := Lib.hid (fun (W : World) (h : HasK W 17 ko A.kids) => show Calls Try.prog 16 #[.agg #[.int .i64 A.op, .string A.text, .int .u64 A.s0, .int .u64 A.s1, .int .u64 A.s2, .int .u64 A.s3, .slice ko A.kids.length kc]] W fun e w' => e = .returned (.string va) ∧ Below W.heap.size W w' from print_to (ko := ko) (kc := kc) hva PA.out W h)
     have HVA := Lib.hid (show psO va = .ok A from by rw [← hva]; exact right_back HGA.out SA.out HRA.out)
     clear hva
     obtain ⟨a0, a1, a2, a3, a4, a5, a6⟩ := H35.out.seven
     have al := H35.out.lt
     go_wp2_with fail
     refine (HPA.out _ (KA.out _ HB5.out)).mono ?_
     rintro e wp ⟨rfl, hbp⟩
     have HB6 := Lib.hid (keepb HB5.out hbp)
     have H36 := Lib.hid (own_move H35.out hbp)
     clear HB5 H35 hbp
     clear a0 a1 a2 a3 a4 a5 a6 al
     by_cases h1000 : (va.size : Int) ≤ 1000
     ·
      have HPB := Lib.hid (parse_to (by omega) HVA.out wp)
      go_wp2_with fail
      refine HPB.out.mono ?_
      rintro e wt ⟨⟨ko4, kc4, n4, rfl, hE4⟩, hbt⟩
      unfold exv
      have HB7 := Lib.hid (keepb HB6.out hbt)
      have H37 := Lib.hid (own_move H36.out hbt)
      clear HB6 H36 hbt
      obtain ⟨wc, wd, hs1, hs2, hbd, ho1, ho2⟩ := put_two wt A.op A.text A.s0 A.s1 A.s2 A.s3 ko4 A.kids.length kc4 0 0
      have HK4 := Lib.hid (HasK.below hbd (HasK.cut HGA.out hE4.hask))
      have HO1 := Lib.hid ho1
      have HO2 := Lib.hid ho2
      have HB8 := Lib.hid (keepb HB7.out hbd)
      have H38 := Lib.hid (own_move H37.out hbd)
      clear HB7 H37 hbd
      have HS1 := Lib.hid hs1
      have HS2 := Lib.hid hs2
      clear hs1 hs2 ho1 ho2 hE4 HPB
      go_wp2_with (first | (with_reducible refine wpList_store_lit (.pointer (some ⟨wt.heap.size, 0, none⟩)) (.agg #[.int .i64 A.op, .string A.text, .int .u64 A.s0, .int .u64 A.s1, .int .u64 A.s2, .int .u64 A.s3, .slice ko4 A.kids.length kc4]) HS1.out ?_ ?_ ?_) | (with_reducible refine wpList_store_lit (.pointer (some ⟨wt.heap.size + 1, 0, none⟩)) (.agg #[.int .i64 0, .int .i64 0, .int .i64 0, .int .i64 0]) HS2.out ?_ ?_ ?_))
      ·
       rfl
      ·
       rfl
      ·
       rfl
      ·
       rfl
      clear HS1 HS2
      go_wp2_with fail
      refine (awake_any _).mono ?_
      rintro e wu ⟨rfl, hbu⟩
      have HO1u := Lib.hid (own_move HO1.out hbu)
      have HO2u := Lib.hid (own_move HO2.out hbu)
      have HK4u := Lib.hid (HasK.below hbu HK4.out)
      have HB9 := Lib.hid (keepb HB8.out hbu)
      have H39 := Lib.hid (own_move H38.out hbu)
      clear HB8 H38 hbu
      clear HO1 HO2 HK4
      have HSM := Lib.hid (show Calls Try.prog 10 #[.agg #[.int .i64 A.op, .string A.text, .int .u64 A.s0, .int .u64 A.s1, .int .u64 A.s2, .int .u64 A.s3, .slice ko4 A.kids.length kc4], .agg #[.int .i64 A.op, .string A.text, .int .u64 A.s0, .int .u64 A.s1, .int .u64 A.s2, .int .u64 A.s3, .slice ko A.kids.length kc]] wu fun e w' => e = .returned (.bool true) ∧ Below wu.heap.size wu w' from same_to (grt_fit HGA.out) wu HK4u.out (KA.out _ HB9.out))
      obtain ⟨a0, a1, a2, a3, a4, a5, a6⟩ := H39.out.seven
      have al := H39.out.lt
      obtain ⟨c0, c1, c2, c3, c4, c5, c6⟩ := HO1u.out.seven
      have cl := HO1u.out.lt
      obtain ⟨d0, d1, d2, d3, -⟩ := HO2u.out.four
      have dl := HO2u.out.lt
      go_wp2_with fail
      refine HSM.out.mono ?_
      rintro e wv ⟨rfl, hbv⟩
      go_wp2
      go_ret
      exact ⟨rfl, keepb HB9.out hbv⟩
     ·
      skip
      go_wp2_with fail
      refine (awake_any _).mono ?_
      rintro e w9 ⟨rfl, hb9⟩
      go_wp2
      go_ret
      exact ⟨rfl, keepb HB6.out hb9⟩
   case ok x =>
    obtain ⟨ko2, kc2, n2, rfl, hE⟩ := he
    have HRK := Lib.hid (psO_ok HSS.out HR.out)
    have HK2 := Lib.hid (HasK.fit HRK.out.fitw hE.hask)
    obtain ⟨v, hv⟩ : ∃ v, ofL (prX 53 x) = v := ⟨_, rfl⟩
    have HVX := Lib.hid (show psO v = .ok x from by rw [← hv]; exact HRK.out.back)
    have hvz : v.size ≤ 2701 := by rw [← hv, ← size_list, ofL_list]; exact HRK.out.len 53
    have HP1 := Lib.hid (fun W h => print_to (ko := ko2) (kc := kc2) hv HRK.out.pr W h)
    have HP2 := Lib.hid (fun W => parse_to (by omega) HVX.out W)
    have HSM := Lib.hid (fun W k1 k2 c1 c2 h1 h2 => same_to (k1 := k1) (k2 := k2) (c1 := c1) (c2 := c2) HRK.out.wide W h1 h2)
    have HFT := Lib.hid HRK.out.fitw
    obtain ⟨o, ho⟩ : ∃ o, x.op = o := ⟨_, rfl⟩
    obtain ⟨tx, htx⟩ : ∃ o, x.text = o := ⟨_, rfl⟩
    obtain ⟨q0, hq0⟩ : ∃ o, x.s0 = o := ⟨_, rfl⟩
    obtain ⟨q1, hq1⟩ : ∃ o, x.s1 = o := ⟨_, rfl⟩
    obtain ⟨q2, hq2⟩ : ∃ o, x.s2 = o := ⟨_, rfl⟩
    obtain ⟨q3, hq3⟩ : ∃ o, x.s3 = o := ⟨_, rfl⟩
    obtain ⟨nk, hnk⟩ : ∃ o, x.kids.length = o := ⟨_, rfl⟩
    unfold exv at HP1 HP2 HSM ⊢
    simp only [ho, htx, hq0, hq1, hq2, hq3, hnk] at HP1 HP2 HSM ⊢
    clear hv ho htx hq0 hq1 hq2 hq3 hnk hE hvz HRK HR HVX
    obtain ⟨wa, wb, hs1, hs2, hbw, ho1, ho2⟩ := put_two w3 o tx q0 q1 q2 q3 ko2 nk kc2 0 0
    have HS1 := Lib.hid hs1
    have HS2 := Lib.hid hs2
    have HO1 := Lib.hid ho1
    have HO2 := Lib.hid ho2
    have HK3 := Lib.hid (HasK.below hbw HK2.out)
    have HB4 := Lib.hid (keepb HB3.out hbw)
    have H34 := Lib.hid (own_move H33.out hbw)
    clear HB3 H33 hbw
    clear hs1 hs2 ho1 ho2 HK2
    obtain ⟨c0, c1, c2, c3, c4, c5, c6⟩ := HO1.out.seven
    have cl := HO1.out.lt
    obtain ⟨d0, d1, d2, d3, -⟩ := HO2.out.four
    have dl := HO2.out.lt
    go_wp2_with (first | (with_reducible refine wpList_store_lit (.pointer (some ⟨w3.heap.size, 0, none⟩)) (.agg #[.int .i64 o, .string tx, .int .u64 q0, .int .u64 q1, .int .u64 q2, .int .u64 q3, .slice ko2 nk kc2]) HS1.out ?_ ?_ ?_) | (with_reducible refine wpList_store_lit (.pointer (some ⟨w3.heap.size + 1, 0, none⟩)) (.agg #[.int .i64 0, .int .i64 0, .int .i64 0, .int .i64 0]) HS2.out ?_ ?_ ?_))
    ·
     rfl
    ·
     rfl
    ·
     rfl
    ·
     rfl
    clear HS1 HS2
    go_wp2_with fail
    refine (HP1.out wb HK3.out).mono ?_
    rintro e w5 ⟨rfl, hb5⟩
    clear c0 c1 c2 c3 c4 c5 c6 cl d0 d1 d2 d3 dl
    have HO5 := Lib.hid (own_move HO1.out hb5)
    have HK5 := Lib.hid (HasK.below hb5 HK3.out)
    have HB5 := Lib.hid (keepb HB4.out hb5)
    have H35 := Lib.hid (own_move H34.out hb5)
    clear HB4 H34 hb5
    clear HO1 HO2 HK3 HP1
    go_wp2_with fail
    refine (HP2.out w5).mono ?_
    rintro e w6 ⟨⟨ko3, kc3, n3, rfl, hE3⟩, hb6⟩
    have HO6 := Lib.hid (own_move HO5.out hb6)
    have HK6 := Lib.hid (HasK.below hb6 HK5.out)
    have HK7 := Lib.hid (HasK.fit HFT.out hE3.hask)
    have HB6 := Lib.hid (keepb HB5.out hb6)
    have H36 := Lib.hid (own_move H35.out hb6)
    clear HB5 H35 hb6
    clear HO5 HK5 HP2 hE3 HFT
    obtain ⟨wc, wd, hs1, hs2, hbd, ho1, ho2⟩ := put_two w6 o tx q0 q1 q2 q3 ko3 nk kc3 0 0
    have HS1 := Lib.hid hs1
    have HS2 := Lib.hid hs2
    have HQ1 := Lib.hid ho1
    have HQ2 := Lib.hid ho2
    have HO8 := Lib.hid (own_move HO6.out hbd)
    have HK8 := Lib.hid (HasK.below hbd HK6.out)
    have HK9 := Lib.hid (HasK.below hbd HK7.out)
    have HB7 := Lib.hid (keepb HB6.out hbd)
    have H37 := Lib.hid (own_move H36.out hbd)
    clear HB6 H36 hbd
    clear hs1 hs2 ho1 ho2 HO6 HK6 HK7
    have HSN := Lib.hid (HSM.out wd ko2 ko3 kc2 kc3 HK8.out HK9.out)
    obtain ⟨b0, b1, b2, b3, b4, b5, b6⟩ := HO8.out.seven
    have bl := HO8.out.lt
    obtain ⟨c0, c1, c2, c3, c4, c5, c6⟩ := HQ1.out.seven
    have cl := HQ1.out.lt
    obtain ⟨d0, d1, d2, d3, -⟩ := HQ2.out.four
    have dl := HQ2.out.lt
    go_wp2_with (first | (with_reducible refine wpList_store_lit (.pointer (some ⟨w6.heap.size, 0, none⟩)) (.agg #[.int .i64 o, .string tx, .int .u64 q0, .int .u64 q1, .int .u64 q2, .int .u64 q3, .slice ko3 nk kc3]) HS1.out ?_ ?_ ?_) | (with_reducible refine wpList_store_lit (.pointer (some ⟨w6.heap.size + 1, 0, none⟩)) (.agg #[.int .i64 0, .int .i64 0, .int .i64 0, .int .i64 0]) HS2.out ?_ ?_ ?_))
    ·
     rfl
    ·
     rfl
    ·
     rfl
    ·
     rfl
    clear HS1 HS2
    go_wp2_with fail
    refine HSN.out.mono ?_
    rintro e w8 ⟨rfl, hb8⟩
    clear b0 b1 b2 b3 b4 b5 b6 bl c0 c1 c2 c3 c4 c5 c6 cl d0 d1 d2 d3 dl
    have HB8 := Lib.hid (keepb HB7.out hb8)
    have H38 := Lib.hid (own_move H37.out hb8)
    clear HB7 H37 hb8
    clear HO8 HK8 HK9 HSN HSM HQ1 HQ2
    obtain ⟨a0, a1, a2, a3, a4, a5, a6⟩ := H38.out.seven
    have al := H38.out.lt
    go_wp2_with fail
    refine (rrightw_any 17 (by decide) A ko kc _ FA.out (KA.out _ HB8.out)).mono ?_
    rintro e wr ⟨rfl, hbr⟩
    rw [HRA.out]
    have HB9 := Lib.hid (keepb HB8.out hbr)
    have H39 := Lib.hid (own_move H38.out hbr)
    clear HB8 H38 hbr
    clear a0 a1 a2 a3 a4 a5 a6 al
    cases ra
    ·
     skip
     go_wp2_with fail
     refine (awake_any _).mono ?_
     rintro e w9 ⟨rfl, hb9⟩
     go_wp2
     go_ret
     exact ⟨rfl, keepb HB9.out hb9⟩
    ·
     have PA := Lib.hid (right_pr HGA.out SA.out HRA.out)
     obtain ⟨va, hva⟩ : ∃ v, ofL (prX 17 A) = v := ⟨_, rfl⟩
     have HPA := Lib.hid (fun (W : World) (h : HasK W 17 ko A.kids) => show Calls Try.prog 16 #[.agg #[.int .i64 A.op, .string A.text, .int .u64 A.s0, .int .u64 A.s1, .int .u64 A.s2, .int .u64 A.s3, .slice ko A.kids.length kc]] W fun e w' => e = .returned (.string va) ∧ Below W.heap.size W w' from print_to (ko := ko) (kc := kc) hva PA.out W h)
     have HVA := Lib.hid (show psO va = .ok A from by rw [← hva]; exact right_back HGA.out SA.out HRA.out)
     clear hva
     obtain ⟨a0, a1, a2, a3, a4, a5, a6⟩ := H39.out.seven
     have al := H39.out.lt
     go_wp2_with fail
     refine (HPA.out _ (KA.out _ HB9.out)).mono ?_
     rintro e wp ⟨rfl, hbp⟩
     have HB10 := Lib.hid (keepb HB9.out hbp)
     have H310 := Lib.hid (own_move H39.out hbp)
     clear HB9 H39 hbp
     clear a0 a1 a2 a3 a4 a5 a6 al
     by_cases h1000 : (va.size : Int) ≤ 1000
     ·
      have HPB := Lib.hid (parse_to (by omega) HVA.out wp)
      go_wp2_with fail
      refine HPB.out.mono ?_
      rintro e wt ⟨⟨ko4, kc4, n4, rfl, hE4⟩, hbt⟩
      unfold exv
      have HB11 := Lib.hid (keepb HB10.out hbt)
      have H311 := Lib.hid (own_move H310.out hbt)
      clear HB10 H310 hbt
      obtain ⟨wc, wd, hs1, hs2, hbd, ho1, ho2⟩ := put_two wt A.op A.text A.s0 A.s1 A.s2 A.s3 ko4 A.kids.length kc4 0 0
      have HK4 := Lib.hid (HasK.below hbd (HasK.cut HGA.out hE4.hask))
      have HO1 := Lib.hid ho1
      have HO2 := Lib.hid ho2
      have HB12 := Lib.hid (keepb HB11.out hbd)
      have H312 := Lib.hid (own_move H311.out hbd)
      clear HB11 H311 hbd
      have HS1 := Lib.hid hs1
      have HS2 := Lib.hid hs2
      clear hs1 hs2 ho1 ho2 hE4 HPB
      go_wp2_with (first | (with_reducible refine wpList_store_lit (.pointer (some ⟨wt.heap.size, 0, none⟩)) (.agg #[.int .i64 A.op, .string A.text, .int .u64 A.s0, .int .u64 A.s1, .int .u64 A.s2, .int .u64 A.s3, .slice ko4 A.kids.length kc4]) HS1.out ?_ ?_ ?_) | (with_reducible refine wpList_store_lit (.pointer (some ⟨wt.heap.size + 1, 0, none⟩)) (.agg #[.int .i64 0, .int .i64 0, .int .i64 0, .int .i64 0]) HS2.out ?_ ?_ ?_))
      ·
       rfl
      ·
       rfl
      ·
       rfl
      ·
       rfl
      clear HS1 HS2
      go_wp2_with fail
      refine (awake_any _).mono ?_
      rintro e wu ⟨rfl, hbu⟩
      have HO1u := Lib.hid (own_move HO1.out hbu)
      have HO2u := Lib.hid (own_move HO2.out hbu)
      have HK4u := Lib.hid (HasK.below hbu HK4.out)
      have HB13 := Lib.hid (keepb HB12.out hbu)
      have H313 := Lib.hid (own_move H312.out hbu)
      clear HB12 H312 hbu
      clear HO1 HO2 HK4
      have HSM := Lib.hid (show Calls Try.prog 10 #[.agg #[.int .i64 A.op, .string A.text, .int .u64 A.s0, .int .u64 A.s1, .int .u64 A.s2, .int .u64 A.s3, .slice ko4 A.kids.length kc4], .agg #[.int .i64 A.op, .string A.text, .int .u64 A.s0, .int .u64 A.s1, .int .u64 A.s2, .int .u64 A.s3, .slice ko A.kids.length kc]] wu fun e w' => e = .returned (.bool true) ∧ Below wu.heap.size wu w' from same_to (grt_fit HGA.out) wu HK4u.out (KA.out _ HB13.out))
      obtain ⟨a0, a1, a2, a3, a4, a5, a6⟩ := H313.out.seven
      have al := H313.out.lt
      obtain ⟨c0, c1, c2, c3, c4, c5, c6⟩ := HO1u.out.seven
      have cl := HO1u.out.lt
      obtain ⟨d0, d1, d2, d3, -⟩ := HO2u.out.four
      have dl := HO2u.out.lt
      go_wp2_with fail
      refine HSM.out.mono ?_
      rintro e wv ⟨rfl, hbv⟩
      go_wp2
      go_ret
      exact ⟨rfl, keepb HB13.out hbv⟩
     ·
      skip
      go_wp2_with fail
      refine (awake_any _).mono ?_
      rintro e w9 ⟨rfl, hb9⟩
      go_wp2
      go_ret
      exact ⟨rfl, keepb HB10.out hb9⟩
  ·
   skip
   go_wp2_with fail
   refine (awake_any _).mono ?_
   rintro e w9 ⟨rfl, hb9⟩
   go_wp2
   go_ret
   exact ⟨rfl, keepb HB2.out hb9⟩
 ·
  skip
  go_wp2_with fail
  refine (awake_any _).mono ?_
  rintro e w9 ⟨rfl, hb9⟩
  go_wp2
  go_ret
  exact ⟨rfl, keepb HB2.out hb9⟩
end Go.Proofs.Ytonknapfndaalaa
