/- The law ReaderWraps, walked. -/
import Derived.Test.YtonknapfndaalaaAwk7
import Derived.Test.YtonknapfndaalaaKri
namespace Go.Proofs.Ytonknapfndaalaa
set_option linter.unusedVariables false
set_option maxRecDepth 1000000
open Go.RowKit Go.Sort
theorem same_own {n : Nat} {x : Ex} (hf : fit 90001 n x = true) {k1 k2 : Option Addr} {c1 c2 : Nat} (W : World) (h1 : HasK W n k1 x.kids) (h2 : HasK W n k2 x.kids) :
  Calls Try.prog 10 #[exv x k1 c1, exv x k2 c2] W fun e w' => e = .returned (.bool true) ∧ Below W.heap.size W w' := by
 have := rsame_any n x x k1 k2 c1 c2 W hf hf h1 h2
 rw [same_self n x hf] at this
 exact this
theorem Rdk.right {x : Ex} (h : Rdk x) : rightX 53 x = true := by
 unfold rightX
 rw [Bool.and_eq_true, decide_eq_true_eq]
 exact ⟨h.deep, h.okx.all 53 (fit9_fit 53 x h.fitw)⟩
theorem right_own {x : Ex} (h : Rdk x) (ko : Option Addr) (kc : Nat) (W : World) (hK : HasK W 53 ko x.kids) :
  Calls Try.prog 11 #[exv x ko kc] W fun e w' => e = .returned (.bool true) ∧ Below W.heap.size W w' := by
 have := rrightw_any 53 (by decide) x ko kc W ⟨h.wide, h.tx⟩ hK
 rw [h.right] at this
 exact this
theorem same_ex0 (W : World) (c1 c2 : Nat) : Calls Try.prog 10 #[.agg #[.int .i64 0, .string ⟨#[]⟩, .int .u64 0, .int .u64 0, .int .u64 0, .int .u64 0, .slice none 0 c1], .agg #[.int .i64 0, .string ⟨#[]⟩, .int .u64 0, .int .u64 0, .int .u64 0, .int .u64 0, .slice none 0 c2]] W fun e w' => e = .returned (.bool true) ∧ Below W.heap.size W w' :=
 same_own (n := 1) (x := ex0) (by decide) W (fun k x h => by cases h) (fun k x h => by cases h)
set_option maxRecDepth 1000000 in
set_option maxHeartbeats 12800000 in
theorem wraps7_walk (HW : WordOk) (HALL : AllOk) (s : ByteArray) (w : World) :
  Calls Try.prog 3 #[.string s] w fun e w' => e = .returned (.bool true) ∧ Below w.heap.size w w' := by
 have HWW := Lib.hid HW
 have HAA := Lib.hid HALL
 clear HW HALL
 by_cases hs : (s.size : Int) ≤ 300
 ·
  go_enter Try.func3, Try.ntmps3
  go_wp2_with fail
  go_loop [3] (fun i => ∃ k : Nat, i = .int .i64 (k : Int) ∧ k ≤ s.size ∧ Hid (∀ j, j < k → byt s j ≠ 35)) (fun i => s.size - (intOf i).toNat)
  case atStart => exact ⟨0, rfl, Nat.zero_le _, Lib.hid (fun j h => by omega)⟩
  case round =>
   obtain ⟨k, rfl, hk, HN⟩ := hrel
   by_cases hlt : k < s.size
   ·
    obtain ⟨c, hc⟩ : ∃ c : Int, (s[k].toNat : Int) = c := ⟨_, rfl⟩
    have HX := Lib.hid (show byt s k = c by rw [byt_get hlt, hc])
    by_cases h35 : c = 35
    ·
     subst h35
     go_wp2_with fail
     refine (awake7_any HWW.out HAA.out _).mono ?_
     rintro e w9 ⟨rfl, hb9⟩
     go_wp2
     go_ret
     exact ⟨rfl, hb9⟩
    ·
     have e35 : (c == 35) = false := beq_eq_false_iff_ne.2 h35
     have HN1 : Hid (∀ j, j < k + 1 → byt s j ≠ 35) := Lib.hid (fun j hj => by
      by_cases e : j = k
      ·
       rw [e, HX.out]; exact h35
      ·
       exact HN.out j (by omega))
     go_wp2
     go_round
     case rel => exact ⟨k + 1, by go_num, by omega, HN1⟩
     case measure => simp [intOf]; omega
   ·
    obtain rfl : k = s.size := by omega
    have HSS := Lib.hid (show s.size ≤ 300 by omega)
    have hz : (⟨#[32, 40, 32]⟩ ++ s ++ ⟨#[10, 41, 32, 35, 32, 97, 32, 41]⟩ : ByteArray).size ≤ 4000 := by simp only [ByteArray.size_append]; show 3 + s.size + 8 ≤ 4000; omega
    cases hr : psO s with
    | error f =>
     have C1 := Lib.hid (fun W => rps_no HWW.out HAA.out (by omega) hr W)
     have C2 := Lib.hid (fun W => rps_any (v := (⟨#[32, 40, 32]⟩ ++ s ++ ⟨#[10, 41, 32, 35, 32, 97, 32, 41]⟩ : ByteArray)) HWW.out HAA.out hz W)
     clear hr hz HN
     go_wp2_with fail
     refine (C1.out _).mono ?_
     rintro e w1 ⟨⟨rfl, hf⟩, hb⟩
     have HB1 := Lib.hid (hb)
     clear hb
     have ef : (f.1 == 0) = false := beq_eq_false_iff_ne.2 hf
     have ef1 : decide (f.1 = 0) = false := decide_eq_false hf
     clear hf
     obtain ⟨wa1, wb1, hs1, hs2, hbd, ho1, ho2⟩ := put_two w1 0 ⟨#[]⟩ 0 0 0 0 none 0 0 f.1 f.2
     have HB2 := Lib.hid (keepb HB1.out hbd)
     clear HB1 hbd
     have A1_2 := Lib.hid (ho1)
     have F1_2 := Lib.hid (ho2)
     have HS1 := Lib.hid hs1
     have HS2 := Lib.hid hs2
     clear hs1 hs2 ho1 ho2
     go_wp2_with (first | (with_reducible refine wpList_store_lit (.pointer (some ⟨w1.heap.size, 0, none⟩)) (.agg #[.int .i64 0, .string ⟨#[]⟩, .int .u64 0, .int .u64 0, .int .u64 0, .int .u64 0, .slice none 0 0]) HS1.out ?_ ?_ ?_) | (with_reducible refine wpList_store_lit (.pointer (some ⟨w1.heap.size + 1, 0, none⟩)) (.agg #[.int .i64 f.1, .int .i64 f.2, .int .i64 0, .int .i64 0]) HS2.out ?_ ?_ ?_))
     ·
      rfl
     ·
      rfl
     ·
      rfl
     ·
      rfl
     clear HS1 HS2
     go_wp2_with fail
     refine (C2.out _).mono ?_
     rintro e w2 ⟨⟨o2, tx2, q2a, q2b, q2c, q2d, ko2, nk2, kc2, f2a, f2b, rfl⟩, hb⟩
     have HB3 := Lib.hid (keepb HB2.out hb)
     have A1_3 := Lib.hid (own_move A1_2.out hb)
     have F1_3 := Lib.hid (own_move F1_2.out hb)
     clear HB2 A1_2 F1_2 hb
     clear C1 C2
     have zz : True := trivial
     obtain ⟨d0, d1, d2, d3, -⟩ := F1_3.out.four
     have dl := F1_3.out.lt
     clear d0 d1 d2 d3 dl
     obtain ⟨wa2, wb2, hs1, hs2, hbd, ho1, ho2⟩ := put_two w2 o2 tx2 q2a q2b q2c q2d ko2 nk2 kc2 f2a f2b
     have HB4 := Lib.hid (keepb HB3.out hbd)
     have A1_4 := Lib.hid (own_move A1_3.out hbd)
     have F1_4 := Lib.hid (own_move F1_3.out hbd)
     clear HB3 A1_3 F1_3 hbd
     have A2_4 := Lib.hid (ho1)
     have F2_4 := Lib.hid (ho2)
     have HS1 := Lib.hid hs1
     have HS2 := Lib.hid hs2
     clear hs1 hs2 ho1 ho2
     obtain ⟨d0, d1, d2, d3, -⟩ := F1_4.out.four
     have dl := F1_4.out.lt
     go_wp2_with (first | (with_reducible refine wpList_store_lit (.pointer (some ⟨w2.heap.size, 0, none⟩)) (.agg #[.int .i64 o2, .string tx2, .int .u64 q2a, .int .u64 q2b, .int .u64 q2c, .int .u64 q2d, .slice ko2 nk2 kc2]) HS1.out ?_ ?_ ?_) | (with_reducible refine wpList_store_lit (.pointer (some ⟨w2.heap.size + 1, 0, none⟩)) (.agg #[.int .i64 f2a, .int .i64 f2b, .int .i64 0, .int .i64 0]) HS2.out ?_ ?_ ?_))
     ·
      rfl
     ·
      rfl
     ·
      rfl
     ·
      rfl
     clear HS1 HS2
     go_wp2_with fail
     clear d0 d1 d2 d3 dl
     refine (awake7_any HWW.out HAA.out _).mono ?_
     rintro e w3 ⟨rfl, hb⟩
     have HB5 := Lib.hid (keepb HB4.out hb)
     have A1_5 := Lib.hid (own_move A1_4.out hb)
     have F1_5 := Lib.hid (own_move F1_4.out hb)
     have A2_5 := Lib.hid (own_move A2_4.out hb)
     have F2_5 := Lib.hid (own_move F2_4.out hb)
     clear HB4 A1_4 F1_4 A2_4 F2_4 hb
     obtain ⟨a0, a1, a2, a3, a4, a5, a6⟩ := A1_5.out.seven
     have al := A1_5.out.lt
     go_wp2_with fail
     refine (same_ex0 _ _ _).mono ?_
     rintro e w4 ⟨rfl, hb⟩
     go_wp2
     go_ret
     exact ⟨rfl, keepb HB5.out hb⟩
    | ok x =>
     have HRK := Lib.hid (psO_ok HSS.out hr)
     have HWX := Lib.hid (psO_wrap HN.out hr)
     rw [wrap_cat] at HWX
     have C1 := Lib.hid (fun W => rps_ok HWW.out HAA.out (by omega) hr W)
     have C2 := Lib.hid (show ∀ W, Calls Try.prog 9 #[.string (⟨#[32, 40, 32]⟩ ++ s ++ ⟨#[10, 41, 32, 35, 32, 97, 32, 41]⟩ : ByteArray)] W fun e w' => (∃ o tx q0 q1 q2 q3 ko nk kc f1 f2, e = .returned (.tuple #[.agg #[.int .i64 o, .string tx, .int .u64 q0, .int .u64 q1, .int .u64 q2, .int .u64 q3, .slice ko nk kc], .agg #[.int .i64 f1, .int .i64 f2, .int .i64 0, .int .i64 0]]) ∧ (f1 = 3 ∨ f1 = 0 ∧ f2 = 0 ∧ o = x.op ∧ tx = x.text ∧ q0 = x.s0 ∧ q1 = x.s1 ∧ q2 = x.s2 ∧ q3 = x.s3 ∧ nk = x.kids.length ∧ ∃ n, HasK w' n ko x.kids)) ∧ Below W.heap.size W w' from fun W => by
      rcases HWX.out with h | ⟨p, h⟩
      ·
       refine (rps_ok HWW.out HAA.out hz h W).mono ?_
       rintro e w' ⟨⟨ko, kc, n, rfl, hE⟩, hb⟩
       exact ⟨⟨_, _, _, _, _, _, ko, _, kc, 0, 0, rfl, .inr ⟨rfl, rfl, rfl, rfl, rfl, rfl, rfl, rfl, rfl, n, hE.hask⟩⟩, hb⟩
      ·
       refine (rps_no HWW.out HAA.out hz h W).mono ?_
       rintro e w' ⟨⟨rfl, -⟩, hb⟩
       exact ⟨⟨0, ⟨#[]⟩, 0, 0, 0, 0, none, 0, 0, _, p, rfl, .inl rfl⟩, hb⟩)
     clear hr hz HN HWX
     go_wp2_with fail
     refine (C1.out _).mono ?_
     rintro e w1 ⟨⟨ko1, kc1, n1, rfl, hE⟩, hb⟩
     have hK := HasK.fit HRK.out.fitw hE.hask
     unfold exv
     have HB1 := Lib.hid (hb)
     clear hb
     obtain ⟨wa1, wb1, hs1, hs2, hbd, ho1, ho2⟩ := put_two w1 x.op x.text x.s0 x.s1 x.s2 x.s3 ko1 x.kids.length kc1 0 0
     have K1_1 := Lib.hid (hK)
     have HB2 := Lib.hid (keepb HB1.out hbd)
     have K1_2 := Lib.hid (HasK.below hbd K1_1.out)
     clear HB1 K1_1 hbd
     have A1_2 := Lib.hid (ho1)
     have F1_2 := Lib.hid (ho2)
     have HS1 := Lib.hid hs1
     have HS2 := Lib.hid hs2
     clear hs1 hs2 ho1 ho2
     go_wp2_with (first | (with_reducible refine wpList_store_lit (.pointer (some ⟨w1.heap.size, 0, none⟩)) (.agg #[.int .i64 x.op, .string x.text, .int .u64 x.s0, .int .u64 x.s1, .int .u64 x.s2, .int .u64 x.s3, .slice ko1 x.kids.length kc1]) HS1.out ?_ ?_ ?_) | (with_reducible refine wpList_store_lit (.pointer (some ⟨w1.heap.size + 1, 0, none⟩)) (.agg #[.int .i64 0, .int .i64 0, .int .i64 0, .int .i64 0]) HS2.out ?_ ?_ ?_))
     ·
      rfl
     ·
      rfl
     ·
      rfl
     ·
      rfl
     clear HS1 HS2
     clear hK hE
     go_wp2_with fail
     refine (C2.out _).mono ?_
     rintro e w2 ⟨⟨o2, tx2, q2a, q2b, q2c, q2d, ko2, nk2, kc2, f2a, f2b, rfl, HD⟩, hb⟩
     have HB3 := Lib.hid (keepb HB2.out hb)
     have K1_3 := Lib.hid (HasK.below hb K1_2.out)
     have A1_3 := Lib.hid (own_move A1_2.out hb)
     have F1_3 := Lib.hid (own_move F1_2.out hb)
     clear HB2 K1_2 A1_2 F1_2 hb
     clear C1 C2
     have HD2 : f2a = 3 ∨ f2a = 0 ∧ f2b = 0 ∧ o2 = x.op ∧ tx2 = x.text ∧ q2a = x.s0 ∧ q2b = x.s1 ∧ q2c = x.s2 ∧ q2d = x.s3 ∧ nk2 = x.kids.length ∧ HasK w2 53 ko2 x.kids := by
      rcases HD with h | ⟨h1, h2, h3, h4, h5, h6, h7, h8, h9, n, hn⟩
      ·
       exact .inl h
      ·
       exact .inr ⟨h1, h2, h3, h4, h5, h6, h7, h8, h9, HasK.fit HRK.out.fitw hn⟩
     clear HD
     rcases HD2 with rfl | ⟨rfl, rfl, rfl, rfl, rfl, rfl, rfl, rfl, rfl, hK⟩
     ·
      skip
      obtain ⟨wa2, wb2, hs1, hs2, hbd, ho1, ho2⟩ := put_two w2 o2 tx2 q2a q2b q2c q2d ko2 nk2 kc2 3 f2b
      have HB4 := Lib.hid (keepb HB3.out hbd)
      have K1_4 := Lib.hid (HasK.below hbd K1_3.out)
      have A1_4 := Lib.hid (own_move A1_3.out hbd)
      have F1_4 := Lib.hid (own_move F1_3.out hbd)
      clear HB3 K1_3 A1_3 F1_3 hbd
      have A2_4 := Lib.hid (ho1)
      have F2_4 := Lib.hid (ho2)
      have HS1 := Lib.hid hs1
      have HS2 := Lib.hid hs2
      clear hs1 hs2 ho1 ho2
      obtain ⟨d0, d1, d2, d3, -⟩ := F1_4.out.four
      have dl := F1_4.out.lt
      go_wp2_with (first | (with_reducible refine wpList_store_lit (.pointer (some ⟨w2.heap.size, 0, none⟩)) (.agg #[.int .i64 o2, .string tx2, .int .u64 q2a, .int .u64 q2b, .int .u64 q2c, .int .u64 q2d, .slice ko2 nk2 kc2]) HS1.out ?_ ?_ ?_) | (with_reducible refine wpList_store_lit (.pointer (some ⟨w2.heap.size + 1, 0, none⟩)) (.agg #[.int .i64 3, .int .i64 f2b, .int .i64 0, .int .i64 0]) HS2.out ?_ ?_ ?_))
      ·
       rfl
      ·
       rfl
      ·
       rfl
      ·
       rfl
      clear HS1 HS2
      go_wp2_with fail
      clear d0 d1 d2 d3 dl
      refine (awake7_any HWW.out HAA.out _).mono ?_
      rintro e w3 ⟨rfl, hb⟩
      have HB5 := Lib.hid (keepb HB4.out hb)
      have K1_5 := Lib.hid (HasK.below hb K1_4.out)
      have A1_5 := Lib.hid (own_move A1_4.out hb)
      have F1_5 := Lib.hid (own_move F1_4.out hb)
      have A2_5 := Lib.hid (own_move A2_4.out hb)
      have F2_5 := Lib.hid (own_move F2_4.out hb)
      clear HB4 K1_4 A1_4 F1_4 A2_4 F2_4 hb
      obtain ⟨a0, a1, a2, a3, a4, a5, a6⟩ := A1_5.out.seven
      have al := A1_5.out.lt
      have CR := Lib.hid (show Calls Try.prog 11 #[.agg #[.int .i64 x.op, .string x.text, .int .u64 x.s0, .int .u64 x.s1, .int .u64 x.s2, .int .u64 x.s3, .slice ko1 x.kids.length kc1]] w3 fun e w' => e = .returned (.bool true) ∧ Below w3.heap.size w3 w' from right_own HRK.out ko1 kc1 w3 K1_5.out)
      go_wp2_with fail
      clear a0 a1 a2 a3 a4 a5 a6 al
      refine CR.out.mono ?_
      rintro e w4 ⟨rfl, hb⟩
      clear CR
      have HB6 := Lib.hid (keepb HB5.out hb)
      have K1_6 := Lib.hid (HasK.below hb K1_5.out)
      have A1_6 := Lib.hid (own_move A1_5.out hb)
      have F1_6 := Lib.hid (own_move F1_5.out hb)
      have A2_6 := Lib.hid (own_move A2_5.out hb)
      have F2_6 := Lib.hid (own_move F2_5.out hb)
      clear HB5 K1_5 A1_5 F1_5 A2_5 F2_5 hb
      obtain ⟨f0, f1, f2, f3, -⟩ := F2_6.out.four
      have fl := F2_6.out.lt
      obtain ⟨d0, d1, d2, d3, -⟩ := F1_6.out.four
      have dl := F1_6.out.lt
      go_wp2
      go_ret
      exact ⟨rfl, HB6.out⟩
     ·
      skip
      have K2_3 := Lib.hid (hK)
      obtain ⟨wa2, wb2, hs1, hs2, hbd, ho1, ho2⟩ := put_two w2 x.op x.text x.s0 x.s1 x.s2 x.s3 ko2 x.kids.length kc2 0 0
      have HB4 := Lib.hid (keepb HB3.out hbd)
      have K1_4 := Lib.hid (HasK.below hbd K1_3.out)
      have A1_4 := Lib.hid (own_move A1_3.out hbd)
      have F1_4 := Lib.hid (own_move F1_3.out hbd)
      have K2_4 := Lib.hid (HasK.below hbd K2_3.out)
      clear HB3 K1_3 A1_3 F1_3 K2_3 hbd
      have A2_4 := Lib.hid (ho1)
      have F2_4 := Lib.hid (ho2)
      have HS1 := Lib.hid hs1
      have HS2 := Lib.hid hs2
      clear hs1 hs2 ho1 ho2
      obtain ⟨d0, d1, d2, d3, -⟩ := F1_4.out.four
      have dl := F1_4.out.lt
      go_wp2_with (first | (with_reducible refine wpList_store_lit (.pointer (some ⟨w2.heap.size, 0, none⟩)) (.agg #[.int .i64 x.op, .string x.text, .int .u64 x.s0, .int .u64 x.s1, .int .u64 x.s2, .int .u64 x.s3, .slice ko2 x.kids.length kc2]) HS1.out ?_ ?_ ?_) | (with_reducible refine wpList_store_lit (.pointer (some ⟨w2.heap.size + 1, 0, none⟩)) (.agg #[.int .i64 0, .int .i64 0, .int .i64 0, .int .i64 0]) HS2.out ?_ ?_ ?_))
      ·
       rfl
      ·
       rfl
      ·
       rfl
      ·
       rfl
      clear HS1 HS2
      clear hK
      go_wp2_with fail
      clear d0 d1 d2 d3 dl
      refine (awake7_any HWW.out HAA.out _).mono ?_
      rintro e w3 ⟨rfl, hb⟩
      have HB5 := Lib.hid (keepb HB4.out hb)
      have K1_5 := Lib.hid (HasK.below hb K1_4.out)
      have A1_5 := Lib.hid (own_move A1_4.out hb)
      have F1_5 := Lib.hid (own_move F1_4.out hb)
      have K2_5 := Lib.hid (HasK.below hb K2_4.out)
      have A2_5 := Lib.hid (own_move A2_4.out hb)
      have F2_5 := Lib.hid (own_move F2_4.out hb)
      clear HB4 K1_4 A1_4 F1_4 K2_4 A2_4 F2_4 hb
      obtain ⟨a0, a1, a2, a3, a4, a5, a6⟩ := A1_5.out.seven
      have al := A1_5.out.lt
      have CR := Lib.hid (show Calls Try.prog 11 #[.agg #[.int .i64 x.op, .string x.text, .int .u64 x.s0, .int .u64 x.s1, .int .u64 x.s2, .int .u64 x.s3, .slice ko1 x.kids.length kc1]] w3 fun e w' => e = .returned (.bool true) ∧ Below w3.heap.size w3 w' from right_own HRK.out ko1 kc1 w3 K1_5.out)
      go_wp2_with fail
      clear a0 a1 a2 a3 a4 a5 a6 al
      refine CR.out.mono ?_
      rintro e w4 ⟨rfl, hb⟩
      clear CR
      have HB6 := Lib.hid (keepb HB5.out hb)
      have K1_6 := Lib.hid (HasK.below hb K1_5.out)
      have A1_6 := Lib.hid (own_move A1_5.out hb)
      have F1_6 := Lib.hid (own_move F1_5.out hb)
      have K2_6 := Lib.hid (HasK.below hb K2_5.out)
      have A2_6 := Lib.hid (own_move A2_5.out hb)
      have F2_6 := Lib.hid (own_move F2_5.out hb)
      clear HB5 K1_5 A1_5 F1_5 K2_5 A2_5 F2_5 hb
      obtain ⟨f0, f1, f2, f3, -⟩ := F2_6.out.four
      have fl := F2_6.out.lt
      obtain ⟨d0, d1, d2, d3, -⟩ := F1_6.out.four
      have dl := F1_6.out.lt
      obtain ⟨a0, a1, a2, a3, a4, a5, a6⟩ := A1_6.out.seven
      have al := A1_6.out.lt
      obtain ⟨b0, b1, b2, b3, b4, b5, b6⟩ := A2_6.out.seven
      have bl := A2_6.out.lt
      have CS := Lib.hid (show Calls Try.prog 10 #[.agg #[.int .i64 x.op, .string x.text, .int .u64 x.s0, .int .u64 x.s1, .int .u64 x.s2, .int .u64 x.s3, .slice ko1 x.kids.length kc1], .agg #[.int .i64 x.op, .string x.text, .int .u64 x.s0, .int .u64 x.s1, .int .u64 x.s2, .int .u64 x.s3, .slice ko2 x.kids.length kc2]] w4 fun e w' => e = .returned (.bool true) ∧ Below w4.heap.size w4 w' from same_own HRK.out.wide w4 K1_6.out K2_6.out)
      go_wp2_with fail
      refine CS.out.mono ?_
      rintro e w5 ⟨rfl, hb⟩
      go_wp2
      go_ret
      exact ⟨rfl, keepb HB6.out hb⟩
 ·
  go_enter Try.func3, Try.ntmps3
  go_wp2_with fail
  refine (awake7_any HWW.out HAA.out _).mono ?_
  rintro e w9 ⟨rfl, hb9⟩
  go_wp2
  go_ret
  exact ⟨rfl, hb9⟩
end Go.Proofs.Ytonknapfndaalaa
