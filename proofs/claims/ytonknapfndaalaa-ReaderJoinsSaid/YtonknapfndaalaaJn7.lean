/- The law ReaderJoins, walked. -/
import Derived.Test.YtonknapfndaalaaWr7
import Derived.Test.YtonknapfndaalaaJq
import Derived.Lib.QuietBelow
namespace Go.Proofs.Ytonknapfndaalaa
set_option linter.unusedVariables false
set_option maxRecDepth 1000000
open Go.RowKit Go.Sort
theorem deep_own {x : Ex} (h : Rdk x) (ko : Option Addr) (kc : Nat) (W : World) (hK : HasK W 53 ko x.kids) :
  Calls Try.prog 12 #[exv x ko kc] W fun e w' => e = .returned (.int .i64 (deepX 53 x)) ∧ Below W.heap.size W w' :=
 rdeepf_any 90001 (by omega) 53 (by decide) x ko kc W h.wide hK
set_option maxRecDepth 1000000 in
set_option maxHeartbeats 12800000 in
theorem joins7_walk (HW : WordOk) (HALL : AllOk) (s t : ByteArray) (w : World) :
  Calls Try.prog 4 #[.string s, .string t] w fun e w' => e = .returned (.bool true) ∧ Below w.heap.size w w' := by
 have HWW := Lib.hid HW
 have HAA := Lib.hid HALL
 clear HW HALL
 by_cases hs : (s.size : Int) ≤ 200
 ·
  by_cases ht : (t.size : Int) ≤ 200
  ·
   go_enter Try.func4, Try.ntmps4
   go_wp2_with fail
   go_loop [5] (fun i => ∃ k : Nat, i = .int .i64 (k : Int) ∧ k ≤ s.size ∧ Hid (∀ j, j < k → byt s j ≠ 35)) (fun i => s.size - (intOf i).toNat)
   case atStart => exact ⟨0, rfl, Nat.zero_le _, Lib.hid (fun j h => by omega)⟩
   case round =>
    obtain ⟨k, rfl, hk, HN⟩ := hrel
    by_cases hlt : k < s.size
    ·
     obtain ⟨c, hc⟩ : ∃ c : Int, (s[k].toNat : Int) = c := ⟨_, rfl⟩
     have HX := Lib.hid (show byt s k = c by rw [byt_get hlt, hc])
     by_cases h35 : c = 35
     ·
      subst h35
      go_wp2_with fail
      refine (awake7_any HWW.out HAA.out _).mono ?_
      rintro e w9 ⟨rfl, hb9⟩
      go_wp2
      go_ret
      exact ⟨rfl, hb9⟩
     ·
      have e35 : (c == 35) = false := beq_eq_false_iff_ne.2 h35
      have HN1 : Hid (∀ j, j < k + 1 → byt s j ≠ 35) := Lib.hid (fun j hj => by
       by_cases e : j = k
       ·
        rw [e, HX.out]; exact h35
       ·
        exact HN.out j (by omega))
      go_wp2
      go_round
      case rel => exact ⟨k + 1, by go_num, by omega, HN1⟩
      case measure => simp [intOf]; omega
    ·
     obtain rfl : k = s.size := by omega
     have HSS := Lib.hid (show s.size ≤ 300 by omega)
     have HTT := Lib.hid (show t.size ≤ 300 by omega)
     have hz : (⟨#[40]⟩ ++ s ++ ⟨#[41, 32, 47, 32, 40]⟩ ++ t ++ ⟨#[41]⟩ : ByteArray).size ≤ 4000 := by simp only [ByteArray.size_append]; show 1 + s.size + 5 + t.size + 1 ≤ 4000; omega
     clear hlt hk
     cases hr : psO s with
     | error f =>
      have C1 := Lib.hid (fun W => rps_no HWW.out HAA.out (by omega) hr W)
      have C2 := Lib.hid (fun W => rps_any (v := t) HWW.out HAA.out (by omega) W)
      have C3 := Lib.hid (fun W => rps_any (v := (⟨#[40]⟩ ++ s ++ ⟨#[41, 32, 47, 32, 40]⟩ ++ t ++ ⟨#[41]⟩ : ByteArray)) HWW.out HAA.out hz W)
      clear hr hz HN
      go_wp2_with fail
      refine (C1.out _).mono ?_
      rintro e w1 ⟨⟨rfl, hf⟩, hb⟩
      have HB1 := Lib.hid (hb)
      clear hb
      have ef : (f.1 == 0) = false := beq_eq_false_iff_ne.2 hf
      have ef1 : decide (f.1 = 0) = false := decide_eq_false hf
      have ef2 : (f.1 != 0) = true := by rw [bne, ef]; rfl
      obtain ⟨wa1, wb1, hs1, hs2, hbd, ho1, ho2⟩ := put_two w1 0 ⟨#[]⟩ 0 0 0 0 none 0 0 f.1 f.2
      have HB2 := Lib.hid (keepb HB1.out hbd)
      clear HB1 hbd
      have A1_2 := Lib.hid (ho1)
      have F1_2 := Lib.hid (ho2)
      have HS1 := Lib.hid hs1
      have HS2 := Lib.hid hs2
      clear hs1 hs2 ho1 ho2
      go_wp2_with (first | (with_reducible refine wpList_store_lit (.pointer (some ⟨w1.heap.size, 0, none⟩)) (.agg #[.int .i64 0, .string ⟨#[]⟩, .int .u64 0, .int .u64 0, .int .u64 0, .int .u64 0, .slice none 0 0]) HS1.out ?_ ?_ ?_) | (with_reducible refine wpList_store_lit (.pointer (some ⟨w1.heap.size + 1, 0, none⟩)) (.agg #[.int .i64 f.1, .int .i64 f.2, .int .i64 0, .int .i64 0]) HS2.out ?_ ?_ ?_))
      ·
       rfl
      ·
       rfl
      ·
       rfl
      ·
       rfl
      clear HS1 HS2
      go_wp2_with fail
      refine (C2.out _).mono ?_
      rintro e w2 ⟨⟨o2, tx2, q2a, q2b, q2c, q2d, ko2, nk2, kc2, f2a, f2b, rfl⟩, hb⟩
      have HB3 := Lib.hid (keepb HB2.out hb)
      have A1_3 := Lib.hid (own_move A1_2.out hb)
      have F1_3 := Lib.hid (own_move F1_2.out hb)
      clear HB2 A1_2 F1_2 hb
      obtain ⟨wa2, wb2, hs1, hs2, hbd, ho1, ho2⟩ := put_two w2 o2 tx2 q2a q2b q2c q2d ko2 nk2 kc2 f2a f2b
      have HB4 := Lib.hid (keepb HB3.out hbd)
      have A1_4 := Lib.hid (own_move A1_3.out hbd)
      have F1_4 := Lib.hid (own_move F1_3.out hbd)
      clear HB3 A1_3 F1_3 hbd
      have A2_4 := Lib.hid (ho1)
      have F2_4 := Lib.hid (ho2)
      have HS1 := Lib.hid hs1
      have HS2 := Lib.hid hs2
      clear hs1 hs2 ho1 ho2
      go_wp2_with (first | (with_reducible refine wpList_store_lit (.pointer (some ⟨w2.heap.size, 0, none⟩)) (.agg #[.int .i64 o2, .string tx2, .int .u64 q2a, .int .u64 q2b, .int .u64 q2c, .int .u64 q2d, .slice ko2 nk2 kc2]) HS1.out ?_ ?_ ?_) | (with_reducible refine wpList_store_lit (.pointer (some ⟨w2.heap.size + 1, 0, none⟩)) (.agg #[.int .i64 f2a, .int .i64 f2b, .int .i64 0, .int .i64 0]) HS2.out ?_ ?_ ?_))
      ·
       rfl
      ·
       rfl
      ·
       rfl
      ·
       rfl
      clear HS1 HS2
      go_wp2_with fail
      refine (C3.out _).mono ?_
      rintro e w3 ⟨⟨o3, tx3, q3a, q3b, q3c, q3d, ko3, nk3, kc3, f3a, f3b, rfl⟩, hb⟩
      have HB5 := Lib.hid (keepb HB4.out hb)
      have A1_5 := Lib.hid (own_move A1_4.out hb)
      have F1_5 := Lib.hid (own_move F1_4.out hb)
      have A2_5 := Lib.hid (own_move A2_4.out hb)
      have F2_5 := Lib.hid (own_move F2_4.out hb)
      clear HB4 A1_4 F1_4 A2_4 F2_4 hb
      obtain ⟨wa3, wb3, hs1, hs2, hbd, ho1, ho2⟩ := put_two w3 o3 tx3 q3a q3b q3c q3d ko3 nk3 kc3 f3a f3b
      have HB6 := Lib.hid (keepb HB5.out hbd)
      have A1_6 := Lib.hid (own_move A1_5.out hbd)
      have F1_6 := Lib.hid (own_move F1_5.out hbd)
      have A2_6 := Lib.hid (own_move A2_5.out hbd)
      have F2_6 := Lib.hid (own_move F2_5.out hbd)
      clear HB5 A1_5 F1_5 A2_5 F2_5 hbd
      have A3_6 := Lib.hid (ho1)
      have F3_6 := Lib.hid (ho2)
      have HS1 := Lib.hid hs1
      have HS2 := Lib.hid hs2
      clear hs1 hs2 ho1 ho2
      obtain ⟨d0, d1, d2, d3, -⟩ := F1_6.out.four
      have dl := F1_6.out.lt
      go_wp2_with (first | (with_reducible refine wpList_store_lit (.pointer (some ⟨w3.heap.size, 0, none⟩)) (.agg #[.int .i64 o3, .string tx3, .int .u64 q3a, .int .u64 q3b, .int .u64 q3c, .int .u64 q3d, .slice ko3 nk3 kc3]) HS1.out ?_ ?_ ?_) | (with_reducible refine wpList_store_lit (.pointer (some ⟨w3.heap.size + 1, 0, none⟩)) (.agg #[.int .i64 f3a, .int .i64 f3b, .int .i64 0, .int .i64 0]) HS2.out ?_ ?_ ?_))
      ·
       rfl
      ·
       rfl
      ·
       rfl
      ·
       rfl
      clear HS1 HS2
      go_wp2_with fail
      refine (awake7_any HWW.out HAA.out _).mono ?_
      rintro e w9 ⟨rfl, hb9⟩
      go_wp2
      go_ret
      exact ⟨rfl, keepb HB6.out hb9⟩
     | ok x =>
      cases hq : psO t with
      | error f =>
       have HRX := Lib.hid (psO_ok HSS.out hr)
       have C1 := Lib.hid (fun W => rps_ok HWW.out HAA.out (by omega) hr W)
       have C2 := Lib.hid (fun W => rps_no HWW.out HAA.out (by omega) hq W)
       have C3 := Lib.hid (fun W => rps_any (v := (⟨#[40]⟩ ++ s ++ ⟨#[41, 32, 47, 32, 40]⟩ ++ t ++ ⟨#[41]⟩ : ByteArray)) HWW.out HAA.out hz W)
       clear hr hq hz HN
       go_wp2_with fail
       refine (C1.out _).mono ?_
       rintro e w1 ⟨⟨ko1, kc1, n1, rfl, hE⟩, hb⟩
       have hK := HasK.fit HRX.out.fitw hE.hask
       unfold exv
       have HB1 := Lib.hid (hb)
       clear hb
       obtain ⟨wa1, wb1, hs1, hs2, hbd, ho1, ho2⟩ := put_two w1 x.op x.text x.s0 x.s1 x.s2 x.s3 ko1 x.kids.length kc1 0 0
       have K1_1 := Lib.hid (hK)
       have HB2 := Lib.hid (keepb HB1.out hbd)
       have K1_2 := Lib.hid (HasK.below hbd K1_1.out)
       clear HB1 K1_1 hbd
       have A1_2 := Lib.hid (ho1)
       have F1_2 := Lib.hid (ho2)
       have HS1 := Lib.hid hs1
       have HS2 := Lib.hid hs2
       clear hs1 hs2 ho1 ho2
       go_wp2_with (first | (with_reducible refine wpList_store_lit (.pointer (some ⟨w1.heap.size, 0, none⟩)) (.agg #[.int .i64 x.op, .string x.text, .int .u64 x.s0, .int .u64 x.s1, .int .u64 x.s2, .int .u64 x.s3, .slice ko1 x.kids.length kc1]) HS1.out ?_ ?_ ?_) | (with_reducible refine wpList_store_lit (.pointer (some ⟨w1.heap.size + 1, 0, none⟩)) (.agg #[.int .i64 0, .int .i64 0, .int .i64 0, .int .i64 0]) HS2.out ?_ ?_ ?_))
       ·
        rfl
       ·
        rfl
       ·
        rfl
       ·
        rfl
       clear HS1 HS2
       clear hK hE
       go_wp2_with fail
       refine (C2.out _).mono ?_
       rintro e w2 ⟨⟨rfl, hf⟩, hb⟩
       have HB3 := Lib.hid (keepb HB2.out hb)
       have K1_3 := Lib.hid (HasK.below hb K1_2.out)
       have A1_3 := Lib.hid (own_move A1_2.out hb)
       have F1_3 := Lib.hid (own_move F1_2.out hb)
       clear HB2 K1_2 A1_2 F1_2 hb
       have ef : (f.1 == 0) = false := beq_eq_false_iff_ne.2 hf
       have ef1 : decide (f.1 = 0) = false := decide_eq_false hf
       have ef2 : (f.1 != 0) = true := by rw [bne, ef]; rfl
       obtain ⟨wa2, wb2, hs1, hs2, hbd, ho1, ho2⟩ := put_two w2 0 ⟨#[]⟩ 0 0 0 0 none 0 0 f.1 f.2
       have HB4 := Lib.hid (keepb HB3.out hbd)
       have K1_4 := Lib.hid (HasK.below hbd K1_3.out)
       have A1_4 := Lib.hid (own_move A1_3.out hbd)
       have F1_4 := Lib.hid (own_move F1_3.out hbd)
       clear HB3 K1_3 A1_3 F1_3 hbd
       have A2_4 := Lib.hid (ho1)
       have F2_4 := Lib.hid (ho2)
       have HS1 := Lib.hid hs1
       have HS2 := Lib.hid hs2
       clear hs1 hs2 ho1 ho2
       go_wp2_with (first | (with_reducible refine wpList_store_lit (.pointer (some ⟨w2.heap.size, 0, none⟩)) (.agg #[.int .i64 0, .string ⟨#[]⟩, .int .u64 0, .int .u64 0, .int .u64 0, .int .u64 0, .slice none 0 0]) HS1.out ?_ ?_ ?_) | (with_reducible refine wpList_store_lit (.pointer (some ⟨w2.heap.size + 1, 0, none⟩)) (.agg #[.int .i64 f.1, .int .i64 f.2, .int .i64 0, .int .i64 0]) HS2.out ?_ ?_ ?_))
       ·
        rfl
       ·
        rfl
       ·
        rfl
       ·
        rfl
       clear HS1 HS2
       go_wp2_with fail
       refine (C3.out _).mono ?_
       rintro e w3 ⟨⟨o3, tx3, q3a, q3b, q3c, q3d, ko3, nk3, kc3, f3a, f3b, rfl⟩, hb⟩
       have HB5 := Lib.hid (keepb HB4.out hb)
       have K1_5 := Lib.hid (HasK.below hb K1_4.out)
       have A1_5 := Lib.hid (own_move A1_4.out hb)
       have F1_5 := Lib.hid (own_move F1_4.out hb)
       have A2_5 := Lib.hid (own_move A2_4.out hb)
       have F2_5 := Lib.hid (own_move F2_4.out hb)
       clear HB4 K1_4 A1_4 F1_4 A2_4 F2_4 hb
       obtain ⟨wa3, wb3, hs1, hs2, hbd, ho1, ho2⟩ := put_two w3 o3 tx3 q3a q3b q3c q3d ko3 nk3 kc3 f3a f3b
       have HB6 := Lib.hid (keepb HB5.out hbd)
       have K1_6 := Lib.hid (HasK.below hbd K1_5.out)
       have A1_6 := Lib.hid (own_move A1_5.out hbd)
       have F1_6 := Lib.hid (own_move F1_5.out hbd)
       have A2_6 := Lib.hid (own_move A2_5.out hbd)
       have F2_6 := Lib.hid (own_move F2_5.out hbd)
       clear HB5 K1_5 A1_5 F1_5 A2_5 F2_5 hbd
       have A3_6 := Lib.hid (ho1)
       have F3_6 := Lib.hid (ho2)
       have HS1 := Lib.hid hs1
       have HS2 := Lib.hid hs2
       clear hs1 hs2 ho1 ho2
       obtain ⟨d0, d1, d2, d3, -⟩ := F1_6.out.four
       have dl := F1_6.out.lt
       obtain ⟨e0, e1, e2, e3, -⟩ := F2_6.out.four
       have el := F2_6.out.lt
       go_wp2_with (first | (with_reducible refine wpList_store_lit (.pointer (some ⟨w3.heap.size, 0, none⟩)) (.agg #[.int .i64 o3, .string tx3, .int .u64 q3a, .int .u64 q3b, .int .u64 q3c, .int .u64 q3d, .slice ko3 nk3 kc3]) HS1.out ?_ ?_ ?_) | (with_reducible refine wpList_store_lit (.pointer (some ⟨w3.heap.size + 1, 0, none⟩)) (.agg #[.int .i64 f3a, .int .i64 f3b, .int .i64 0, .int .i64 0]) HS2.out ?_ ?_ ?_))
       ·
        rfl
       ·
        rfl
       ·
        rfl
       ·
        rfl
       clear HS1 HS2
       go_wp2_with fail
       refine (awake7_any HWW.out HAA.out _).mono ?_
       rintro e w9 ⟨rfl, hb9⟩
       go_wp2
       go_ret
       exact ⟨rfl, keepb HB6.out hb9⟩
      | ok y =>
       have HRX := Lib.hid (psO_ok HSS.out hr)
       have HRY := Lib.hid (psO_ok HTT.out hq)
       have HD1 := Lib.hid (deep_fit 53 59 x HRX.out.fitw (by decide))
       have HD2 := Lib.hid (deep_fit 53 59 y HRY.out.fitw (by decide))
       have HJ := Lib.hid (fun (h1 : ∀ k, k < t.size → byt t k ≠ 35) (h2 : deepX 53 x ≤ 11) (h3 : deepX 53 y ≤ 11) => psO_join HN.out h1 hr hq (by rw [HD1.out]; exact h2) (by rw [HD2.out]; exact h3))
       rw [join_cat] at HJ
       have C1 := Lib.hid (fun W => rps_ok HWW.out HAA.out (by omega) hr W)
       have C2 := Lib.hid (fun W => rps_ok HWW.out HAA.out (by omega) hq W)
       have C3 := Lib.hid (show ∀ W, Calls Try.prog 9 #[.string (⟨#[40]⟩ ++ s ++ ⟨#[41, 32, 47, 32, 40]⟩ ++ t ++ ⟨#[41]⟩ : ByteArray)] W fun e w' => (∃ o3 tx3 q3a q3b q3c q3d ko3 nk3 kc3 f3a f3b, e = .returned (.tuple #[.agg #[.int .i64 o3, .string tx3, .int .u64 q3a, .int .u64 q3b, .int .u64 q3c, .int .u64 q3d, .slice ko3 nk3 kc3], .agg #[.int .i64 f3a, .int .i64 f3b, .int .i64 0, .int .i64 0]]) ∧ ((∀ k, k < t.size → byt t k ≠ 35) → deepX 53 x ≤ 11 → deepX 53 y ≤ 11 → f3a = 3 ∨ f3a = 0 ∧ f3b = 0 ∧ o3 = 5 ∧ nk3 = 2 ∧ ∃ n, HasK w' n ko3 [x, y])) ∧ Below W.heap.size W w' from fun W => by
        by_cases hc : (∀ k, k < t.size → byt t k ≠ 35) ∧ deepX 53 x ≤ 11 ∧ deepX 53 y ≤ 11
        ·
         rcases HJ.out hc.1 hc.2.1 hc.2.2 with h | ⟨p, h⟩
         ·
          refine (rps_ok HWW.out HAA.out hz h W).mono ?_
          rintro e w' ⟨⟨ko, kc, n, rfl, hE⟩, hb⟩
          exact ⟨⟨_, _, _, _, _, _, ko, _, kc, 0, 0, rfl, fun _ _ _ => .inr ⟨rfl, rfl, rfl, rfl, n, hE.hask⟩⟩, hb⟩
         ·
          refine (rps_no HWW.out HAA.out hz h W).mono ?_
          rintro e w' ⟨⟨rfl, -⟩, hb⟩
          exact ⟨⟨0, ⟨#[]⟩, 0, 0, 0, 0, none, 0, 0, _, p, rfl, fun _ _ _ => .inl rfl⟩, hb⟩
        ·
         refine (rps_any HWW.out HAA.out hz W).mono ?_
         rintro e w' ⟨⟨o3, tx3, q3a, q3b, q3c, q3d, ko3, nk3, kc3, f3a, f3b, rfl⟩, hb⟩
         exact ⟨⟨o3, tx3, q3a, q3b, q3c, q3d, ko3, nk3, kc3, f3a, f3b, rfl, fun a b c => absurd ⟨a, b, c⟩ hc⟩, hb⟩)
       clear hr hq hz HN HJ HD1 HD2
       go_wp2_with fail
       refine (C1.out _).mono ?_
       rintro e w1 ⟨⟨ko1, kc1, n1, rfl, hE⟩, hb⟩
       have hK := HasK.fit HRX.out.fitw hE.hask
       unfold exv
       have HB1 := Lib.hid (hb)
       clear hb
       obtain ⟨wa1, wb1, hs1, hs2, hbd, ho1, ho2⟩ := put_two w1 x.op x.text x.s0 x.s1 x.s2 x.s3 ko1 x.kids.length kc1 0 0
       have K1_1 := Lib.hid (hK)
       have HB2 := Lib.hid (keepb HB1.out hbd)
       have K1_2 := Lib.hid (HasK.below hbd K1_1.out)
       clear HB1 K1_1 hbd
       have A1_2 := Lib.hid (ho1)
       have F1_2 := Lib.hid (ho2)
       have HS1 := Lib.hid hs1
       have HS2 := Lib.hid hs2
       clear hs1 hs2 ho1 ho2
       go_wp2_with (first | (with_reducible refine wpList_store_lit (.pointer (some ⟨w1.heap.size, 0, none⟩)) (.agg #[.int .i64 x.op, .string x.text, .int .u64 x.s0, .int .u64 x.s1, .int .u64 x.s2, .int .u64 x.s3, .slice ko1 x.kids.length kc1]) HS1.out ?_ ?_ ?_) | (with_reducible refine wpList_store_lit (.pointer (some ⟨w1.heap.size + 1, 0, none⟩)) (.agg #[.int .i64 0, .int .i64 0, .int .i64 0, .int .i64 0]) HS2.out ?_ ?_ ?_))
       ·
        rfl
       ·
        rfl
       ·
        rfl
       ·
        rfl
       clear HS1 HS2
       clear hK hE
       go_wp2_with fail
       refine (C2.out _).mono ?_
       rintro e w2 ⟨⟨ko2, kc2, n2, rfl, hE⟩, hb⟩
       have hK := HasK.fit HRY.out.fitw hE.hask
       unfold exv
       have HB3 := Lib.hid (keepb HB2.out hb)
       have K1_3 := Lib.hid (HasK.below hb K1_2.out)
       have A1_3 := Lib.hid (own_move A1_2.out hb)
       have F1_3 := Lib.hid (own_move F1_2.out hb)
       clear HB2 K1_2 A1_2 F1_2 hb
       obtain ⟨wa2, wb2, hs1, hs2, hbd, ho1, ho2⟩ := put_two w2 y.op y.text y.s0 y.s1 y.s2 y.s3 ko2 y.kids.length kc2 0 0
       have K2_3 := Lib.hid (hK)
       have HB4 := Lib.hid (keepb HB3.out hbd)
       have K1_4 := Lib.hid (HasK.below hbd K1_3.out)
       have A1_4 := Lib.hid (own_move A1_3.out hbd)
       have F1_4 := Lib.hid (own_move F1_3.out hbd)
       have K2_4 := Lib.hid (HasK.below hbd K2_3.out)
       clear HB3 K1_3 A1_3 F1_3 K2_3 hbd
       have A2_4 := Lib.hid (ho1)
       have F2_4 := Lib.hid (ho2)
       have HS1 := Lib.hid hs1
       have HS2 := Lib.hid hs2
       clear hs1 hs2 ho1 ho2
       go_wp2_with (first | (with_reducible refine wpList_store_lit (.pointer (some ⟨w2.heap.size, 0, none⟩)) (.agg #[.int .i64 y.op, .string y.text, .int .u64 y.s0, .int .u64 y.s1, .int .u64 y.s2, .int .u64 y.s3, .slice ko2 y.kids.length kc2]) HS1.out ?_ ?_ ?_) | (with_reducible refine wpList_store_lit (.pointer (some ⟨w2.heap.size + 1, 0, none⟩)) (.agg #[.int .i64 0, .int .i64 0, .int .i64 0, .int .i64 0]) HS2.out ?_ ?_ ?_))
       ·
        rfl
       ·
        rfl
       ·
        rfl
       ·
        rfl
       clear HS1 HS2
       clear hK hE
       go_wp2_with fail
       refine (C3.out _).mono ?_
       rintro e w3 ⟨⟨o3, tx3, q3a, q3b, q3c, q3d, ko3, nk3, kc3, f3a, f3b, rfl, hP⟩, hb⟩
       have HB5 := Lib.hid (keepb HB4.out hb)
       have K1_5 := Lib.hid (HasK.below hb K1_4.out)
       have A1_5 := Lib.hid (own_move A1_4.out hb)
       have F1_5 := Lib.hid (own_move F1_4.out hb)
       have K2_5 := Lib.hid (HasK.below hb K2_4.out)
       have A2_5 := Lib.hid (own_move A2_4.out hb)
       have F2_5 := Lib.hid (own_move F2_4.out hb)
       clear HB4 K1_4 A1_4 F1_4 K2_4 A2_4 F2_4 hb
       clear C1 C2 C3
       obtain ⟨dx, hdx⟩ : ∃ d, deepX 53 x = d := ⟨_, rfl⟩
       obtain ⟨dy, hdy⟩ : ∃ d, deepX 53 y = d := ⟨_, rfl⟩
       have CDX := Lib.hid (fun W h => deep_own HRX.out ko1 kc1 W h)
       have CDY := Lib.hid (fun W h => deep_own HRY.out ko2 kc2 W h)
       rw [hdx, hdy] at hP
       rw [hdx] at CDX
       rw [hdy] at CDY
       unfold exv at CDX CDY
       clear hdx hdy
       obtain ⟨wa3, wb3, hs1, hs2, hbd, ho1, ho2⟩ := put_two w3 o3 tx3 q3a q3b q3c q3d ko3 nk3 kc3 f3a f3b
       have HP := Lib.hid (show (∀ k, k < t.size → byt t k ≠ 35) → dx ≤ 11 → dy ≤ 11 → f3a = 3 ∨ f3a = 0 ∧ f3b = 0 ∧ o3 = 5 ∧ nk3 = 2 ∧ ∃ n, HasK wb3 n ko3 [x, y] from fun a b c => by
        rcases hP a b c with h | ⟨h1, h2, h3, h4, n, h5⟩
        ·
         exact .inl h
        ·
         exact .inr ⟨h1, h2, h3, h4, n, HasK.below hbd h5⟩)
       clear hP
       have HB6 := Lib.hid (keepb HB5.out hbd)
       have K1_6 := Lib.hid (HasK.below hbd K1_5.out)
       have A1_6 := Lib.hid (own_move A1_5.out hbd)
       have F1_6 := Lib.hid (own_move F1_5.out hbd)
       have K2_6 := Lib.hid (HasK.below hbd K2_5.out)
       have A2_6 := Lib.hid (own_move A2_5.out hbd)
       have F2_6 := Lib.hid (own_move F2_5.out hbd)
       clear HB5 K1_5 A1_5 F1_5 K2_5 A2_5 F2_5 hbd
       have A3_6 := Lib.hid (ho1)
       have F3_6 := Lib.hid (ho2)
       have HS1 := Lib.hid hs1
       have HS2 := Lib.hid hs2
       clear hs1 hs2 ho1 ho2
       obtain ⟨d0, d1, d2, d3, -⟩ := F1_6.out.four
       have dl := F1_6.out.lt
       obtain ⟨e0, e1, e2, e3, -⟩ := F2_6.out.four
       have el := F2_6.out.lt
       obtain ⟨a0, a1, a2, a3, a4, a5, a6⟩ := A1_6.out.seven
       have al := A1_6.out.lt
       obtain ⟨b0, b1, b2, b3, b4, b5, b6⟩ := A2_6.out.seven
       have bl := A2_6.out.lt
       go_wp2_with (first | (with_reducible refine wpList_store_lit (.pointer (some ⟨w3.heap.size, 0, none⟩)) (.agg #[.int .i64 o3, .string tx3, .int .u64 q3a, .int .u64 q3b, .int .u64 q3c, .int .u64 q3d, .slice ko3 nk3 kc3]) HS1.out ?_ ?_ ?_) | (with_reducible refine wpList_store_lit (.pointer (some ⟨w3.heap.size + 1, 0, none⟩)) (.agg #[.int .i64 f3a, .int .i64 f3b, .int .i64 0, .int .i64 0]) HS2.out ?_ ?_ ?_))
       ·
        rfl
       ·
        rfl
       ·
        rfl
       ·
        rfl
       clear HS1 HS2
       go_wp2_with fail
       clear d0 d1 d2 d3 dl e0 e1 e2 e3 el a0 a1 a2 a3 a4 a5 a6 al b0 b1 b2 b3 b4 b5 b6 bl
       refine (CDX.out _ K1_6.out).mono ?_
       rintro e w4 ⟨rfl, hb⟩
       have HP4 := Lib.hid (show (∀ k, k < t.size → byt t k ≠ 35) → dx ≤ 11 → dy ≤ 11 → f3a = 3 ∨ f3a = 0 ∧ f3b = 0 ∧ o3 = 5 ∧ nk3 = 2 ∧ ∃ n, HasK w4 n ko3 [x, y] from fun a b c => by
        rcases HP.out a b c with h | ⟨h1, h2, h3, h4, n, h5⟩
        ·
         exact .inl h
        ·
         exact .inr ⟨h1, h2, h3, h4, n, HasK.below hb h5⟩)
       clear HP
       have HB7 := Lib.hid (keepb HB6.out hb)
       have K1_7 := Lib.hid (HasK.below hb K1_6.out)
       have A1_7 := Lib.hid (own_move A1_6.out hb)
       have F1_7 := Lib.hid (own_move F1_6.out hb)
       have K2_7 := Lib.hid (HasK.below hb K2_6.out)
       have A2_7 := Lib.hid (own_move A2_6.out hb)
       have F2_7 := Lib.hid (own_move F2_6.out hb)
       have A3_7 := Lib.hid (own_move A3_6.out hb)
       have F3_7 := Lib.hid (own_move F3_6.out hb)
       clear HB6 K1_6 A1_6 F1_6 K2_6 A2_6 F2_6 A3_6 F3_6 hb
       clear CDX
       by_cases hx : 12 ≤ dx
       ·
        have kx : decide (12 ≤ dx) = true := decide_eq_true hx
        go_wp2_with fail
        refine (awake7_any HWW.out HAA.out _).mono ?_
        rintro e w9 ⟨rfl, hb9⟩
        go_wp2
        go_ret
        exact ⟨rfl, keepb HB7.out hb9⟩
       ·
        have kx : decide (12 ≤ dx) = false := decide_eq_false hx
        obtain ⟨b0, b1, b2, b3, b4, b5, b6⟩ := A2_7.out.seven
        have bl := A2_7.out.lt
        go_wp2_with fail
        clear b0 b1 b2 b3 b4 b5 b6 bl
        refine (CDY.out _ K2_7.out).mono ?_
        rintro e w5 ⟨rfl, hb⟩
        have HP5 := Lib.hid (show (∀ k, k < t.size → byt t k ≠ 35) → dx ≤ 11 → dy ≤ 11 → f3a = 3 ∨ f3a = 0 ∧ f3b = 0 ∧ o3 = 5 ∧ nk3 = 2 ∧ ∃ n, HasK w5 n ko3 [x, y] from fun a b c => by
         rcases HP4.out a b c with h | ⟨h1, h2, h3, h4, n, h5⟩
         ·
          exact .inl h
         ·
          exact .inr ⟨h1, h2, h3, h4, n, HasK.below hb h5⟩)
        clear HP4
        have HB8 := Lib.hid (keepb HB7.out hb)
        have K1_8 := Lib.hid (HasK.below hb K1_7.out)
        have A1_8 := Lib.hid (own_move A1_7.out hb)
        have F1_8 := Lib.hid (own_move F1_7.out hb)
        have K2_8 := Lib.hid (HasK.below hb K2_7.out)
        have A2_8 := Lib.hid (own_move A2_7.out hb)
        have F2_8 := Lib.hid (own_move F2_7.out hb)
        have A3_8 := Lib.hid (own_move A3_7.out hb)
        have F3_8 := Lib.hid (own_move F3_7.out hb)
        clear HB7 K1_7 A1_7 F1_7 K2_7 A2_7 F2_7 A3_7 F3_7 hb
        clear CDY kx
        by_cases hy : 12 ≤ dy
        ·
         have ky : decide (12 ≤ dy) = true := decide_eq_true hy
         go_wp2_with fail
         refine (awake7_any HWW.out HAA.out _).mono ?_
         rintro e w9 ⟨rfl, hb9⟩
         go_wp2
         go_ret
         exact ⟨rfl, keepb HB8.out hb9⟩
        ·
         have ky : decide (12 ≤ dy) = false := decide_eq_false hy
         go_wp2_with fail
         clear ky
         go_loop [12] (fun i => ∃ k : Nat, i = .int .i64 (k : Int) ∧ k ≤ t.size ∧ Hid (∀ j, j < k → byt t j ≠ 35)) (fun i => t.size - (intOf i).toNat)
         case atStart => exact ⟨0, rfl, Nat.zero_le _, Lib.hid (fun j h => by omega)⟩
         case round =>
          obtain ⟨k, rfl, hk, HN⟩ := hrel
          by_cases hlt : k < t.size
          ·
           obtain ⟨c, hc⟩ : ∃ c : Int, (t[k].toNat : Int) = c := ⟨_, rfl⟩
           have HX := Lib.hid (show byt t k = c by rw [byt_get hlt, hc])
           by_cases h35 : c = 35
           ·
            subst h35
            go_wp2_with fail
            refine (awake7_any HWW.out HAA.out _).mono ?_
            rintro e w9 ⟨rfl, hb9⟩
            go_wp2
            go_ret
            exact ⟨rfl, keepb HB8.out hb9⟩
           ·
            have e35 : (c == 35) = false := beq_eq_false_iff_ne.2 h35
            have HN1 : Hid (∀ j, j < k + 1 → byt t j ≠ 35) := Lib.hid (fun j hj => by
             by_cases e : j = k
             ·
              rw [e, HX.out]; exact h35
             ·
              exact HN.out j (by omega))
            go_wp2
            go_round
            case rel => exact ⟨k + 1, by go_num, by omega, HN1⟩
            case measure => simp [intOf]; omega
          ·
           obtain rfl : k = t.size := by omega
           have HQ := HP5.out HN.out (by omega) (by omega)
           clear HN HP5 hlt hk
           go_upto_region 18 with fail
           rcases HQ with rfl | ⟨rfl, rfl, rfl, rfl, n5, hK⟩
           ·
            skip
            have CW := Lib.hid (fun (dq : Nat) (os : Array Obj) => show Calls Try.prog 8 #[] (grow (redrawn w5 dq) os) fun e w' => e = .returned (.bool true) ∧ Below (grow (redrawn w5 dq) os).heap.size (grow (redrawn w5 dq) os) w' from awake7_any HWW.out HAA.out _)
            obtain ⟨d0, d1, d2, d3, -⟩ := F3_8.out.four
            have dl := F3_8.out.lt
            have d0' := cell_regrown d0
            have d1' := cell_regrown d1
            have d2' := cell_regrown d2
            have d3' := cell_regrown d3
            refine wp_region_quiet_below (by kernel_rfl) (by kernel_rfl) ?_
            repeat (go_big_quiet_step (first
             | (go_at_call 8; with_reducible exact Calls.regrown_of (CW.out _ _))))
            refine wpQuiet_nil ?_
            intro _ hw'
            obtain ⟨⟨dq, osq⟩, hw''⟩ := hw'
            subst hw''
            go_wp2
            go_ret
            exact ⟨rfl, keepb HB8.out (below_regrown _ _ _)⟩
           ·
            skip
            have CW := Lib.hid (fun (dq : Nat) (os : Array Obj) => show Calls Try.prog 8 #[] (grow (redrawn w5 dq) os) fun e w' => e = .returned (.bool true) ∧ Below (grow (redrawn w5 dq) os).heap.size (grow (redrawn w5 dq) os) w' from awake7_any HWW.out HAA.out _)
            obtain ⟨d0, d1, d2, d3, -⟩ := F3_8.out.four
            have dl := F3_8.out.lt
            obtain ⟨b0, off0, xo, xc, m0, hk0, hl0, y0, y1, y2, y3, y4, y5, y6, hX⟩ := kid_cells hK (k := 0) rfl
            obtain ⟨b1, off1, yo, yc, m1, hk1, hl1, z0, z1, z2, z3, z4, z5, z6, hY⟩ := kid_cells hK (k := 1) rfl
            rw [hk0] at hk1
            injection hk1 with hk1
            injection hk1 with hk1 hk2
            subst hk1 hk2
            subst hk0
            clear hl1 hK
            simp only [Nat.zero_mul, Nat.add_zero] at y0 y1 y2 y3 y4 y5 y6
            have KX := Lib.hid (HasK.fit HRX.out.fitw hX)
            have KY := Lib.hid (HasK.fit HRY.out.fitw hY)
            clear hX hY
            have CS := Lib.hid (fun (dq : Nat) (os : Array Obj) => show Calls Try.prog 10 #[.agg #[.int .i64 x.op, .string x.text, .int .u64 x.s0, .int .u64 x.s1, .int .u64 x.s2, .int .u64 x.s3, .slice xo x.kids.length xc], .agg #[.int .i64 x.op, .string x.text, .int .u64 x.s0, .int .u64 x.s1, .int .u64 x.s2, .int .u64 x.s3, .slice ko1 x.kids.length kc1]] (grow (redrawn w5 dq) os) fun e w' => e = .returned (.bool true) ∧ Below (grow (redrawn w5 dq) os).heap.size (grow (redrawn w5 dq) os) w' from same_own HRX.out.wide _ (HasK.below (below_regrown w5 dq os) KX.out) (HasK.below (below_regrown w5 dq os) K1_8.out))
            have CT := Lib.hid (fun (dq : Nat) (os : Array Obj) => show Calls Try.prog 10 #[.agg #[.int .i64 y.op, .string y.text, .int .u64 y.s0, .int .u64 y.s1, .int .u64 y.s2, .int .u64 y.s3, .slice yo y.kids.length yc], .agg #[.int .i64 y.op, .string y.text, .int .u64 y.s0, .int .u64 y.s1, .int .u64 y.s2, .int .u64 y.s3, .slice ko2 y.kids.length kc2]] (grow (redrawn w5 dq) os) fun e w' => e = .returned (.bool true) ∧ Below (grow (redrawn w5 dq) os).heap.size (grow (redrawn w5 dq) os) w' from same_own HRY.out.wide _ (HasK.below (below_regrown w5 dq os) KY.out) (HasK.below (below_regrown w5 dq os) K2_8.out))
            obtain ⟨a0, a1, a2, a3, a4, a5, a6⟩ := A1_8.out.seven
            have al := A1_8.out.lt
            obtain ⟨b0, b1, b2, b3, b4, b5, b6⟩ := A2_8.out.seven
            have bl := A2_8.out.lt
            obtain ⟨c0, c1, c2, c3, c4, c5, c6⟩ := A3_8.out.seven
            have cl := A3_8.out.lt
            have d0' := cell_regrown d0
            have d1' := cell_regrown d1
            have d2' := cell_regrown d2
            have d3' := cell_regrown d3
            have a0' := cell_regrown a0
            have a1' := cell_regrown a1
            have a2' := cell_regrown a2
            have a3' := cell_regrown a3
            have a4' := cell_regrown a4
            have a5' := cell_regrown a5
            have a6' := cell_regrown a6
            have b0' := cell_regrown b0
            have b1' := cell_regrown b1
            have b2' := cell_regrown b2
            have b3' := cell_regrown b3
            have b4' := cell_regrown b4
            have b5' := cell_regrown b5
            have b6' := cell_regrown b6
            have c0' := cell_regrown c0
            have c1' := cell_regrown c1
            have c2' := cell_regrown c2
            have c3' := cell_regrown c3
            have c4' := cell_regrown c4
            have c5' := cell_regrown c5
            have c6' := cell_regrown c6
            have y0' := cell_regrown y0
            have y1' := cell_regrown y1
            have y2' := cell_regrown y2
            have y3' := cell_regrown y3
            have y4' := cell_regrown y4
            have y5' := cell_regrown y5
            have y6' := cell_regrown y6
            have z0' := cell_regrown z0
            have z1' := cell_regrown z1
            have z2' := cell_regrown z2
            have z3' := cell_regrown z3
            have z4' := cell_regrown z4
            have z5' := cell_regrown z5
            have z6' := cell_regrown z6
            refine wp_region_quiet_below (by kernel_rfl) (by kernel_rfl) ?_
            repeat (go_big_quiet_step (first
             | (go_at_call 8; with_reducible exact Calls.regrown_of (CW.out _ _))
             | (go_at_call 10; with_reducible exact Calls.regrown_of (CS.out _ _))
             | (go_at_call 10; with_reducible exact Calls.regrown_of (CT.out _ _))))
            refine wpQuiet_nil ?_
            intro _ hw'
            obtain ⟨⟨dq, osq⟩, hw''⟩ := hw'
            subst hw''
            go_wp2
            go_ret
            exact ⟨rfl, keepb HB8.out (below_regrown _ _ _)⟩
  ·
   go_enter Try.func4, Try.ntmps4
   go_wp2_with fail
   refine (awake7_any HWW.out HAA.out _).mono ?_
   rintro e w9 ⟨rfl, hb9⟩
   go_wp2
   go_ret
   exact ⟨rfl, hb9⟩
 ·
  go_enter Try.func4, Try.ntmps4
  go_wp2_with fail
  refine (awake7_any HWW.out HAA.out _).mono ?_
  rintro e w9 ⟨rfl, hb9⟩
  go_wp2
  go_ret
  exact ⟨rfl, hb9⟩
end Go.Proofs.Ytonknapfndaalaa
