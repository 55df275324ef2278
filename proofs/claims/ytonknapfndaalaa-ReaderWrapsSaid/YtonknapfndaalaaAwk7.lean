/- The law's own word awake of layer 7; the program's parse, by its ends. -/
import Derived.Test.YtonknapfndaalaaKrf
import Derived.Test.YtonknapfndaalaaKrg
namespace Go.Proofs.Ytonknapfndaalaa
set_option linter.unusedVariables false
set_option maxRecDepth 1000000
open Go.RowKit Go.Sort
section
variable {v : ByteArray}
theorem rps_ok (HW : WordOk) (HALL : AllOk) {x : Ex} (hs : v.size ≤ 4000) (h : psO v = .ok x) (W : World) :
  Calls Try.prog 9 #[.string v] W fun e w' => (∃ ko kc n, e = .returned (.tuple #[exv x ko kc, .agg #[.int .i64 0, .int .i64 0, .int .i64 0, .int .i64 0]]) ∧ HasE w' W.heap.size n ko x.kids) ∧ Below W.heap.size W w' := by
 have := rq_parse HW HALL v hs W
 rw [h] at this
 exact this
theorem rps_no (HW : WordOk) (HALL : AllOk) {f : Int × Int} (hs : v.size ≤ 4000) (h : psO v = .error f) (W : World) :
  Calls Try.prog 9 #[.string v] W fun e w' => (e = .returned (.tuple #[.agg #[.int .i64 0, .string ⟨#[]⟩, .int .u64 0, .int .u64 0, .int .u64 0, .int .u64 0, .slice none 0 0], .agg #[.int .i64 f.1, .int .i64 f.2, .int .i64 0, .int .i64 0]]) ∧ f.1 ≠ 0) ∧ Below W.heap.size W w' := by
 have := rq_parse HW HALL v hs W
 rw [h] at this
 exact this
/-- Whatever it is. -/
theorem rps_any (HW : WordOk) (HALL : AllOk) (hs : v.size ≤ 4000) (W : World) :
  Calls Try.prog 9 #[.string v] W fun e w' => (∃ o tx q0 q1 q2 q3 ko nk kc f1 f2, e = .returned (.tuple #[.agg #[.int .i64 o, .string tx, .int .u64 q0, .int .u64 q1, .int .u64 q2, .int .u64 q3, .slice ko nk kc], .agg #[.int .i64 f1, .int .i64 f2, .int .i64 0, .int .i64 0]])) ∧ Below W.heap.size W w' := by
 refine (rq_parse HW HALL v hs W).mono ?_
 rintro e w' ⟨he, hb⟩
 refine ⟨?_, hb⟩
 cases h : psO v with
 | error f => rw [h] at he; exact ⟨0, ⟨#[]⟩, 0, 0, 0, 0, none, 0, 0, f.1, f.2, he.1⟩
 | ok x =>
  rw [h] at he
  obtain ⟨ko, kc, n, he, -⟩ := he
  exact ⟨x.op, x.text, x.s0, x.s1, x.s2, x.s3, ko, x.kids.length, kc, 0, 0, he⟩
end
/-- The cells of one of two parts. -/
theorem kid_cells {w : World} {n : Nat} {ko : Option Addr} {K : List Ex} (h : HasK w n ko K) {k : Nat} {x : Ex} (hk : K[k]? = some x) : ∃ b off xo xc m, ko = some ⟨b, off, none⟩ ∧ b < w.heap.size ∧
  w.cell? ⟨b, off + k * 7, none⟩ = some (.int .i64 x.op) ∧ w.cell? ⟨b, off + k * 7 + 1, none⟩ = some (.string x.text) ∧ w.cell? ⟨b, off + k * 7 + 2, none⟩ = some (.int .u64 x.s0) ∧ w.cell? ⟨b, off + k * 7 + 3, none⟩ = some (.int .u64 x.s1) ∧ w.cell? ⟨b, off + k * 7 + 4, none⟩ = some (.int .u64 x.s2) ∧ w.cell? ⟨b, off + k * 7 + 5, none⟩ = some (.int .u64 x.s3) ∧ w.cell? ⟨b, off + k * 7 + 6, none⟩ = some (.slice xo x.kids.length xc) ∧ HasK w m xo x.kids := by
 cases n with
 | zero =>
  have h : K = [] := h
  subst h
  simp at hk
 | succ n =>
  obtain ⟨b, off, xo, xc, e, hl, c0, c1, c2, c3, c4, c5, c6, hx⟩ := h k x hk
  exact ⟨b, off, xo, xc, n, e, hl, c0, c1, c2, c3, c4, c5, c6, hx⟩
set_option maxRecDepth 1000000 in
set_option maxHeartbeats 12800000 in
theorem awake7_any (HW : WordOk) (HALL : AllOk) (w : World) : Calls Try.prog 8 #[] w fun e w' => e = .returned (.bool true) ∧ Below w.heap.size w w' := by
 have HWW := Lib.hid HW
 have HAA := Lib.hid HALL
 clear HW HALL
 have C0 := Lib.hid (fun W => show Calls Try.prog 9 #[.string ⟨#[97, 32, 34, 120, 34, 42, 32, 47, 32, 126, 98, 126, 32, 99, 58, 100]⟩] W fun e w' => (∃ ko kc n, e = .returned (.tuple #[.agg #[.int .i64 5, .string ⟨#[]⟩, .int .u64 0, .int .u64 0, .int .u64 0, .int .u64 0, .slice ko 2 kc], .agg #[.int .i64 0, .int .i64 0, .int .i64 0, .int .i64 0]]) ∧ HasE w' W.heap.size n ko [.mk 4 ⟨#[]⟩ 0 0 0 0 [.mk 11 ⟨#[97]⟩ 0 0 0 0 [], .mk 6 ⟨#[]⟩ 0 0 0 0 [.mk 1 ⟨#[120]⟩ 0 0 0 0 []]], .mk 4 ⟨#[]⟩ 0 0 0 0 [.mk 13 ⟨#[]⟩ 0 0 0 0 [.mk 11 ⟨#[98]⟩ 0 0 0 0 []], .mk 12 ⟨#[99]⟩ 0 0 0 0 [.mk 11 ⟨#[100]⟩ 0 0 0 0 []]]]) ∧ Below W.heap.size W w' from rps_ok HWW.out HAA.out (by decide) aw7_a W)
 have C1 := Lib.hid (fun W => show Calls Try.prog 9 #[.string ⟨#[97, 32, 47, 32]⟩] W fun e w' => (e = .returned (.tuple #[.agg #[.int .i64 0, .string ⟨#[]⟩, .int .u64 0, .int .u64 0, .int .u64 0, .int .u64 0, .slice none 0 0], .agg #[.int .i64 2, .int .i64 4, .int .i64 0, .int .i64 0]]) ∧ ((2 : Int), (4 : Int)).1 ≠ 0) ∧ Below W.heap.size W w' from rps_no HWW.out HAA.out (by decide) aw7_g W)
 have C2 := Lib.hid (fun W => show Calls Try.prog 9 #[.string ⟨#[97, 32, 41]⟩] W fun e w' => (e = .returned (.tuple #[.agg #[.int .i64 0, .string ⟨#[]⟩, .int .u64 0, .int .u64 0, .int .u64 0, .int .u64 0, .slice none 0 0], .agg #[.int .i64 2, .int .i64 2, .int .i64 0, .int .i64 0]]) ∧ ((2 : Int), (2 : Int)).1 ≠ 0) ∧ Below W.heap.size W w' from rps_no HWW.out HAA.out (by decide) aw7_h W)
 have C3 := Lib.hid (fun W => show Calls Try.prog 9 #[.string ⟨#[126, 97, 32, 98, 126]⟩] W fun e w' => (e = .returned (.tuple #[.agg #[.int .i64 0, .string ⟨#[]⟩, .int .u64 0, .int .u64 0, .int .u64 0, .int .u64 0, .slice none 0 0], .agg #[.int .i64 2, .int .i64 3, .int .i64 0, .int .i64 0]]) ∧ ((2 : Int), (3 : Int)).1 ≠ 0) ∧ Below W.heap.size W w' from rps_no HWW.out HAA.out (by decide) aw7_i W)
 have C4 := Lib.hid (fun W => show Calls Try.prog 9 #[.string ⟨#[40, 40, 40, 40, 40, 40, 40, 40, 40, 40, 40, 40, 40, 97, 41, 41, 41, 41, 41, 41, 41, 41, 41, 41, 41, 41, 41]⟩] W fun e w' => (e = .returned (.tuple #[.agg #[.int .i64 0, .string ⟨#[]⟩, .int .u64 0, .int .u64 0, .int .u64 0, .int .u64 0, .slice none 0 0], .agg #[.int .i64 3, .int .i64 12, .int .i64 0, .int .i64 0]]) ∧ ((3 : Int), (12 : Int)).1 ≠ 0) ∧ Below W.heap.size W w' from rps_no HWW.out HAA.out (by decide) aw7_j W)
 have C5 := Lib.hid (fun W => show Calls Try.prog 9 #[.string ⟨#[40, 40, 40, 40, 40, 40, 40, 40, 40, 40, 40, 40, 97, 41, 41, 41, 41, 41, 41, 41, 41, 41, 41, 41, 41]⟩] W fun e w' => (∃ ko kc n, e = .returned (.tuple #[.agg #[.int .i64 11, .string ⟨#[97]⟩, .int .u64 0, .int .u64 0, .int .u64 0, .int .u64 0, .slice ko 0 kc], .agg #[.int .i64 0, .int .i64 0, .int .i64 0, .int .i64 0]]) ∧ HasE w' W.heap.size n ko []) ∧ Below W.heap.size W w' from rps_ok HWW.out HAA.out (by decide) aw7_k W)
 go_enter Try.func8, Try.ntmps8
 go_wp2_with fail
 refine (C0.out _).mono ?_
 rintro e w0 ⟨⟨ko0, kc0, n0, rfl, hE0⟩, hb⟩
 have HB1 := Lib.hid (hb)
 clear hb
 obtain ⟨wa0, wb0, hs1, hs2, hbd, ho1, ho2⟩ := put_two w0 5 ⟨#[]⟩ 0 0 0 0 ko0 2 kc0 0 0
 have K0_1 := Lib.hid (hE0.hask)
 have HB2 := Lib.hid (keepb HB1.out hbd)
 have K0_2 := Lib.hid (HasK.below hbd K0_1.out)
 clear HB1 K0_1 hbd
 have A0_2 := Lib.hid (ho1)
 have F0_2 := Lib.hid (ho2)
 have HS1 := Lib.hid hs1
 have HS2 := Lib.hid hs2
 clear hs1 hs2 ho1 ho2
 go_wp2_with (first | (with_reducible refine wpList_store_lit (.pointer (some ⟨w0.heap.size, 0, none⟩)) (.agg #[.int .i64 5, .string ⟨#[]⟩, .int .u64 0, .int .u64 0, .int .u64 0, .int .u64 0, .slice ko0 2 kc0]) HS1.out ?_ ?_ ?_) | (with_reducible refine wpList_store_lit (.pointer (some ⟨w0.heap.size + 1, 0, none⟩)) (.agg #[.int .i64 0, .int .i64 0, .int .i64 0, .int .i64 0]) HS2.out ?_ ?_ ?_))
 ·
  rfl
 ·
  rfl
 ·
  rfl
 ·
  rfl
 clear HS1 HS2
 clear hE0
 clear C0
 go_wp2_with fail
 refine (C1.out _).mono ?_
 rintro e w1 ⟨⟨rfl, -⟩, hb⟩
 have HB3 := Lib.hid (keepb HB2.out hb)
 have K0_3 := Lib.hid (HasK.below hb K0_2.out)
 have A0_3 := Lib.hid (own_move A0_2.out hb)
 have F0_3 := Lib.hid (own_move F0_2.out hb)
 clear HB2 K0_2 A0_2 F0_2 hb
 obtain ⟨wa1, wb1, hs1, hs2, hbd, ho1, ho2⟩ := put_two w1 0 ⟨#[]⟩ 0 0 0 0 none 0 0 2 4
 have HB4 := Lib.hid (keepb HB3.out hbd)
 have K0_4 := Lib.hid (HasK.below hbd K0_3.out)
 have A0_4 := Lib.hid (own_move A0_3.out hbd)
 have F0_4 := Lib.hid (own_move F0_3.out hbd)
 clear HB3 K0_3 A0_3 F0_3 hbd
 have A1_4 := Lib.hid (ho1)
 have F1_4 := Lib.hid (ho2)
 have HS1 := Lib.hid hs1
 have HS2 := Lib.hid hs2
 clear hs1 hs2 ho1 ho2
 go_wp2_with (first | (with_reducible refine wpList_store_lit (.pointer (some ⟨w1.heap.size, 0, none⟩)) (.agg #[.int .i64 0, .string ⟨#[]⟩, .int .u64 0, .int .u64 0, .int .u64 0, .int .u64 0, .slice none 0 0]) HS1.out ?_ ?_ ?_) | (with_reducible refine wpList_store_lit (.pointer (some ⟨w1.heap.size + 1, 0, none⟩)) (.agg #[.int .i64 2, .int .i64 4, .int .i64 0, .int .i64 0]) HS2.out ?_ ?_ ?_))
 ·
  rfl
 ·
  rfl
 ·
  rfl
 ·
  rfl
 clear HS1 HS2
 clear C1
 go_wp2_with fail
 refine (C2.out _).mono ?_
 rintro e w2 ⟨⟨rfl, -⟩, hb⟩
 have HB5 := Lib.hid (keepb HB4.out hb)
 have K0_5 := Lib.hid (HasK.below hb K0_4.out)
 have A0_5 := Lib.hid (own_move A0_4.out hb)
 have F0_5 := Lib.hid (own_move F0_4.out hb)
 have A1_5 := Lib.hid (own_move A1_4.out hb)
 have F1_5 := Lib.hid (own_move F1_4.out hb)
 clear HB4 K0_4 A0_4 F0_4 A1_4 F1_4 hb
 obtain ⟨wa2, wb2, hs1, hs2, hbd, ho1, ho2⟩ := put_two w2 0 ⟨#[]⟩ 0 0 0 0 none 0 0 2 2
 have HB6 := Lib.hid (keepb HB5.out hbd)
 have K0_6 := Lib.hid (HasK.below hbd K0_5.out)
 have A0_6 := Lib.hid (own_move A0_5.out hbd)
 have F0_6 := Lib.hid (own_move F0_5.out hbd)
 have A1_6 := Lib.hid (own_move A1_5.out hbd)
 have F1_6 := Lib.hid (own_move F1_5.out hbd)
 clear HB5 K0_5 A0_5 F0_5 A1_5 F1_5 hbd
 have A2_6 := Lib.hid (ho1)
 have F2_6 := Lib.hid (ho2)
 have HS1 := Lib.hid hs1
 have HS2 := Lib.hid hs2
 clear hs1 hs2 ho1 ho2
 go_wp2_with (first | (with_reducible refine wpList_store_lit (.pointer (some ⟨w2.heap.size, 0, none⟩)) (.agg #[.int .i64 0, .string ⟨#[]⟩, .int .u64 0, .int .u64 0, .int .u64 0, .int .u64 0, .slice none 0 0]) HS1.out ?_ ?_ ?_) | (with_reducible refine wpList_store_lit (.pointer (some ⟨w2.heap.size + 1, 0, none⟩)) (.agg #[.int .i64 2, .int .i64 2, .int .i64 0, .int .i64 0]) HS2.out ?_ ?_ ?_))
 ·
  rfl
 ·
  rfl
 ·
  rfl
 ·
  rfl
 clear HS1 HS2
 clear C2
 go_wp2_with fail
 refine (C3.out _).mono ?_
 rintro e w3 ⟨⟨rfl, -⟩, hb⟩
 have HB7 := Lib.hid (keepb HB6.out hb)
 have K0_7 := Lib.hid (HasK.below hb K0_6.out)
 have A0_7 := Lib.hid (own_move A0_6.out hb)
 have F0_7 := Lib.hid (own_move F0_6.out hb)
 have A1_7 := Lib.hid (own_move A1_6.out hb)
 have F1_7 := Lib.hid (own_move F1_6.out hb)
 have A2_7 := Lib.hid (own_move A2_6.out hb)
 have F2_7 := Lib.hid (own_move F2_6.out hb)
 clear HB6 K0_6 A0_6 F0_6 A1_6 F1_6 A2_6 F2_6 hb
 obtain ⟨wa3, wb3, hs1, hs2, hbd, ho1, ho2⟩ := put_two w3 0 ⟨#[]⟩ 0 0 0 0 none 0 0 2 3
 have HB8 := Lib.hid (keepb HB7.out hbd)
 have K0_8 := Lib.hid (HasK.below hbd K0_7.out)
 have A0_8 := Lib.hid (own_move A0_7.out hbd)
 have F0_8 := Lib.hid (own_move F0_7.out hbd)
 have A1_8 := Lib.hid (own_move A1_7.out hbd)
 have F1_8 := Lib.hid (own_move F1_7.out hbd)
 have A2_8 := Lib.hid (own_move A2_7.out hbd)
 have F2_8 := Lib.hid (own_move F2_7.out hbd)
 clear HB7 K0_7 A0_7 F0_7 A1_7 F1_7 A2_7 F2_7 hbd
 have A3_8 := Lib.hid (ho1)
 have F3_8 := Lib.hid (ho2)
 have HS1 := Lib.hid hs1
 have HS2 := Lib.hid hs2
 clear hs1 hs2 ho1 ho2
 go_wp2_with (first | (with_reducible refine wpList_store_lit (.pointer (some ⟨w3.heap.size, 0, none⟩)) (.agg #[.int .i64 0, .string ⟨#[]⟩, .int .u64 0, .int .u64 0, .int .u64 0, .int .u64 0, .slice none 0 0]) HS1.out ?_ ?_ ?_) | (with_reducible refine wpList_store_lit (.pointer (some ⟨w3.heap.size + 1, 0, none⟩)) (.agg #[.int .i64 2, .int .i64 3, .int .i64 0, .int .i64 0]) HS2.out ?_ ?_ ?_))
 ·
  rfl
 ·
  rfl
 ·
  rfl
 ·
  rfl
 clear HS1 HS2
 clear C3
 go_wp2_with fail
 refine (C4.out _).mono ?_
 rintro e w4 ⟨⟨rfl, -⟩, hb⟩
 have HB9 := Lib.hid (keepb HB8.out hb)
 have K0_9 := Lib.hid (HasK.below hb K0_8.out)
 have A0_9 := Lib.hid (own_move A0_8.out hb)
 have F0_9 := Lib.hid (own_move F0_8.out hb)
 have A1_9 := Lib.hid (own_move A1_8.out hb)
 have F1_9 := Lib.hid (own_move F1_8.out hb)
 have A2_9 := Lib.hid (own_move A2_8.out hb)
 have F2_9 := Lib.hid (own_move F2_8.out hb)
 have A3_9 := Lib.hid (own_move A3_8.out hb)
 have F3_9 := Lib.hid (own_move F3_8.out hb)
 clear HB8 K0_8 A0_8 F0_8 A1_8 F1_8 A2_8 F2_8 A3_8 F3_8 hb
 obtain ⟨wa4, wb4, hs1, hs2, hbd, ho1, ho2⟩ := put_two w4 0 ⟨#[]⟩ 0 0 0 0 none 0 0 3 12
 have HB10 := Lib.hid (keepb HB9.out hbd)
 have K0_10 := Lib.hid (HasK.below hbd K0_9.out)
 have A0_10 := Lib.hid (own_move A0_9.out hbd)
 have F0_10 := Lib.hid (own_move F0_9.out hbd)
 have A1_10 := Lib.hid (own_move A1_9.out hbd)
 have F1_10 := Lib.hid (own_move F1_9.out hbd)
 have A2_10 := Lib.hid (own_move A2_9.out hbd)
 have F2_10 := Lib.hid (own_move F2_9.out hbd)
 have A3_10 := Lib.hid (own_move A3_9.out hbd)
 have F3_10 := Lib.hid (own_move F3_9.out hbd)
 clear HB9 K0_9 A0_9 F0_9 A1_9 F1_9 A2_9 F2_9 A3_9 F3_9 hbd
 have A4_10 := Lib.hid (ho1)
 have F4_10 := Lib.hid (ho2)
 have HS1 := Lib.hid hs1
 have HS2 := Lib.hid hs2
 clear hs1 hs2 ho1 ho2
 go_wp2_with (first | (with_reducible refine wpList_store_lit (.pointer (some ⟨w4.heap.size, 0, none⟩)) (.agg #[.int .i64 0, .string ⟨#[]⟩, .int .u64 0, .int .u64 0, .int .u64 0, .int .u64 0, .slice none 0 0]) HS1.out ?_ ?_ ?_) | (with_reducible refine wpList_store_lit (.pointer (some ⟨w4.heap.size + 1, 0, none⟩)) (.agg #[.int .i64 3, .int .i64 12, .int .i64 0, .int .i64 0]) HS2.out ?_ ?_ ?_))
 ·
  rfl
 ·
  rfl
 ·
  rfl
 ·
  rfl
 clear HS1 HS2
 clear C4
 go_wp2_with fail
 refine (C5.out _).mono ?_
 rintro e w5 ⟨⟨ko5, kc5, n5, rfl, hE5⟩, hb⟩
 have HB11 := Lib.hid (keepb HB10.out hb)
 have K0_11 := Lib.hid (HasK.below hb K0_10.out)
 have A0_11 := Lib.hid (own_move A0_10.out hb)
 have F0_11 := Lib.hid (own_move F0_10.out hb)
 have A1_11 := Lib.hid (own_move A1_10.out hb)
 have F1_11 := Lib.hid (own_move F1_10.out hb)
 have A2_11 := Lib.hid (own_move A2_10.out hb)
 have F2_11 := Lib.hid (own_move F2_10.out hb)
 have A3_11 := Lib.hid (own_move A3_10.out hb)
 have F3_11 := Lib.hid (own_move F3_10.out hb)
 have A4_11 := Lib.hid (own_move A4_10.out hb)
 have F4_11 := Lib.hid (own_move F4_10.out hb)
 clear HB10 K0_10 A0_10 F0_10 A1_10 F1_10 A2_10 F2_10 A3_10 F3_10 A4_10 F4_10 hb
 obtain ⟨wa5, wb5, hs1, hs2, hbd, ho1, ho2⟩ := put_two w5 11 ⟨#[97]⟩ 0 0 0 0 ko5 0 kc5 0 0
 have HB12 := Lib.hid (keepb HB11.out hbd)
 have K0_12 := Lib.hid (HasK.below hbd K0_11.out)
 have A0_12 := Lib.hid (own_move A0_11.out hbd)
 have F0_12 := Lib.hid (own_move F0_11.out hbd)
 have A1_12 := Lib.hid (own_move A1_11.out hbd)
 have F1_12 := Lib.hid (own_move F1_11.out hbd)
 have A2_12 := Lib.hid (own_move A2_11.out hbd)
 have F2_12 := Lib.hid (own_move F2_11.out hbd)
 have A3_12 := Lib.hid (own_move A3_11.out hbd)
 have F3_12 := Lib.hid (own_move F3_11.out hbd)
 have A4_12 := Lib.hid (own_move A4_11.out hbd)
 have F4_12 := Lib.hid (own_move F4_11.out hbd)
 clear HB11 K0_11 A0_11 F0_11 A1_11 F1_11 A2_11 F2_11 A3_11 F3_11 A4_11 F4_11 hbd
 have A5_12 := Lib.hid (ho1)
 have F5_12 := Lib.hid (ho2)
 have HS1 := Lib.hid hs1
 have HS2 := Lib.hid hs2
 clear hs1 hs2 ho1 ho2
 go_wp2_with (first | (with_reducible refine wpList_store_lit (.pointer (some ⟨w5.heap.size, 0, none⟩)) (.agg #[.int .i64 11, .string ⟨#[97]⟩, .int .u64 0, .int .u64 0, .int .u64 0, .int .u64 0, .slice ko5 0 kc5]) HS1.out ?_ ?_ ?_) | (with_reducible refine wpList_store_lit (.pointer (some ⟨w5.heap.size + 1, 0, none⟩)) (.agg #[.int .i64 0, .int .i64 0, .int .i64 0, .int .i64 0]) HS2.out ?_ ?_ ?_))
 ·
  rfl
 ·
  rfl
 ·
  rfl
 ·
  rfl
 clear HS1 HS2
 clear hE5
 clear C5
 have CL := Lib.hid (fun W => show Calls Try.prog 17 #[.string ⟨#[97, 59, 32, 98]⟩] W fun e w' => (∃ lo lc, e = .returned (.tuple #[.slice lo 4 lc, .agg #[.int .i64 0, .int .i64 0, .int .i64 0, .int .i64 0]]) ∧ HasT w' lo [⟨1, ⟨#[97]⟩, set0, 0⟩, ⟨4, ⟨#[59]⟩, set0, 1⟩, ⟨1, ⟨#[98]⟩, set0, 3⟩, ⟨0, ⟨#[]⟩, set0, 4⟩]) ∧ Below W.heap.size W w' from by
  refine (rall_any ⟨#[97, 59, 32, 98]⟩ (by decide) W).mono ?_
  rintro e w' ⟨he, hb⟩
  rw [aw7_l] at he
  obtain ⟨v, rfl, ho⟩ := he
  obtain ⟨lo, lc, rfl⟩ := own7_form ho
  exact ⟨⟨lo, lc, rfl, own7_has ho⟩, hb⟩)
 go_wp2_with fail
 refine (CL.out _).mono ?_
 rintro e w6 ⟨⟨lo, lc, rfl, hT⟩, hb⟩
 have HB13 := Lib.hid (keepb HB12.out hb)
 have K0_13 := Lib.hid (HasK.below hb K0_12.out)
 have A0_13 := Lib.hid (own_move A0_12.out hb)
 have F0_13 := Lib.hid (own_move F0_12.out hb)
 have A1_13 := Lib.hid (own_move A1_12.out hb)
 have F1_13 := Lib.hid (own_move F1_12.out hb)
 have A2_13 := Lib.hid (own_move A2_12.out hb)
 have F2_13 := Lib.hid (own_move F2_12.out hb)
 have A3_13 := Lib.hid (own_move A3_12.out hb)
 have F3_13 := Lib.hid (own_move F3_12.out hb)
 have A4_13 := Lib.hid (own_move A4_12.out hb)
 have F4_13 := Lib.hid (own_move F4_12.out hb)
 have A5_13 := Lib.hid (own_move A5_12.out hb)
 have F5_13 := Lib.hid (own_move F5_12.out hb)
 clear HB12 K0_12 A0_12 F0_12 A1_12 F1_12 A2_12 F2_12 A3_12 F3_12 A4_12 F4_12 A5_12 F5_12 hb
 clear CL
 have hbl : Below w6.heap.size w6 (w6.alloc (.cells #[.int .i64 0, .int .i64 0, .int .i64 0, .int .i64 0] 31)) := (Below.refl _ _).alloc (Nat.le_refl _) _
 have HT := Lib.hid (HasT.below hT hbl)
 clear hT
 have HB14 := Lib.hid (keepb HB13.out hbl)
 have K0_14 := Lib.hid (HasK.below hbl K0_13.out)
 have A0_14 := Lib.hid (own_move A0_13.out hbl)
 have F0_14 := Lib.hid (own_move F0_13.out hbl)
 have A1_14 := Lib.hid (own_move A1_13.out hbl)
 have F1_14 := Lib.hid (own_move F1_13.out hbl)
 have A2_14 := Lib.hid (own_move A2_13.out hbl)
 have F2_14 := Lib.hid (own_move F2_13.out hbl)
 have A3_14 := Lib.hid (own_move A3_13.out hbl)
 have F3_14 := Lib.hid (own_move F3_13.out hbl)
 have A4_14 := Lib.hid (own_move A4_13.out hbl)
 have F4_14 := Lib.hid (own_move F4_13.out hbl)
 have A5_14 := Lib.hid (own_move A5_13.out hbl)
 have F5_14 := Lib.hid (own_move F5_13.out hbl)
 clear HB13 K0_13 A0_13 F0_13 A1_13 F1_13 A2_13 F2_13 A3_13 F3_13 A4_13 F4_13 A5_13 F5_13 hbl
 have CR := Lib.hid (fun W (h : HasT W lo [⟨1, ⟨#[97]⟩, set0, 0⟩, ⟨4, ⟨#[59]⟩, set0, 1⟩, ⟨1, ⟨#[98]⟩, set0, 3⟩, ⟨0, ⟨#[]⟩, set0, 4⟩]) => show Calls Try.prog 18 #[.slice lo 4 lc, .int .i64 0] W fun e w' => (∃ ko kc, e = .returned (.tuple #[.agg #[.int .i64 11, .string ⟨#[97]⟩, .int .u64 0, .int .u64 0, .int .u64 0, .int .u64 0, .slice ko 0 kc], .int .i64 1, .agg #[.int .i64 0, .int .i64 0, .int .i64 0, .int .i64 0]])) ∧ Below W.heap.size W w' from by
  refine (rq_read HWW.out lo lc [⟨1, ⟨#[97]⟩, set0, 0⟩, ⟨4, ⟨#[59]⟩, set0, 1⟩, ⟨1, ⟨#[98]⟩, set0, 3⟩, ⟨0, ⟨#[]⟩, set0, 4⟩] 0 (by decide) (by decide) ?_ ?_ W h).mono ?_
  ·
   intro j hj
   rcases Nat.lt_or_ge j 3 with g | g
   ·
    show j + 1 < 4; omega
   ·
    exfalso; apply hj
    rcases Nat.lt_or_ge j 4 with q | q
    ·
     obtain rfl : j = 3 := by omega
     rfl
    ·
     rw [tkA_out (by show 4 ≤ j; exact q)]; rfl
  ·
   intro t ht
   simp only [List.mem_cons, List.not_mem_nil, or_false] at ht
   rcases ht with rfl | rfl | rfl | rfl <;> decide
  ·
   rintro e w' ⟨he, hb⟩
   rw [aw7_m] at he
   obtain ⟨ko, kc, n, rfl, -⟩ := he
   exact ⟨⟨ko, kc, rfl⟩, hb⟩)
 go_upto_region 8 with fail
 generalize w6.alloc _ = w7 at *
 go_wp2_with fail
 refine (CR.out _ HT.out).mono ?_
 rintro e w8 ⟨⟨ko8, kc8, rfl⟩, hb⟩
 have HB15 := Lib.hid (keepb HB14.out hb)
 have K0_15 := Lib.hid (HasK.below hb K0_14.out)
 have A0_15 := Lib.hid (own_move A0_14.out hb)
 have F0_15 := Lib.hid (own_move F0_14.out hb)
 have A1_15 := Lib.hid (own_move A1_14.out hb)
 have F1_15 := Lib.hid (own_move F1_14.out hb)
 have A2_15 := Lib.hid (own_move A2_14.out hb)
 have F2_15 := Lib.hid (own_move F2_14.out hb)
 have A3_15 := Lib.hid (own_move A3_14.out hb)
 have F3_15 := Lib.hid (own_move F3_14.out hb)
 have A4_15 := Lib.hid (own_move A4_14.out hb)
 have F4_15 := Lib.hid (own_move F4_14.out hb)
 have A5_15 := Lib.hid (own_move A5_14.out hb)
 have F5_15 := Lib.hid (own_move F5_14.out hb)
 clear HB14 K0_14 A0_14 F0_14 A1_14 F1_14 A2_14 F2_14 A3_14 F3_14 A4_14 F4_14 A5_14 F5_14 hb
 clear CR HT HWW HAA
 obtain ⟨wa8, wb8, hs1, hs2, hbd, ho1, ho2⟩ := put_two w8 11 ⟨#[97]⟩ 0 0 0 0 ko8 0 kc8 0 0
 have HB16 := Lib.hid (keepb HB15.out hbd)
 have K0_16 := Lib.hid (HasK.below hbd K0_15.out)
 have A0_16 := Lib.hid (own_move A0_15.out hbd)
 have F0_16 := Lib.hid (own_move F0_15.out hbd)
 have A1_16 := Lib.hid (own_move A1_15.out hbd)
 have F1_16 := Lib.hid (own_move F1_15.out hbd)
 have A2_16 := Lib.hid (own_move A2_15.out hbd)
 have F2_16 := Lib.hid (own_move F2_15.out hbd)
 have A3_16 := Lib.hid (own_move A3_15.out hbd)
 have F3_16 := Lib.hid (own_move F3_15.out hbd)
 have A4_16 := Lib.hid (own_move A4_15.out hbd)
 have F4_16 := Lib.hid (own_move F4_15.out hbd)
 have A5_16 := Lib.hid (own_move A5_15.out hbd)
 have F5_16 := Lib.hid (own_move F5_15.out hbd)
 clear HB15 K0_15 A0_15 F0_15 A1_15 F1_15 A2_15 F2_15 A3_15 F3_15 A4_15 F4_15 A5_15 F5_15 hbd
 have A8_16 := Lib.hid (ho1)
 have F8_16 := Lib.hid (ho2)
 have HS1 := Lib.hid hs1
 have HS2 := Lib.hid hs2
 clear hs1 hs2 ho1 ho2
 obtain ⟨b0, off0, xo0, xc0, m0, hk0, hl0, y00, -, -, -, -, -, y06, -⟩ := kid_cells K0_16.out (k := 0) rfl
 obtain ⟨b1, off1, xo1, xc1, m1, hk1, hl1, y10, -, -, -, -, -, y16, hK1⟩ := kid_cells K0_16.out (k := 1) rfl
 rw [hk0] at hk1
 injection hk1 with hk1
 injection hk1 with hk1 hk2
 subst hk1 hk2
 subst hk0
 obtain ⟨b2, off2, xo2, xc2, m2, hk2, hl2, y20, -⟩ := kid_cells hK1 (k := 0) rfl
 obtain ⟨b3, off3, xo3, xc3, m3, hk3, hl3, -, y31, -⟩ := kid_cells hK1 (k := 1) rfl
 rw [hk2] at hk3
 injection hk3 with hk3
 injection hk3 with hk3 hk4
 subst hk3 hk4
 subst hk2
 clear hK1 hl1 hl3
 replace y00 : wb8.cell? ⟨b0, off0, none⟩ = some (.int .i64 4) := y00
 replace y20 : wb8.cell? ⟨b2, off2, none⟩ = some (.int .i64 13) := y20
 replace y31 : wb8.cell? ⟨b2, off2 + 1 * 7 + 1, none⟩ = some (.string ⟨#[99]⟩) := y31
 replace y16 : wb8.cell? ⟨b0, off0 + 1 * 7 + 6, none⟩ = some (.slice (some ⟨b2, off2, none⟩) 2 xc1) := y16
 clear y06
 obtain ⟨p0, p1, p2, p3, p4, p5, p6⟩ := A0_16.out.seven
 have pl := A0_16.out.lt
 obtain ⟨q0, q1, q2, q3, q4, q5, q6⟩ := A4_16.out.seven
 have ql := A4_16.out.lt
 obtain ⟨r0, r1, r2, r3, r4, r5, r6⟩ := A5_16.out.seven
 have rl := A5_16.out.lt
 obtain ⟨s0, s1, s2, s3, s4, s5, s6⟩ := A8_16.out.seven
 have sl := A8_16.out.lt
 obtain ⟨d0, d1, d2, d3, -⟩ := F0_16.out.four
 have dl := F0_16.out.lt
 obtain ⟨e0, e1, e2, e3, -⟩ := F1_16.out.four
 have el := F1_16.out.lt
 obtain ⟨f0, f1, f2, f3, -⟩ := F2_16.out.four
 have fl := F2_16.out.lt
 obtain ⟨g0, g1, g2, g3, -⟩ := F3_16.out.four
 have gl := F3_16.out.lt
 obtain ⟨h0, h1, h2, h3, -⟩ := F4_16.out.four
 have hl := F4_16.out.lt
 obtain ⟨i0, i1, i2, i3, -⟩ := F5_16.out.four
 have il := F5_16.out.lt
 obtain ⟨j0, j1, j2, j3, -⟩ := F8_16.out.four
 have jl := F8_16.out.lt
 go_wp2_with (first | (with_reducible refine wpList_store_lit (.pointer (some ⟨w8.heap.size, 0, none⟩)) (.agg #[.int .i64 11, .string ⟨#[97]⟩, .int .u64 0, .int .u64 0, .int .u64 0, .int .u64 0, .slice ko8 0 kc8]) HS1.out ?_ ?_ ?_) | (with_reducible refine wpList_store_lit (.pointer (some ⟨w8.heap.size + 1, 0, none⟩)) (.agg #[.int .i64 0, .int .i64 0, .int .i64 0, .int .i64 0]) HS2.out ?_ ?_ ?_))
 ·
  rfl
 ·
  rfl
 ·
  rfl
 ·
  rfl
 go_ret
 exact ⟨rfl, HB16.out⟩
end Go.Proofs.Ytonknapfndaalaa
