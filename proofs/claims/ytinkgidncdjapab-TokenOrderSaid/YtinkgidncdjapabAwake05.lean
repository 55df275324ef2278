/- The document's examples of layer 5, walked. -/
import Derived.Test.YtinkgidncdjapabTokI
namespace Go.Proofs.Ytinkgidncdjapab
set_option linter.unusedVariables false
open Go.RowKit Go.Sort

theorem all_ok {s : ByteArray} (hs : s.size ≤ 4000) {L : List Tok} (h : allO s = .ok L) (w : World) : Calls Try.prog 9 #[.string s] w
    fun e w' => (∃ ao cap, e = .returned (.tuple #[.slice ao L.length cap, .agg #[.int .i64 0, .int .i64 0, .int .i64 0, .int .i64 0]]) ∧ w'.ownsRow (w.heap.size + 1) 27 7 (.slice ao L.length cap) L.length (tokR L)) ∧ Below w.heap.size w w' := by
  refine (all_any s hs w).mono ?_
  rintro e w' ⟨he, hb⟩
  rw [h] at he
  obtain ⟨v, rfl, ho⟩ := he
  obtain ⟨ao, cap, rfl⟩ := own7_form ho
  exact ⟨⟨ao, cap, rfl, ho⟩, hb⟩
theorem all_no {s : ByteArray} (hs : s.size ≤ 4000) {k : Nat} (h : allO s = .error k) (w : World) : Calls Try.prog 9 #[.string s] w
    fun e w' => e = .returned (.tuple #[.slice none 0 0, .agg #[.int .i64 2, .int .i64 (k : Int), .int .i64 0, .int .i64 0]]) ∧ Below w.heap.size w w' := by
  refine (all_any s hs w).mono ?_
  rintro e w' ⟨he, hb⟩
  rw [h] at he
  exact ⟨he, hb⟩
def exL : List Tok := [⟨1, ⟨#[97, 49]⟩, (0, 0, 0, 0), 0⟩, ⟨4, ⟨#[61]⟩, (0, 0, 0, 0), 3⟩, ⟨2, ⟨#[120]⟩, (0, 0, 0, 0), 5⟩, ⟨4, ⟨#[47]⟩, (0, 0, 0, 0), 17⟩, ⟨3, ⟨#[]⟩, (0, 17179869184, 0, 0), 19⟩, ⟨4, ⟨#[58, 58]⟩, (0, 0, 0, 0), 22⟩, ⟨4, ⟨#[59]⟩, (0, 0, 0, 0), 24⟩, ⟨0, ⟨#[]⟩, (0, 0, 0, 0), 25⟩]
def errQ : Except Nat (List Tok) → Option Nat
  | .ok _ => none
  | .error k => some k
def okQ : Except Nat (List Tok) → Option (List Tok)
  | .ok L => some L
  | .error _ => none
theorem errQ_is {r : Except Nat (List Tok)} {k : Nat} (h : errQ r = some k) : r = .error k := by
  cases r
  · injection h with h; rw [h]
  · cases h
theorem okQ_is {r : Except Nat (List Tok)} {L : List Tok} (h : okQ r = some L) : r = .ok L := by
  cases r
  · cases h
  · injection h with h; rw [h]
theorem ex1 : allO ⟨#[97, 49, 32, 61, 32, 34, 120, 34, 32, 35, 32, 110, 111, 116, 101, 10, 32, 47, 32, 91, 98, 93, 58, 58, 59]⟩ = .ok exL := okQ_is (by decide +kernel)
theorem ex2 : allO ⟨#[97, 32, 36]⟩ = .error 2 := errQ_is (by decide +kernel)
theorem ex3 : allO ⟨#[97, 98, 99, 100, 101, 102, 103, 104, 105, 106, 107, 108, 109]⟩ = .error 0 := errQ_is (by decide +kernel)
theorem ex4 : allO ⟨#[32]⟩ = .ok [⟨0, ⟨#[]⟩, (0, 0, 0, 0), 1⟩] := okQ_is (by decide +kernel)
theorem ex5 : nextT ⟨#[32, 32, 58, 58]⟩ 0 = .tuple #[.agg #[.int .i64 4, .string ⟨#[58, 58]⟩, .int .u64 0, .int .u64 0, .int .u64 0, .int .u64 0, .int .i64 2], .int .i64 4, .bool true] := by
  have h : nextO ⟨#[32, 32, 58, 58]⟩ 0 = some (⟨4, ⟨#[58, 58]⟩, (0, 0, 0, 0), 2⟩, 4) := by decide +kernel
  unfold nextT; rw [h]; rfl
theorem ex6 : skO ⟨#[32, 9, 35, 120, 10, 32, 121]⟩ 0 = 6 := by decide +kernel

set_option maxRecDepth 1000000 in
set_option maxHeartbeats 12800000 in
theorem awake_any (w : World) : Calls Try.prog 6 #[] w fun e w' => e = .returned (.bool true) ∧ Below w.heap.size w w' := by
  have HSK := Lib.hid (fun W => show Calls Try.prog 11 #[.string ⟨#[32, 9, 35, 120, 10, 32, 121]⟩, .int .i64 0] W fun e w' => e = .returned (.int .i64 6) ∧ w' = W from by
    have h := skip_any ⟨#[32, 9, 35, 120, 10, 32, 121]⟩ (by decide) 0 (by decide) W
    rw [ex6] at h; exact h)
  have HNX := Lib.hid (fun W => show Calls Try.prog 7 #[.string ⟨#[32, 32, 58, 58]⟩, .int .i64 0] W fun e w' => e = .returned (.tuple #[.agg #[.int .i64 4, .string ⟨#[58, 58]⟩, .int .u64 0, .int .u64 0, .int .u64 0, .int .u64 0, .int .i64 2], .int .i64 4, .bool true]) ∧ Below W.heap.size W w' from by
    have h := next_any ⟨#[32, 32, 58, 58]⟩ (by decide) 0 (by decide) W
    rw [show (0 : Int).toNat = 0 from rfl, ex5] at h; exact h)
  go_enter Try.func6, Try.ntmps6
  go_wp2_with fail
  refine (all_ok (by decide) ex1 _).mono ?_
  rintro e w1 ⟨⟨ao, cap, rfl, hr1⟩, hb1⟩
  have HR1 := Lib.hid (hr1.alloc (.cells #[.int .i64 0, .int .i64 0, .int .i64 0, .int .i64 0] 33))
  have HA1 := Lib.hid (hb1.alloc hb1.size (.cells #[.int .i64 0, .int .i64 0, .int .i64 0, .int .i64 0] 33))
  have HF1 := Lib.hid (Own.fresh w1 33 [.int .i64 0, .int .i64 0, .int .i64 0, .int .i64 0])
  clear hr1 hb1
  go_wp2_with fail
  refine (all_no (by decide) ex2 _).mono ?_
  rintro e w2 ⟨he, hb2⟩
  subst he
  have HR2 := Lib.hid ((own7_below HR1.out hb2).alloc (.cells #[.int .i64 2, .int .i64 2, .int .i64 0, .int .i64 0] 33))
  have HA2' := keepb HA1.out hb2
  have HA2 := Lib.hid (HA2'.alloc HA2'.size (.cells #[.int .i64 2, .int .i64 2, .int .i64 0, .int .i64 0] 33))
  have HF2 := Lib.hid ((HF1.out.under hb2 HF1.out.lt).on_alloc (.cells #[.int .i64 2, .int .i64 2, .int .i64 0, .int .i64 0] 33))
  have HG2 := Lib.hid (Own.fresh w2 33 [.int .i64 2, .int .i64 2, .int .i64 0, .int .i64 0])
  clear hb2 HR1 HA1 HF1 HA2'
  go_wp2_with fail
  refine (all_no (by decide) ex3 _).mono ?_
  rintro e w3 ⟨he, hb3⟩
  subst he
  have HR3 := Lib.hid ((own7_below HR2.out hb3).alloc (.cells #[.int .i64 2, .int .i64 0, .int .i64 0, .int .i64 0] 33))
  have HA3' := keepb HA2.out hb3
  have HA3 := Lib.hid (HA3'.alloc HA3'.size (.cells #[.int .i64 2, .int .i64 0, .int .i64 0, .int .i64 0] 33))
  have HF3 := Lib.hid ((HF2.out.under hb3 HF2.out.lt).on_alloc (.cells #[.int .i64 2, .int .i64 0, .int .i64 0, .int .i64 0] 33))
  have HG3 := Lib.hid ((HG2.out.under hb3 HG2.out.lt).on_alloc (.cells #[.int .i64 2, .int .i64 0, .int .i64 0, .int .i64 0] 33))
  have HH3 := Lib.hid (Own.fresh w3 33 [.int .i64 2, .int .i64 0, .int .i64 0, .int .i64 0])
  clear hb3 HR2 HA2 HF2 HG2 HA3'
  go_wp2_with fail
  refine (all_ok (by decide) ex4 _).mono ?_
  rintro e w4 ⟨⟨bo, bcap, rfl, hr4⟩, hb4⟩
  have HS4 := Lib.hid (hr4.alloc (.cells #[.int .i64 0, .int .i64 0, .int .i64 0, .int .i64 0] 33))
  have HR4 := Lib.hid ((own7_below HR3.out hb4).alloc (.cells #[.int .i64 0, .int .i64 0, .int .i64 0, .int .i64 0] 33))
  have HA4' := keepb HA3.out hb4
  have HA4 := Lib.hid (HA4'.alloc HA4'.size (.cells #[.int .i64 0, .int .i64 0, .int .i64 0, .int .i64 0] 33))
  have HF4 := Lib.hid ((HF3.out.under hb4 HF3.out.lt).on_alloc (.cells #[.int .i64 0, .int .i64 0, .int .i64 0, .int .i64 0] 33))
  have HG4 := Lib.hid ((HG3.out.under hb4 HG3.out.lt).on_alloc (.cells #[.int .i64 0, .int .i64 0, .int .i64 0, .int .i64 0] 33))
  have HH4 := Lib.hid ((HH3.out.under hb4 HH3.out.lt).on_alloc (.cells #[.int .i64 0, .int .i64 0, .int .i64 0, .int .i64 0] 33))
  have HI4 := Lib.hid (Own.fresh w4 33 [.int .i64 0, .int .i64 0, .int .i64 0, .int .i64 0])
  clear hb4 hr4 HR3 HA3 HF3 HG3 HH3 HA4'
  go_wp2_with fail
  generalize World.alloc w4 _ = W4 at *
  generalize w1.heap.size = g1 at *
  generalize w2.heap.size = g2 at *
  generalize w3.heap.size = g3 at *
  generalize w4.heap.size = g4 at *
  refine (HNX.out _).mono ?_
  rintro e w5 ⟨he, hb5⟩
  subst he
  have HR5 := Lib.hid ((own7_below HR4.out hb5).alloc (.cells #[.int .i64 4, .string ⟨#[58, 58]⟩, .int .u64 0, .int .u64 0, .int .u64 0, .int .u64 0, .int .i64 2] 27))
  have HS5 := Lib.hid ((own7_below HS4.out hb5).alloc (.cells #[.int .i64 4, .string ⟨#[58, 58]⟩, .int .u64 0, .int .u64 0, .int .u64 0, .int .u64 0, .int .i64 2] 27))
  have HA5' := keepb HA4.out hb5
  have HA5 := Lib.hid (HA5'.alloc HA5'.size (.cells #[.int .i64 4, .string ⟨#[58, 58]⟩, .int .u64 0, .int .u64 0, .int .u64 0, .int .u64 0, .int .i64 2] 27))
  have HF5 := Lib.hid ((HF4.out.under hb5 HF4.out.lt).on_alloc (.cells #[.int .i64 4, .string ⟨#[58, 58]⟩, .int .u64 0, .int .u64 0, .int .u64 0, .int .u64 0, .int .i64 2] 27))
  have HG5 := Lib.hid ((HG4.out.under hb5 HG4.out.lt).on_alloc (.cells #[.int .i64 4, .string ⟨#[58, 58]⟩, .int .u64 0, .int .u64 0, .int .u64 0, .int .u64 0, .int .i64 2] 27))
  have HH5 := Lib.hid ((HH4.out.under hb5 HH4.out.lt).on_alloc (.cells #[.int .i64 4, .string ⟨#[58, 58]⟩, .int .u64 0, .int .u64 0, .int .u64 0, .int .u64 0, .int .i64 2] 27))
  have HI5 := Lib.hid ((HI4.out.under hb5 HI4.out.lt).on_alloc (.cells #[.int .i64 4, .string ⟨#[58, 58]⟩, .int .u64 0, .int .u64 0, .int .u64 0, .int .u64 0, .int .i64 2] 27))
  have HX5 := Lib.hid (Own.fresh w5 27 [.int .i64 4, .string ⟨#[58, 58]⟩, .int .u64 0, .int .u64 0, .int .u64 0, .int .u64 0, .int .i64 2])
  clear hb5 HR4 HS4 HA4 HF4 HG4 HH4 HI4 HA5' HNX
  go_upto_region 8 with fail
  generalize World.alloc w5 _ = W at *
  generalize w5.heap.size = g5 at *
  obtain ⟨r, hao, -, hrl, hc⟩ := own7_cell HR5.out (by decide)
  obtain ⟨q, hbo, -, hql, hd⟩ := own7_cell HS5.out (by decide)
  subst hao hbo
  have k0 : W.cell? ⟨r, 0, none⟩ = some (.int .i64 1) := hc 0 (by decide)
  have k1 : W.cell? ⟨r, 1, none⟩ = some (.string ⟨#[97, 49]⟩) := hc 1 (by decide)
  have k2 : W.cell? ⟨r, 2, none⟩ = some (.int .u64 0) := hc 2 (by decide)
  have k3 : W.cell? ⟨r, 3, none⟩ = some (.int .u64 0) := hc 3 (by decide)
  have k4 : W.cell? ⟨r, 4, none⟩ = some (.int .u64 0) := hc 4 (by decide)
  have k5 : W.cell? ⟨r, 5, none⟩ = some (.int .u64 0) := hc 5 (by decide)
  have k6 : W.cell? ⟨r, 6, none⟩ = some (.int .i64 0) := hc 6 (by decide)
  have k8 : W.cell? ⟨r, 8, none⟩ = some (.string ⟨#[61]⟩) := hc 8 (by decide)
  have k14 : W.cell? ⟨r, 14, none⟩ = some (.int .i64 2) := hc 14 (by decide)
  have k15 : W.cell? ⟨r, 15, none⟩ = some (.string ⟨#[120]⟩) := hc 15 (by decide)
  have k16 : W.cell? ⟨r, 16, none⟩ = some (.int .u64 0) := hc 16 (by decide)
  have k17 : W.cell? ⟨r, 17, none⟩ = some (.int .u64 0) := hc 17 (by decide)
  have k18 : W.cell? ⟨r, 18, none⟩ = some (.int .u64 0) := hc 18 (by decide)
  have k19 : W.cell? ⟨r, 19, none⟩ = some (.int .u64 0) := hc 19 (by decide)
  have k20 : W.cell? ⟨r, 20, none⟩ = some (.int .i64 5) := hc 20 (by decide)
  have k27 : W.cell? ⟨r, 27, none⟩ = some (.int .i64 17) := hc 27 (by decide)
  have k28 : W.cell? ⟨r, 28, none⟩ = some (.int .i64 3) := hc 28 (by decide)
  have k36 : W.cell? ⟨r, 36, none⟩ = some (.string ⟨#[58, 58]⟩) := hc 36 (by decide)
  have k43 : W.cell? ⟨r, 43, none⟩ = some (.string ⟨#[59]⟩) := hc 43 (by decide)
  have k49 : W.cell? ⟨r, 49, none⟩ = some (.int .i64 0) := hc 49 (by decide)
  have k50 : W.cell? ⟨r, 50, none⟩ = some (.string ⟨#[]⟩) := hc 50 (by decide)
  have k51 : W.cell? ⟨r, 51, none⟩ = some (.int .u64 0) := hc 51 (by decide)
  have k52 : W.cell? ⟨r, 52, none⟩ = some (.int .u64 0) := hc 52 (by decide)
  have k53 : W.cell? ⟨r, 53, none⟩ = some (.int .u64 0) := hc 53 (by decide)
  have k54 : W.cell? ⟨r, 54, none⟩ = some (.int .u64 0) := hc 54 (by decide)
  have k55 : W.cell? ⟨r, 55, none⟩ = some (.int .i64 25) := hc 55 (by decide)
  have l6 : W.cell? ⟨q, 6, none⟩ = some (.int .i64 1) := hd 6 (by decide)
  obtain ⟨f0, f1, f2, f3, -⟩ := HF5.out.four
  obtain ⟨i0, i1, i2, i3, -⟩ := HG5.out.four
  obtain ⟨h0, h1, h2, h3, -⟩ := HH5.out.four
  obtain ⟨j0, j1, j2, j3, -⟩ := HI5.out.four
  obtain ⟨-, -, -, -, -, -, x6⟩ := HX5.out.seven
  clear hc hd
  go_wp2_with fail
  refine (HSK.out _).mono ?_
  rintro e w6 ⟨rfl, rfl⟩
  go_wp2
  go_ret
  exact ⟨rfl, HA5.out⟩
end Go.Proofs.Ytinkgidncdjapab
