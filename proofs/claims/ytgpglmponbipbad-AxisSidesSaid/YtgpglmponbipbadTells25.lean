/- The law AxisTells, walked. -/
import Derived.Test.YtgpglmponbipbadAwake25
namespace Go.Proofs.Ytgpglmponbipbad
set_option linter.unusedVariables false
open Go.RowKit Go.Sort

theorem keepb0 {N : Nat} {a w w' : World} (h : Below N a w) (hN : N ≤ w.heap.size) (hb : Below w.heap.size w w') : Below N a w' := h.trans (hb.mono hN)
theorem sel_size (P : Nat → Bool) (n : Nat) (h : n ≤ 1000) : ((sel P n).length : Int) ≤ 1000 := by have := sel_len P n; omega
theorem kidsL_len (l : Nodes) (i : Int) (h : l.n ≤ 1000) : ((kidsL l i).length : Int) ≤ 1000 := sel_size _ _ h
theorem leavesL_len (l : Nodes) (h : l.n ≤ 1000) : ((leavesL l).length : Int) ≤ 1000 := sel_size _ _ h
theorem nextL_len (l : Nodes) (i : Int) (h : l.n ≤ 1000) : ((nextL l i).length : Int) ≤ 1000 := by unfold nextL; split; exact sel_size _ _ h; decide
theorem belowL_len (l : Nodes) (i : Int) (h : l.n ≤ 1000) : ((belowL l i).length : Int) ≤ 1000 := by unfold belowL; split; exact sel_size _ _ h; decide
theorem upL_len (l : Nodes) (i : Int) : ((upL l i).length : Int) ≤ 1000 := by unfold upL; split; show ((1 : Nat) : Int) ≤ 1000; omega; decide

set_option maxHeartbeats 8000000 in
theorem tells_walk (l : Nodes) (ao : Option Addr) (cap : Nat) (s : ByteArray) (i : Int) (w : World) (hl : Has w ao w.heap.size l) :
    Calls Try.prog 3 #[.slice ao l.n cap, .string s, .int .i64 i] w fun e w' => e = .returned (.bool true) ∧ Below w.heap.size w w' := by
  by_cases h1 : (l.n : Int) ≤ 40
  · by_cases h2 : (s.size : Int) ≤ 100
    · have hn : (l.n : Int) ≤ 1000 := by omega
      have hn2 : l.n ≤ 1000 := by omega
      have hs : (s.size : Int) ≤ 1000 := by omega
      have HL := Lib.hid hl
      have hB : Below w.heap.size w w := Below.refl _ _
      obtain ⟨N, hNN⟩ : ∃ N, w.heap.size = N := ⟨_, rfl⟩
      rw [hNN] at hB HL ⊢
      have hN : N ≤ w.heap.size := by omega
      have L1 := Lib.hid (kidsL_len l i hn2)
      have L2 := Lib.hid (belowL_len l i hn2)
      have L3 := Lib.hid (upL_len l i)
      have L4 := Lib.hid (nextL_len l i hn2)
      have L5 := Lib.hid (leavesL_len l hn2)
      clear hl hn2
      go_enter Try.func3, Try.ntmps3
      go_wp2_with fail
      refine (awake_any _).mono ?_
      rintro e w1 ⟨rfl, hb⟩
      have hB := keepb0 hB hN hb
      have HL := Lib.hid (HL.out.keep hb hN)
      have hN := Nat.le_trans hN hb.size
      clear hb
      go_wp2_with fail
      refine (right_any l ao cap N hn _ hN HL.out).mono ?_
      rintro e w2 ⟨rfl, hb⟩
      have hB := keepb0 hB hN hb
      have HL := Lib.hid (HL.out.keep hb hN)
      have hN := Nat.le_trans hN hb.size
      clear hb
      go_wp2_with fail
      refine (rright_any l ao cap N hn _ hN HL.out).mono ?_
      rintro e w3 ⟨rfl, hb⟩
      have hB := keepb0 hB hN hb
      have HL := Lib.hid (HL.out.keep hb hN)
      have hN := Nat.le_trans hN hb.size
      clear hb
      go_wp2_with fail
      refine (kids_any l ao cap i N hn _ hN HL.out).mono ?_
      rintro e w4 ⟨v, rfl, ho, hb⟩
      have hB := keepb0 hB hN hb
      have HL := Lib.hid (HL.out.keep hb hN)
      have hN := Nat.le_trans hN hb.size
      clear hb
      have ho := Lib.hid ho
      go_wp2_with fail
      refine (rkids_any l ao cap i N hn _ hN HL.out).mono ?_
      rintro e w5 ⟨u, rfl, hu, hb⟩
      have hB := keepb0 hB hN hb
      have HL := Lib.hid (HL.out.keep hb hN)
      have hN := Nat.le_trans hN hb.size
      have ho := Lib.hid (ho.out.keep hb)
      clear hb
      have hu := Lib.hid hu
      go_wp2_with fail
      refine (ints_any v u _ _ _ L1.out _ ho.out hu.out).mono ?_
      rintro e w6 ⟨rfl, hb⟩
      have hB := keepb0 hB hN hb
      have HL := Lib.hid (HL.out.keep hb hN)
      have hN := Nat.le_trans hN hb.size
      clear hb ho hu
      go_wp2_with fail
      refine (below_any l ao cap i N hn _ hN HL.out).mono ?_
      rintro e w7 ⟨v, rfl, ho, hb⟩
      have hB := keepb0 hB hN hb
      have HL := Lib.hid (HL.out.keep hb hN)
      have hN := Nat.le_trans hN hb.size
      clear hb
      have ho := Lib.hid ho
      go_wp2_with fail
      refine (rbelow_any l ao cap i N hn _ hN HL.out).mono ?_
      rintro e w8 ⟨u, rfl, hu, hb⟩
      have hB := keepb0 hB hN hb
      have HL := Lib.hid (HL.out.keep hb hN)
      have hN := Nat.le_trans hN hb.size
      have ho := Lib.hid (ho.out.keep hb)
      clear hb
      have hu := Lib.hid hu
      go_wp2_with fail
      refine (ints_any v u _ _ _ L2.out _ ho.out hu.out).mono ?_
      rintro e w9 ⟨rfl, hb⟩
      have hB := keepb0 hB hN hb
      have HL := Lib.hid (HL.out.keep hb hN)
      have hN := Nat.le_trans hN hb.size
      clear hb ho hu
      go_wp2_with fail
      refine (up_any l ao cap i N hn _ hN HL.out).mono ?_
      rintro e w10 ⟨v, rfl, ho, hb⟩
      have hB := keepb0 hB hN hb
      have HL := Lib.hid (HL.out.keep hb hN)
      have hN := Nat.le_trans hN hb.size
      clear hb
      have ho := Lib.hid ho
      go_wp2_with fail
      refine (rup_any l ao cap i N hn _ hN HL.out).mono ?_
      rintro e w11 ⟨u, rfl, hu, hb⟩
      have hB := keepb0 hB hN hb
      have HL := Lib.hid (HL.out.keep hb hN)
      have hN := Nat.le_trans hN hb.size
      have ho := Lib.hid (ho.out.keep hb)
      clear hb
      have hu := Lib.hid hu
      go_wp2_with fail
      refine (ints_any v u _ _ _ L3.out _ ho.out hu.out).mono ?_
      rintro e w12 ⟨rfl, hb⟩
      have hB := keepb0 hB hN hb
      have HL := Lib.hid (HL.out.keep hb hN)
      have hN := Nat.le_trans hN hb.size
      clear hb ho hu
      go_wp2_with fail
      refine (next_any l ao cap i N hn _ hN HL.out).mono ?_
      rintro e w13 ⟨v, rfl, ho, hb⟩
      have hB := keepb0 hB hN hb
      have HL := Lib.hid (HL.out.keep hb hN)
      have hN := Nat.le_trans hN hb.size
      clear hb
      have ho := Lib.hid ho
      go_wp2_with fail
      refine (rnext_any l ao cap i N hn _ hN HL.out).mono ?_
      rintro e w14 ⟨u, rfl, hu, hb⟩
      have hB := keepb0 hB hN hb
      have HL := Lib.hid (HL.out.keep hb hN)
      have hN := Nat.le_trans hN hb.size
      have ho := Lib.hid (ho.out.keep hb)
      clear hb
      have hu := Lib.hid hu
      go_wp2_with fail
      refine (ints_any v u _ _ _ L4.out _ ho.out hu.out).mono ?_
      rintro e w15 ⟨rfl, hb⟩
      have hB := keepb0 hB hN hb
      have HL := Lib.hid (HL.out.keep hb hN)
      have hN := Nat.le_trans hN hb.size
      clear hb ho hu
      go_wp2_with fail
      refine (text_any l ao cap s hs i N hn _ hN HL.out).mono ?_
      rintro e w16 ⟨rfl, hb⟩
      have hB := keepb0 hB hN hb
      have HL := Lib.hid (HL.out.keep hb hN)
      have hN := Nat.le_trans hN hb.size
      clear hb
      go_wp2_with fail
      refine (rtext_any l ao cap s hs i N hn _ hN HL.out).mono ?_
      rintro e w17 ⟨rfl, hb⟩
      have hB := keepb0 hB hN hb
      have HL := Lib.hid (HL.out.keep hb hN)
      have hN := Nat.le_trans hN hb.size
      clear hb
      go_wp2_with fail
      refine (leaves_any l ao cap  N hn _ hN HL.out).mono ?_
      rintro e w18 ⟨v, rfl, ho, hb⟩
      have hB := keepb0 hB hN hb
      have HL := Lib.hid (HL.out.keep hb hN)
      have hN := Nat.le_trans hN hb.size
      clear hb
      have ho := Lib.hid ho
      go_wp2_with fail
      refine (rleaves_any l ao cap  N hn _ hN HL.out).mono ?_
      rintro e w19 ⟨u, rfl, hu, hb⟩
      have hB := keepb0 hB hN hb
      have HL := Lib.hid (HL.out.keep hb hN)
      have hN := Nat.le_trans hN hb.size
      have ho := Lib.hid (ho.out.keep hb)
      clear hb
      have hu := Lib.hid hu
      go_wp2_with fail
      refine (ints_any v u _ _ _ L5.out _ ho.out hu.out).mono ?_
      rintro e w20 ⟨rfl, hb⟩
      have hB := keepb0 hB hN hb
      have HL := Lib.hid (HL.out.keep hb hN)
      have hN := Nat.le_trans hN hb.size
      clear hb ho hu
      go_wp2_with fail
      go_ret
      exact ⟨rfl, hB⟩
    · go_enter Try.func3, Try.ntmps3
      go_wp2_with fail
      refine (awake_any _).mono ?_
      rintro e w1 ⟨rfl, hb⟩
      go_wp2_with fail
      go_ret
      exact ⟨rfl, hb⟩
  · go_enter Try.func3, Try.ntmps3
    go_wp2_with fail
    refine (awake_any _).mono ?_
    rintro e w1 ⟨rfl, hb⟩
    go_wp2_with fail
    go_ret
    exact ⟨rfl, hb⟩
end Go.Proofs.Ytgpglmponbipbad
