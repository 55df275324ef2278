/- The walk of Part, the program's. -/
import Derived.Test.YtgpglmponbipbacNestNC
import Derived.BigRegion
namespace Go.Proofs.Ytgpglmponbipbac
set_option linter.unusedVariables false
open Go.RowKit Go.Sort

theorem HasS.drop {R : Nat → Prop} {w : World} {b off : Nat} {L : List Nd} (h : HasS R w (some ⟨b, off, none⟩) L) (l : Nat) : HasS R w (some ⟨b, off + l * 5, none⟩) (L.drop l) := fun k x hk => by
  rw [List.getElem?_drop] at hk
  obtain ⟨b', off', e, hR, hB, c0, c1, c2, c3, c4⟩ := h (l + k) x hk
  cases e
  rw [Nat.add_mul, ← Nat.add_assoc] at c0 c1 c2 c3 c4
  exact ⟨b, off + l * 5, rfl, hR, hB, c0, c1, c2, c3, c4⟩
def lessU (l : Int) (x : Nd) : Nd := ⟨x.kd, x.nm, x.fr, x.tt, max (x.up - l) (-1)⟩
def partTo (L : List Nd) (l : Int) (i : Nat) : List Nd := (L.take i).map (lessU l) ++ L.drop i
def partL (L : List Nd) (l : Nat) : List Nd := (L.drop l).map (lessU l)
theorem partTo_len (L : List Nd) (l : Int) (i : Nat) : (partTo L l i).length = L.length := by simp [partTo]; omega
theorem partTo_get {L : List Nd} {l : Int} {i : Nat} {x : Nd} (h : L[i]? = some x) : (partTo L l i)[i]? = some x := by
  have hi := (List.getElem?_eq_some_iff.1 h).1
  unfold partTo
  rw [List.getElem?_append_right (by simp; omega), List.getElem?_drop]
  simp only [List.length_map, List.length_take]
  rw [show i + (i - min i L.length) = i by omega, h]
theorem rowL_set4 : ∀ (L : List Nd) (t : Nat) (x : Nd) (u : Int), L[t]? = some x → (rowL L).set (t * 5 + 4) (.int .i64 u) = rowL (L.set t ⟨x.kd, x.nm, x.fr, x.tt, u⟩)
  | y :: L, 0, x, u, h => by
    simp at h; subst h
    rfl
  | y :: L, t + 1, x, u, h => by
    have e : rowL (y :: L) = .int .i64 y.kd :: .string y.nm :: .int .i64 y.fr :: .int .i64 y.tt :: .int .i64 y.up :: rowL L := rfl
    have ih := rowL_set4 L t x u (by simpa using h)
    rw [e, show (t + 1) * 5 + 4 = t * 5 + 4 + 5 by omega]
    simp only [List.set_cons_succ]
    rw [ih]; rfl
theorem partTo_set {L : List Nd} {l : Int} {i : Nat} {x : Nd} (h : L[i]? = some x) : (partTo L l i).set i ⟨x.kd, x.nm, x.fr, x.tt, max (x.up - l) (-1)⟩ = partTo L l (i + 1) := by
  have hi := (List.getElem?_eq_some_iff.1 h).1
  have hx : L[i] = x := by rw [List.getElem?_eq_getElem hi] at h; simpa using h
  unfold partTo
  rw [List.set_append_right _ _ (by simp; omega), List.take_succ_eq_append_getElem hi, hx, List.map_append, List.append_assoc]
  congr 1
  simp only [List.length_map, List.length_take]
  rw [show i - min i L.length = 0 by omega, List.drop_eq_getElem_cons hi, hx]
  rfl
theorem partTo_all {L : List Nd} {l : Int} {i : Nat} (h : L.length ≤ i) : partTo L l i = L.map (lessU l) := by
  unfold partTo; rw [List.take_of_length_le h, List.drop_of_length_le h, List.append_nil]

set_option maxHeartbeats 6400000 in
theorem npart_yes (w : World) (p : Nat) (U : Nat → Prop) (L : List Nd) (top t : Int) (l : Nat) (hn : (L.length : Int) ≤ 1000) (h2 : (l : Int) ≤ (L.length : Int)) (h3 : -1 ≤ t) (h4 : t < (l : Int)) (h : Nest 56 w p U L top) :
    Calls Try.prog 18 #[.pointer (some ⟨p, 0, none⟩), .agg #[.int .i64 (l : Int), .int .i64 t]] w
      fun e w' => ∃ v, e = .returned v ∧ Win (fun b => w.heap.size ≤ b) 53 5 w' v (partL L l).length (rowL (partL L l)) ∧ Below w.heap.size w w' := by
  have hp : p < w.heap.size := by obtain ⟨v, T, h⟩ := h; exact h.own.lt
  have HN := Lib.hid h
  have HU := Lib.hid h.ups
  have HR := Lib.hid (Own.fresh w 33 [.int .i64 (l : Int), .int .i64 t])
  have HB : Below w.heap.size w (w.alloc (.cells #[.int .i64 (l : Int), .int .i64 t] 33)) := (Below.refl _ _).alloc (Nat.le_refl _) _
  have HLL := Lib.hid h2
  clear h
  go_enter Try.func18, Try.ntmps18
  go_wp2_with fail
  refine (nmay_yes _ p U L top l t (by omega) HLL.out h3 h4 (HN.out.below HB)).mono ?_
  rintro e w1 ⟨rfl, hb1⟩
  have hR := HR.out.under hb1 HR.out.lt
  have hB := keepb HB hb1
  obtain ⟨v, T, hN⟩ := HN.out.below hB
  obtain ⟨r0, r1, z0, z1⟩ := hR.two
  obtain ⟨c0, c1, f0, f1⟩ := hN.own.two
  have HRR := Lib.hid hR
  have HB1 := Lib.hid hB
  have HW := Lib.hid hN.win
  have hW2 := hN.win.2
  clear hR hB hb1 HB hN
  obtain ⟨k, hk⟩ : ∃ k, L.length = k := ⟨_, rfl⟩
  have HK := Lib.hid hk
  rw [hk] at hn h2 hW2
  have hdl : (L.drop l).length = k - l := by rw [List.length_drop, hk]
  have HDL := Lib.hid hdl
  have HD := Lib.hid (show ((L.drop l).length : Int) ≤ 1000 by rw [hdl]; omega)
  clear hk hdl
  rcases hW2 with ⟨rfl, h0⟩ | ⟨g, off, cap, cur, rfl, hgT, hgh, hkc, -⟩
  · have hl0 : l = 0 := by omega
    subst hl0
    subst h0
    have CL := Lib.hid (fun (X : World) (hX : Below w1.heap.size w1 X) => clone_any (L.drop 0) none 0 T HD.out X (by rw [List.eq_nil_of_length_eq_zero HK.out]; exact HasS.nil _ _ _))
    rw [HDL.out] at CL
    go_wp2_with fail
    go_still_tail 7, (by kernel_rfl)
    go_wp2_with fail
    refine (CL.out _ ((Below.refl _ _).drew)).mono ?_
    rintro e w3 ⟨v3, rfl, hw3, hb3⟩
    have hb3' : Below w1.heap.size w1 w3 := (Below.drew (Below.refl _ _)).trans hb3
    obtain ⟨ao3, cap3, rfl, -, -, -⟩ := hw3.form
    have HW3 := Lib.hid (show Win (fun b => w1.heap.size ≤ b) 53 5 w3 (.slice ao3 0 cap3) 0 (rowL (L.drop 0)) from hw3)
    have HB3 := Lib.hid hb3'
    have HR3 := Lib.hid (HRR.out.under hb3' HRR.out.lt)
    have hrl := HRR.out.lt
    clear hw3 hb3 hb3' CL c0 c1 f0 f1 r0 r1 z0 z1 HR
    go_wp2_with fail
    go_loopw [21] (fun b21 wr => ∃ i : Nat, b21 = .int .i64 (i : Int) ∧ (i : Int) ≤ ((0 : Nat) : Int) ∧ Hid (Win (fun b => w1.heap.size ≤ b) 53 5 wr (.slice ao3 0 cap3) 0 (rowL (partTo (L.drop 0) ((0 : Nat) : Int) i))) ∧ Hid (But (fun b => w1.heap.size ≤ b) w3 wr))
      (fun b21 _ => 0 - (intOf b21).toNat)
    case atStart => exact ⟨0, rfl, by omega, HW3, Lib.hid (But.refl _ _)⟩
    case round =>
      obtain ⟨i, rfl, hi2, HWi, HBi⟩ := hrel
      clear HW3
      by_cases hi : (i : Int) < ((0 : Nat) : Int)
      · exact absurd hi (by omega)
      · have hiq : i = 0 := by omega
        go_wp2
        go_ret
        refine ⟨_, rfl, ?_, ?_⟩
        · have h := HWi.out
          rw [partTo_all (by rw [HDL.out]; omega)] at h
          have hl : (partL L 0).length = 0 := by unfold partL; rw [List.length_map, HDL.out]
          rw [hl]
          exact h.mono (fun g _ hg => Nat.le_trans HB1.out.size hg)
        · exact (HB1.out.trans (HB3.out.mono HB1.out.size)).trans ((HBi.out.below (B := w.heap.size) (Nat.le_trans HB1.out.size HB3.out.size) (fun g hg => Nat.le_trans HB1.out.size hg)))
  · have hS := HW.out.nodes
    obtain ⟨ao', cap', hv, hl0, hS⟩ := hS
    simp only [Value.slice.injEq] at hv
    obtain ⟨rfl, -, rfl⟩ := hv
    have HS := Lib.hid hS
    clear hS hl0
    have hgl : g < w1.heap.size := lt_of_block hgh
    clear hgh
    by_cases hcl : cap = l
    · subst hcl
      have hkl : k = cap := by omega
      subst hkl
      have CL := Lib.hid (fun (X : World) (hX : Below w1.heap.size w1 X) => clone_any (L.drop k) (some ⟨g, off, none⟩) 0 T HD.out X (by rw [List.drop_of_length_le (by rw [HK.out]; omega)]; exact HasS.nil _ _ _))
      rw [Nat.sub_self] at HDL
      rw [HDL.out] at CL
      go_wp2_with fail
      go_still_tail 7, (by kernel_rfl)
      go_wp2_with fail
      refine (CL.out _ ((Below.refl _ _).drew)).mono ?_
      rintro e w3 ⟨v3, rfl, hw3, hb3⟩
      have hb3' : Below w1.heap.size w1 w3 := (Below.drew (Below.refl _ _)).trans hb3
      obtain ⟨ao3, cap3, rfl, -, -, -⟩ := hw3.form
      have HW3 := Lib.hid (show Win (fun b => w1.heap.size ≤ b) 53 5 w3 (.slice ao3 0 cap3) 0 (rowL (L.drop k)) from hw3)
      have HB3 := Lib.hid hb3'
      have HR3 := Lib.hid (HRR.out.under hb3' HRR.out.lt)
      have hrl := HRR.out.lt
      clear hw3 hb3 hb3' CL c0 c1 f0 f1 r0 r1 z0 z1 HR
      go_wp2_with fail
      go_loopw [21] (fun b21 wr => ∃ i : Nat, b21 = .int .i64 (i : Int) ∧ (i : Int) ≤ ((0 : Nat) : Int) ∧ Hid (Win (fun b => w1.heap.size ≤ b) 53 5 wr (.slice ao3 0 cap3) 0 (rowL (partTo (L.drop k) ((k : Nat) : Int) i))) ∧ Hid (But (fun b => w1.heap.size ≤ b) w3 wr))
        (fun b21 _ => 0 - (intOf b21).toNat)
      case atStart => exact ⟨0, rfl, by omega, HW3, Lib.hid (But.refl _ _)⟩
      case round =>
        obtain ⟨i, rfl, hi2, HWi, HBi⟩ := hrel
        clear HW3
        by_cases hi : (i : Int) < ((0 : Nat) : Int)
        · exact absurd hi (by omega)
        · have hiq : i = 0 := by omega
          go_wp2
          go_ret
          refine ⟨_, rfl, ?_, ?_⟩
          · have h := HWi.out
            rw [partTo_all (by rw [HDL.out]; omega)] at h
            have hl : (partL L k).length = 0 := by unfold partL; rw [List.length_map, HDL.out]
            rw [hl]
            exact h.mono (fun g _ hg => Nat.le_trans HB1.out.size hg)
          · exact (HB1.out.trans (HB3.out.mono HB1.out.size)).trans ((HBi.out.below (B := w.heap.size) (Nat.le_trans HB1.out.size HB3.out.size) (fun g hg => Nat.le_trans HB1.out.size hg)))
    · have CL := Lib.hid (fun (X : World) (hX : Below w1.heap.size w1 X) => clone_any (L.drop l) (some ⟨g, off + l * 5, none⟩) (cap - l) T HD.out X ((HS.out.drop l).below hX))
      rw [HDL.out] at CL
      go_wp2_with fail
      go_still_tail 7, (by kernel_rfl)
      go_wp2_with fail
      refine (CL.out _ ((Below.refl _ _).drew)).mono ?_
      rintro e w3 ⟨v3, rfl, hw3, hb3⟩
      have hb3' : Below w1.heap.size w1 w3 := (Below.drew (Below.refl _ _)).trans hb3
      obtain ⟨ao3, cap3, rfl, -, -, -⟩ := hw3.form
      have HW3 := Lib.hid (show Win (fun b => w1.heap.size ≤ b) 53 5 w3 (.slice ao3 (k - l) cap3) (k - l) (rowL (L.drop l)) from hw3)
      have HB3 := Lib.hid hb3'
      have HR3 := Lib.hid (HRR.out.under hb3' HRR.out.lt)
      have hrl := HRR.out.lt
      clear hw3 hb3 hb3' CL c0 c1 f0 f1 r0 r1 z0 z1 HR
      go_wp2_with fail
      go_loopw [21] (fun b21 wr => ∃ i : Nat, b21 = .int .i64 (i : Int) ∧ (i : Int) ≤ (((k - l) : Nat) : Int) ∧ Hid (Win (fun b => w1.heap.size ≤ b) 53 5 wr (.slice ao3 (k - l) cap3) (k - l) (rowL (partTo (L.drop l) ((l : Nat) : Int) i))) ∧ Hid (But (fun b => w1.heap.size ≤ b) w3 wr))
        (fun b21 _ => (k - l) - (intOf b21).toNat)
      case atStart => exact ⟨0, rfl, by omega, HW3, Lib.hid (But.refl _ _)⟩
      case round =>
        obtain ⟨i, rfl, hi2, HWi, HBi⟩ := hrel
        clear HW3
        by_cases hi : (i : Int) < (((k - l) : Nat) : Int)
        · obtain ⟨x, hx⟩ : ∃ x, (L.drop l)[i]? = some x := ⟨_, List.getElem?_eq_getElem (by have := HDL.out; omega)⟩
          obtain ⟨g3, off3, cap4, e3, hg3, -, hgl3⟩ := HWi.out.has (by omega)
          simp only [Value.slice.injEq, true_and] at e3
          obtain ⟨rfl, rfl⟩ := e3
          have y4 := HWi.out.cellAt (i * 5 + 4) (by omega)
          rw [rowL_get _ i x (partTo_get hx) 4 (by omega), ← Nat.add_assoc] at y4
          have q4 : wr.cell? ⟨g3, off3 + i * 5 + 4, none⟩ = some (.int .i64 x.up) := y4
          have s4 := HWi.out.thawAt (by omega) (off3 + i * 5 + 4)
          have hxu : -1 ≤ x.up ∧ x.up < 2000 := by
            rw [List.getElem?_drop] at hx
            have h1 := HU.out.1 _ x hx
            have h2 := (List.getElem?_eq_some_iff.1 hx).1
            have h3 := HK.out
            omega
          have HX := Lib.hid hx
          have HRi := Lib.hid (HR3.out.but HBi.out (fun h => by have h' : w1.heap.size ≤ w.heap.size := h; omega))
          obtain ⟨r0, r1, -, -⟩ := HRi.out.two
          clear hx y4
          have hset := HWi.out.set (i * 5 + 4) (.int .i64 (max (x.up - ((l : Nat) : Int)) (-1))) (by omega)
          rw [rowL_set4 _ i x _ (partTo_get HX.out), partTo_set HX.out, ← Nat.add_assoc] at hset
          have hmx : max (x.up - ((l : Nat) : Int)) (-1) = if x.up - ((l : Nat) : Int) < -1 then -1 else x.up - ((l : Nat) : Int) := by split <;> omega
          rw [hmx] at hset
          have HSET := Lib.hid hset
          have HBB := Lib.hid (HBi.out.setCell (p := ⟨g3, off3 + i * 5 + 4, none⟩) (fun _ => hg3) (.int .i64 (if x.up - ((l : Nat) : Int) < -1 then -1 else x.up - ((l : Nat) : Int))))
          clear hset hmx
          go_wp2_with fail
          go_still_tail 13, (by kernel_rfl)
          go_wp2
          go_roundw
          case rel => exact ⟨i + 1, by go_num, by omega, HSET, Lib.hid HBB.out.drew⟩
          case measure => simp [intOf]; omega
        · have hiq : i = (k - l) := by omega
          go_wp2
          go_ret
          refine ⟨_, rfl, ?_, ?_⟩
          · have h := HWi.out
            rw [partTo_all (by rw [HDL.out]; omega)] at h
            have hl : (partL L l).length = (k - l) := by unfold partL; rw [List.length_map, HDL.out]
            rw [hl]
            exact h.mono (fun g _ hg => Nat.le_trans HB1.out.size hg)
          · exact (HB1.out.trans (HB3.out.mono HB1.out.size)).trans ((HBi.out.below (B := w.heap.size) (Nat.le_trans HB1.out.size HB3.out.size) (fun g hg => Nat.le_trans HB1.out.size hg)))
end Go.Proofs.Ytgpglmponbipbac
