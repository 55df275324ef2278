/- The walks of the reference's within. The walk of axis.Below. The walks of Kids and Leaves. The walks of axis.Leaves. -/
import Derived.Test.YtnopnjleibbakabGf
import Derived.BigQuiet
namespace Go.Proofs.Ytnopnjleibbakab
set_option linter.unusedVariables false
open Go.RowKit Go.Sort

set_option maxHeartbeats 1600000 in
theorem within_any (l : Nodes) (ao : Option Addr) (cap : Nat) (k0 : Nat) (i : Int) (B : Nat) (hn : (l.n : Int) ≤ 1000) (hk : k0 < l.n) (hr : treeB l l.n = true) (w : World) (hl : Has w ao B l) :
    Calls Try.prog 52 #[.slice ao l.n cap, .int .i64 (k0 : Int), .int .i64 i] w fun e w' => e = .returned (.bool (inB l i k0)) ∧ w = w' := by
  have HL := Lib.hid hl
  have A1 := Lib.hid (fun j (hj : j < l.n) => @in_yes l i l.n j hr hj)
  have A2 := Lib.hid (fun j (hj : j < l.n) => @in_next l i l.n j hr hj)
  have A3 := Lib.hid (fun j (hj : j < l.n) => @in_top l i l.n j hr hj)
  have A4 := Lib.hid (fun j (hj : j < l.n) => right_ok hr j hj)
  obtain ⟨W, hW⟩ : ∃ W, inB l i k0 = W := ⟨_, rfl⟩
  rw [hW]
  have hW' := Lib.hid hW
  obtain ⟨n, hnn⟩ : ∃ n, l.n = n := ⟨_, rfl⟩
  rw [hnn] at hn hk A1 A2 A3 A4 ⊢
  clear hl hW hr
  go_enter Try.func52, Try.ntmps52
  go_wp2_with fail
  go_loopw [1, 6] (fun b1 b6 wr => ∃ x : Int, b1 = .int .i64 x ∧ b6 = .bool false ∧ -1 ≤ x ∧ x < n ∧ Hid ((0 ≤ x → W = inB l i x.toNat) ∧ (x < 0 → W = false)) ∧ wr = w)
    (fun b1 _ _ => (intOf b1 + 1).toNat)
  case atStart => exact ⟨k0, rfl, rfl, by omega, by omega, Lib.hid ⟨fun _ => hW'.out.symm, fun h => by omega⟩, rfl⟩
  case round =>
    obtain ⟨x, rfl, rfl, hx1, hx2, hX, rfl⟩ := hrel
    by_cases h1 : 0 ≤ x
    · obtain ⟨k, rfl⟩ : ∃ k : Nat, x = (k : Int) := ⟨x.toNat, by omega⟩
      obtain ⟨b, off, rfl, hbB, -, -, -, -, c4⟩ := HL.out k (by omega)
      clear HL
      have hkn : k < n := by omega
      have B0 : W = inB l i k := hX.out.1 h1
      have B1 := A1.out k hkn
      have B2 := A2.out k hkn
      have B3 := A3.out k hkn
      have B4 := A4.out k hkn
      rw [← B0] at B1 B2 B3
      clear A1 A2 A3 A4 B0 hX
      obtain ⟨y, hy⟩ : ∃ y, l.up k = y := ⟨_, rfl⟩
      rw [hy] at B1 B2 B3 B4 c4
      clear hy
      by_cases h2 : y = i
      · have G := Lib.hid (B1 h2)
        clear B1 B2 B3
        go_wp2
        go_ret
        exact ⟨ret_bool G.out.symm, rfl⟩
      · have G : Hid ((0 ≤ y → W = inB l i y.toNat) ∧ (y < 0 → W = false)) := Lib.hid ⟨fun h => B2 h2 h, fun h => B3 h2 (by omega)⟩
        clear B1 B2 B3
        go_wp2
        go_roundw
        case rel => exact ⟨y, rfl, rfl, by omega, by omega, G, trivial⟩
        case measure => simp [intOf]; omega
    · have G := Lib.hid (hX.out.2 (by omega))
      clear A1 A2 A3 A4 HL hX
      go_wp2
      go_ret
      exact ⟨ret_bool G.out.symm, rfl⟩

end Go.Proofs.Ytnopnjleibbakab

namespace Go.Proofs.Ytnopnjleibbakab
set_option linter.unusedVariables false
open Go.RowKit Go.Sort

theorem info_bool : (Try.prog.info? 4).map (fun i => (i.zero, i.size, i.bytes)) = some (some (.bool false), 1, 1) := by kernel_rfl

theorem run_bools (n : Nat) (hn : (n : Int) ≤ 1000) (w : World) : (Instr.makeSlice 52 (.int .i64 (n : Int)) (.int .i64 (n : Int))).run Try.prog w = .ok (.slice (some ⟨w.heap.size, 0, none⟩) n n) (w.alloc (.cells (Array.replicate n (Value.bool false)) 4)) := by
  obtain ⟨j0, hj, hy0, hy1, hy2⟩ := info_parts info_bool
  have h := run_make (P := Try.prog) w 52 4 j0 (.bool false) Try.underlying52 hj hy0 .i64 .i64 n n (by omega) (Int.le_refl _) (by rw [hy2]; omega) (by omega)
  rw [h, hy1, Int.toNat_natCast, Nat.mul_one, ← List.toArray_replicate, ← toList_madeCells_one]
  rfl
def rowB (P : Nat → Bool) (n k : Nat) : List Value := (List.range n).map fun j => Value.bool (decide (j < k) && P j)
theorem rowB_get {P : Nat → Bool} {n k j : Nat} (h : j < n) : (rowB P n k)[j]? = some (.bool (decide (j < k) && P j)) := by simp [rowB, h]
theorem rowB_set {P : Nat → Bool} {n k : Nat} (hk : k < n) (h : P k = true) : (rowB P n k).set k (.bool true) = rowB P n (k + 1) := by
  apply List.ext_getElem?
  intro j
  by_cases hj : j < n
  · rw [rowB_get hj, List.getElem?_set]
    by_cases e : k = j
    · subst e; simp [h, rowB, hk]
    · rw [if_neg e, rowB_get hj, show decide (j < k) = decide (j < k + 1) by apply decide_eq_decide.2; omega]
  · rw [List.getElem?_eq_none (by simp [rowB]; omega), List.getElem?_eq_none (by simp [rowB]; omega)]
theorem rowB_skip {P : Nat → Bool} {n k : Nat} (h : P k = false) : rowB P n (k + 1) = rowB P n k := by
  apply List.map_congr_left
  intro j _
  by_cases e : j = k
  · subst e; rw [h]; simp
  · rw [show decide (j < k) = decide (j < k + 1) by apply decide_eq_decide.2; omega]
theorem rowB_start {P : Nat → Bool} {n k : Nat} (h : ∀ j, j < k → P j = false) : List.replicate n (Value.bool false) = rowB P n k := by
  apply List.ext_getElem?
  intro j
  by_cases hj : j < n
  · rw [rowB_get hj, List.getElem?_replicate, if_pos hj]
    by_cases e : j < k
    · rw [h j e]; simp
    · simp [e]
  · rw [List.getElem?_eq_none (by simp; omega), List.getElem?_eq_none (by simp [rowB]; omega)]

set_option maxHeartbeats 1600000 in
theorem below_any (l : Nodes) (ao : Option Addr) (cap : Nat) (i : Int) (B : Nat) (hn : (l.n : Int) ≤ 1000) (w : World) (hB : B ≤ w.heap.size) (hl : Has w ao B l) :
    Calls Try.prog 32 #[.slice ao l.n cap, .int .i64 i] w
      fun e w' => ∃ v, e = .returned v ∧ Owns w' w.heap.size v (belowL l i) ∧ Below w.heap.size w w' := by
  have R := Lib.hid (right_any l ao cap B hn)
  by_cases g1 : i < -1
  · have H := Lib.hid (below_low (l := l) g1)
    go_enter Try.func32, Try.ntmps32
    go_wp2_with fail
    go_ret
    exact ⟨_, rfl, by rw [H.out]; exact Owns.none _ _, Below.refl _ _⟩
  by_cases g2 : (l.n : Int) ≤ i
  · have H := Lib.hid (below_high (l := l) g2)
    go_enter Try.func32, Try.ntmps32
    go_wp2_with fail
    go_ret
    exact ⟨_, rfl, by rw [H.out]; exact Owns.none _ _, Below.refl _ _⟩
  cases hr : treeB l l.n with
  | false =>
    have H := Lib.hid (below_no (i := i) hr)
    rw [hr] at R
    go_enter Try.func32, Try.ntmps32
    go_wp2_with fail
    refine (R.out _ hB hl).mono ?_
    rintro e w1 ⟨rfl, hb1⟩
    go_wp2_with fail
    go_ret
    exact ⟨_, rfl, by rw [H.out]; exact Owns.none _ _, hb1⟩
  | true =>
    rw [hr] at R
    rw [below_yes hr g1]
    obtain ⟨lo, rfl⟩ : ∃ lo : Nat, i = (lo : Int) - 1 := ⟨(i + 1).toNat, by omega⟩
    obtain ⟨i0, hi, hz0, hz1, hz2⟩ := info_parts info_int
    have HL := Lib.hid hl
    have K := Lib.hid (fun k hk => @in_step l ((lo : Int) - 1) l.n k hr hk)
    have KZ := Lib.hid (fun k (hk : k < l.n) h => @in_behind l ((lo : Int) - 1) l.n hr k k (Nat.le_refl _) hk h)
    have KR := Lib.hid (fun k hk => @right_ok l l.n hr k hk)
    obtain ⟨P, hP⟩ : ∃ P : Nat → Bool, inB l ((lo : Int) - 1) = P := ⟨_, rfl⟩
    rw [hP] at K KZ ⊢
    obtain ⟨n, hnn⟩ : ∃ n, l.n = n := ⟨_, rfl⟩
    rw [hnn] at hn K KZ KR R g2 ⊢
    have g1' : ¬ ((lo : Int) - 1 < -1) := g1
    have hlo : lo ≤ n := by omega
    have hlo0 : ((lo : Int) - 1 + 1) = (lo : Int) := by omega
    have hmk := run_bools n hn
    have hSt := Lib.hid (fun (k : Nat) (h1 : k < n) (h2 : P k = true) => rowB_set h1 h2)
    have hSk := Lib.hid (fun (k : Nat) (h2 : P k = false) => rowB_skip (n := n) h2)
    have hS0 := Lib.hid (rowB_start (n := n) (k := lo) fun j hj => KZ.out j (by omega) (by omega))
    have hZ0 := Lib.hid (sel_none (k := lo) fun j hj => KZ.out j (by omega) (by omega))
    clear hP hl hr KZ
    go_enter Try.func32, Try.ntmps32
    go_wp2_with fail
    refine (R.out _ hB HL.out).mono ?_
    rintro e w1 ⟨rfl, hb1⟩
    clear R
    go_wp2_with fail
    have hR0 : Own (w1.alloc (.cells (Array.replicate n (Value.bool false)) 4)) w1.heap.size 4 (List.replicate n (Value.bool false)) := by rw [← List.toArray_replicate]; exact Own.fresh w1 4 _
    have hB0 : Below w.heap.size w (w1.alloc (.cells (Array.replicate n (Value.bool false)) 4)) := hb1.alloc hb1.size _
    obtain ⟨G, hG⟩ : ∃ G, w1.heap.size = G := ⟨_, rfl⟩
    have hG0 : w.heap.size ≤ G := by have := hb1.size; omega
    rw [hG] at hR0 ⊢
    generalize w1.alloc _ = W0 at *
    rw [hS0.out] at hR0
    have hR0' := Lib.hid hR0
    clear hR0 hmk hb1 hS0
    go_loopw [6, 7] (fun v b8 wr => ∃ k : Nat, b8 = .int .i64 (k : Int) ∧ lo ≤ k ∧ (k : Int) ≤ n ∧ Hid (wr.ownsRow (G + 1) 3 1 v (sel P k).length ((sel P k).map (Value.int .i64))) ∧ Hid (Own wr G 4 (rowB P n k)) ∧ Below w.heap.size w wr)
      (fun _ b8 _ => n - (intOf b8).toNat)
    case atStart =>
      refine ⟨lo, rfl, Nat.le_refl _, by omega, Lib.hid ?_, hR0', hB0⟩
      rw [hZ0.out]
      exact World.ownsRow_nil _ _ _ _
    case round =>
      obtain ⟨k, rfl, hk1, hk2, ho, hr, hb⟩ := hrel
      have hsl := sel_len P k
      clear hR0' hB0
      by_cases h1 : (k : Int) < n
      · obtain ⟨b, off, rfl, hbB, -, -, -, -, c4⟩ := (HL.out.keep hb hB) k (by omega)
        have KK := K.out k (by omega)
        have R2 := KR.out k (by omega)
        clear HL K KR hZ0
        obtain ⟨y, hy⟩ : ∃ y, l.up k = y := ⟨_, rfl⟩
        rw [hy] at KK R2 c4
        clear hy
        by_cases h2 : y = (lo : Int) - 1
        · have hp : P k = true := by rw [KK, show decide (y = (lo : Int) - 1) = true by simpa using h2]; rfl
          clear KK
          subst h2
          have hS := Lib.hid (sel_yes hp)
          have hR := Lib.hid (hSt.out k (by omega) hp)
          have ho' := ho.out
          obtain ⟨s1, s2⟩ : wr.cell? ⟨G, k, none⟩ = some (.bool (decide (k < k) && P k)) ∧ wr.frozen? ⟨G, k, none⟩ = false := ⟨(hr.out.cell k).trans (rowB_get (by omega)), hr.out.thaw k⟩
          have hoS := ownsRow_setCell_below ho' (a := ⟨G, k, none⟩) (by simp) (.bool true)
          have hrS := hr.out.put k (.bool true)
          rw [hR.out] at hrS
          have hbS : Below w.heap.size w (wr.setCell ⟨G, k, none⟩ (.bool true)) := hb.setCell (by simpa using hG0) _
          have hszS : G < (wr.setCell ⟨G, k, none⟩ (.bool true)).heap.size := hrS.lt
          have HrS := Lib.hid hrS
          clear hSt hSk hp hrS hr hR
          go_wp2_with (first
            | (at_builtin; refine wpList_append_own _ rfl _ _ 29 rfl (G + 1) 3 i0 (.int .i64 0) 1 8 Try.underlying29 hi hz0 hz1 hz2 rfl (by decide) _ _ _ rfl (hoS.alloc _) ⟨wr.heap.size, 0, none⟩ 1 1 [.int .i64 (k : Int)] rfl rfl ?c1 ?c2 ?c3 ?c4 ?c5 ?_))
          case c1 =>
            intro j u hj
            match j, hj with
            | 0, hj => simp at hj; subst hj; exact (Own.fresh' (w := wr.setCell ⟨G, k, none⟩ (.bool true)) (g := wr.heap.size) (by simp) 3 [.int .i64 (k : Int)]).cell 0
          case c2 => intro u hu; simp at hu; subst hu; rfl
          case c3 => unfold maxLen; omega
          case c4 => omega
          case c5 => rw [World.size_alloc]; omega
          intro v' w2 hown' hgrow _
          have hO : Hid (w2.ownsRow (G + 1) 3 1 v' (sel P (k + 1)).length ((sel P (k + 1)).map (Value.int .i64))) := Lib.hid (by rw [hS.out, List.length_append, List.map_append]; exact hown')
          have hB1 : Below w.heap.size w w2 := (hbS.alloc hbS.size _).grown hgrow (by rw [World.size_alloc]; omega) (fun j hj => by have := (hoS.lt j hj).1; omega)
          have hr2 : Hid (Own w2 G 4 (rowB P n (k + 1))) := Lib.hid ((HrS.out.on_alloc _).by_grown hgrow (fun e => by have := (hoS.lt G e.symm).1; omega))
          clear hown' hgrow ho ho' hoS HrS hbS hszS hb hS s1 s2
          go_wp2
          go_roundw
          case rel => exact ⟨k + 1, by go_num, by omega, by omega, hO, hr2, hB1⟩
          case measure => simp [intOf]; omega
        · by_cases h3 : 0 ≤ y
          · obtain ⟨u, rfl⟩ : ∃ u : Nat, y = (u : Int) := ⟨y.toNat, by omega⟩
            have hp0 : P k = P u := by rw [KK, show decide ((u : Int) = (lo : Int) - 1) = false by simpa using h2, show decide (0 ≤ (u : Int)) = true by simp]; simp
            have cu : wr.cell? ⟨G, u, none⟩ = some (.bool (P u)) := (hr.out.cell u).trans (by rw [rowB_get (by omega), show decide (u < k) = true by simp; omega]; rfl)
            clear KK
            obtain ⟨p, hp1⟩ : ∃ p, P u = p := ⟨_, rfl⟩
            rw [hp1] at cu hp0
            clear hp1
            have hp := hp0
            clear hp0
            cases p with
            | true =>
              have hS := Lib.hid (sel_yes hp)
              have hR := Lib.hid (hSt.out k (by omega) hp)
              have ho' := ho.out
              obtain ⟨s1, s2⟩ : wr.cell? ⟨G, k, none⟩ = some (.bool (decide (k < k) && P k)) ∧ wr.frozen? ⟨G, k, none⟩ = false := ⟨(hr.out.cell k).trans (rowB_get (by omega)), hr.out.thaw k⟩
              have hoS := ownsRow_setCell_below ho' (a := ⟨G, k, none⟩) (by simp) (.bool true)
              have hrS := hr.out.put k (.bool true)
              rw [hR.out] at hrS
              have hbS : Below w.heap.size w (wr.setCell ⟨G, k, none⟩ (.bool true)) := hb.setCell (by simpa using hG0) _
              have hszS : G < (wr.setCell ⟨G, k, none⟩ (.bool true)).heap.size := hrS.lt
              have HrS := Lib.hid hrS
              clear hSt hSk hp hrS hr hR
              go_wp2_with (first
                | (at_builtin; refine wpList_append_own _ rfl _ _ 29 rfl (G + 1) 3 i0 (.int .i64 0) 1 8 Try.underlying29 hi hz0 hz1 hz2 rfl (by decide) _ _ _ rfl (hoS.alloc _) ⟨wr.heap.size, 0, none⟩ 1 1 [.int .i64 (k : Int)] rfl rfl ?c1 ?c2 ?c3 ?c4 ?c5 ?_))
              case c1 =>
                intro j u hj
                match j, hj with
                | 0, hj => simp at hj; subst hj; exact (Own.fresh' (w := wr.setCell ⟨G, k, none⟩ (.bool true)) (g := wr.heap.size) (by simp) 3 [.int .i64 (k : Int)]).cell 0
              case c2 => intro u hu; simp at hu; subst hu; rfl
              case c3 => unfold maxLen; omega
              case c4 => omega
              case c5 => rw [World.size_alloc]; omega
              intro v' w2 hown' hgrow _
              have hO : Hid (w2.ownsRow (G + 1) 3 1 v' (sel P (k + 1)).length ((sel P (k + 1)).map (Value.int .i64))) := Lib.hid (by rw [hS.out, List.length_append, List.map_append]; exact hown')
              have hB1 : Below w.heap.size w w2 := (hbS.alloc hbS.size _).grown hgrow (by rw [World.size_alloc]; omega) (fun j hj => by have := (hoS.lt j hj).1; omega)
              have hr2 : Hid (Own w2 G 4 (rowB P n (k + 1))) := Lib.hid ((HrS.out.on_alloc _).by_grown hgrow (fun e => by have := (hoS.lt G e.symm).1; omega))
              clear hown' hgrow ho ho' hoS HrS hbS hszS hb hS s1 s2
              go_wp2
              go_roundw
              case rel => exact ⟨k + 1, by go_num, by omega, by omega, hO, hr2, hB1⟩
              case measure => simp [intOf]; omega
            | false =>
              have hS := Lib.hid (sel_no hp)
              have ho2 : Hid (wr.ownsRow (G + 1) 3 1 _ (sel P (k + 1)).length ((sel P (k + 1)).map (Value.int .i64))) := Lib.hid (by rw [hS.out]; exact ho.out)
              have hr2 : Hid (Own wr G 4 (rowB P n (k + 1))) := Lib.hid (by rw [hSk.out k hp]; exact hr.out)
              clear hp ho hr hS hSt hSk
              go_wp2
              go_roundw
              case rel => exact ⟨k + 1, by go_num, by omega, by omega, ho2, hr2, hb⟩
              case measure => simp [intOf]; omega
          · have hp : P k = false := by rw [KK, show decide (y = (lo : Int) - 1) = false by simpa using h2, show decide (0 ≤ y) = false by simpa using h3]; rfl
            clear KK
            have hS := Lib.hid (sel_no hp)
            have ho2 : Hid (wr.ownsRow (G + 1) 3 1 _ (sel P (k + 1)).length ((sel P (k + 1)).map (Value.int .i64))) := Lib.hid (by rw [hS.out]; exact ho.out)
            have hr2 : Hid (Own wr G 4 (rowB P n (k + 1))) := Lib.hid (by rw [hSk.out k hp]; exact hr.out)
            clear hp ho hr hS hSt hSk
            go_wp2
            go_roundw
            case rel => exact ⟨k + 1, by go_num, by omega, by omega, ho2, hr2, hb⟩
            case measure => simp [intOf]; omega
      · have hkn : k = n := by omega
        rw [hkn] at ho
        clear HL hkn hsl K KR hSt hSk hr
        go_wp2
        go_ret
        exact ⟨_, rfl, Owns.lower ho.out (by omega), hb⟩
end Go.Proofs.Ytnopnjleibbakab

namespace Go.Proofs.Ytnopnjleibbakab
set_option linter.unusedVariables false
open Go.RowKit Go.Sort

set_option maxHeartbeats 400000 in
theorem kids_any (l : Nodes) (ao : Option Addr) (cap : Nat) (i : Int) (B : Nat) (hn : (l.n : Int) ≤ 1000) (w : World) (hB : B ≤ w.heap.size) (hl : Has w ao B l) :
    Calls Try.prog 31 #[.slice ao l.n cap, .int .i64 i] w
      fun e w' => ∃ v, e = .returned v ∧ Owns w' w.heap.size v (kidsL l i) ∧ Below w.heap.size w w' := by
  by_cases h1 : i < -1
  · have H := Lib.hid (kids_low (l := l) h1)
    go_enter Try.func31, Try.ntmps31
    go_wp2_with fail
    go_ret
    exact ⟨_, rfl, by rw [H.out]; exact Owns.none _ _, Below.refl _ _⟩
  · have H := Lib.hid (kids_from (l := l) h1)
    have F := from_any l ao cap 0 i B hn (Nat.zero_le _) w hB hl
    rw [H.out] at F
    have F' := Lib.hid F
    clear F H hl
    go_enter Try.func31, Try.ntmps31
    go_wp2_with fail
    refine F'.out.mono ?_
    rintro e w1 ⟨v, rfl, ho, hb⟩
    go_wp2
    go_ret
    exact ⟨_, rfl, ho, hb⟩

set_option maxHeartbeats 1600000 in
theorem rkids_any (l : Nodes) (ao : Option Addr) (cap : Nat) (i : Int) (B : Nat) (hn : (l.n : Int) ≤ 1000) (w : World) (hB : B ≤ w.heap.size) (hl : Has w ao B l) :
    Calls Try.prog 37 #[.slice ao l.n cap, .int .i64 i] w
      fun e w' => ∃ v, e = .returned v ∧ Owns w' w.heap.size v (kidsL l i) ∧ Below w.heap.size w w' := by
  unfold kidsL
  obtain ⟨i0, hi, hz0, hz1, hz2⟩ := info_parts info_int
  have HL := Lib.hid hl
  obtain ⟨n, hnn⟩ : ∃ n, l.n = n := ⟨_, rfl⟩
  obtain ⟨P, hP⟩ : ∃ P : Nat → Bool, (fun k => decide (l.up k = i) && decide (-1 ≤ i)) = P := ⟨_, rfl⟩
  rw [hP]
  have PY := Lib.hid (fun k (h2 : l.up k = i) (h1 : -1 ≤ i) => show P k = true by rw [← hP]; simp [h1, h2])
  have PN := Lib.hid (fun k (h2 : ¬ (l.up k = i ∧ -1 ≤ i)) => show P k = false by rw [← hP]; simpa using h2)
  rw [hnn] at hn ⊢
  clear hP hl
  go_enter Try.func37, Try.ntmps37
  go_wp2_with fail
  go_loopw [5, 6] (fun v b8 wr => ∃ k : Nat, b8 = .int .i64 (k : Int) ∧ (k : Int) ≤ n ∧ Hid (Owns wr w.heap.size v (sel P k)) ∧ Below w.heap.size w wr)
    (fun _ b8 _ => n - (intOf b8).toNat)
  case atStart => exact ⟨0, rfl, by omega, Lib.hid (Owns.none _ _), Below.refl _ _⟩
  case round =>
    obtain ⟨k, rfl, hk2, ho, hb⟩ := hrel
    have hsl := sel_len P k
    by_cases h1 : (k : Int) < n
    · obtain ⟨b, off, rfl, hbB, -, -, -, -, c4⟩ := (HL.out.keep hb hB) k (by omega)
      clear HL
      by_cases h2 : l.up k = i
      · by_cases h3 : -1 ≤ i
        · have hS := Lib.hid (sel_yes (PY.out k h2 h3))
          have ho' := ho.out
          unfold Owns at ho'
          have hbs := hb.size
          clear PY PN
          go_wp2_with (first
            | (at_builtin; refine wpList_append_own _ rfl _ _ 29 rfl w.heap.size 3 i0 (.int .i64 0) 1 8 Try.underlying29 hi hz0 hz1 hz2 rfl (by decide) _ _ _ rfl (ho'.alloc _) ⟨wr.heap.size, 0, none⟩ 1 1 [.int .i64 (k : Int)] rfl rfl ?c1 ?c2 ?c3 ?c4 ?c5 ?_))
          case c1 =>
            intro j u hj
            match j, hj with
            | 0, hj => simp at hj; subst hj; simp [Addr.add]
          case c2 => intro u hu; simp at hu; subst hu; rfl
          case c3 => unfold maxLen; omega
          case c4 => omega
          case c5 => simp; omega
          intro v' w1 hown' hgrow _
          have hO := Lib.hid (Owns.step hown')
          rw [← hS.out] at hO
          have hB1 := below_grow hb ho' hgrow
          clear hown' ho' ho hgrow hb hS
          go_wp2
          go_roundw
          case rel => exact ⟨k + 1, by go_num, by omega, hO, hB1⟩
          case measure => simp [intOf]; omega
        · have hS := Lib.hid (sel_no (PN.out k (fun h => h3 h.2)))
          have ho2 : Hid (Owns wr w.heap.size _ (sel P (k + 1))) := Lib.hid (by rw [hS.out]; exact ho.out)
          clear PY PN ho hS
          go_wp2
          go_roundw
          case rel => exact ⟨k + 1, by go_num, by omega, ho2, hb⟩
          case measure => simp [intOf]; omega
      · have hS := Lib.hid (sel_no (PN.out k (fun h => h2 h.1)))
        have ho2 : Hid (Owns wr w.heap.size _ (sel P (k + 1))) := Lib.hid (by rw [hS.out]; exact ho.out)
        clear PY PN ho hS
        go_wp2
        go_roundw
        case rel => exact ⟨k + 1, by go_num, by omega, ho2, hb⟩
        case measure => simp [intOf]; omega
    · have hkn : k = n := by omega
      rw [hkn] at ho
      clear PY PN HL hkn hsl
      go_wp2
      go_ret
      exact ⟨_, rfl, ho.out, hb⟩

end Go.Proofs.Ytnopnjleibbakab

namespace Go.Proofs.Ytnopnjleibbakab
set_option linter.unusedVariables false
open Go.RowKit Go.Sort
end Go.Proofs.Ytnopnjleibbakab
