/- The walk of axis.Below. -/
import Derived.Test.YtgpglmponbipbadAxisWithin
import Derived.BigQuiet
namespace Go.Proofs.Ytgpglmponbipbad
set_option linter.unusedVariables false
open Go.RowKit Go.Sort

theorem info_bool : (Try.prog.info? 4).map (fun i => (i.zero, i.size, i.bytes)) = some (some (.bool false), 1, 1) := by kernel_rfl

theorem run_bools (n : Nat) (hn : (n : Int) ≤ 1000) (w : World) : (Instr.makeSlice 34 (.int .i64 (n : Int)) (.int .i64 (n : Int))).run Try.prog w = .ok (.slice (some ⟨w.heap.size, 0, none⟩) n n) (w.alloc (.cells (Array.replicate n (Value.bool false)) 4)) := by
  obtain ⟨j0, hj, hy0, hy1, hy2⟩ := info_parts info_bool
  have h := run_make (P := Try.prog) w 34 4 j0 (.bool false) Try.underlying34 hj hy0 .i64 .i64 n n (by omega) (Int.le_refl _) (by rw [hy2]; omega) (by omega)
  rw [h, hy1, Int.toNat_natCast, Nat.mul_one, ← List.toArray_replicate, ← toList_madeCells_one]
  rfl
def rowB (P : Nat → Bool) (n k : Nat) : List Value := (List.range n).map fun j => Value.bool (decide (j < k) && P j)
theorem rowB_get {P : Nat → Bool} {n k j : Nat} (h : j < n) : (rowB P n k)[j]? = some (.bool (decide (j < k) && P j)) := by simp [rowB, h]
theorem rowB_set {P : Nat → Bool} {n k : Nat} (hk : k < n) (h : P k = true) : (rowB P n k).set k (.bool true) = rowB P n (k + 1) := by
  apply List.ext_getElem?
  intro j
  by_cases hj : j < n
  · rw [rowB_get hj, List.getElem?_set]
    by_cases e : k = j
    · subst e; simp [h, rowB, hk]
    · rw [if_neg e, rowB_get hj, show decide (j < k) = decide (j < k + 1) by apply decide_eq_decide.2; omega]
  · rw [List.getElem?_eq_none (by simp [rowB]; omega), List.getElem?_eq_none (by simp [rowB]; omega)]
theorem rowB_skip {P : Nat → Bool} {n k : Nat} (h : P k = false) : rowB P n (k + 1) = rowB P n k := by
  apply List.map_congr_left
  intro j _
  by_cases e : j = k
  · subst e; rw [h]; simp
  · rw [show decide (j < k) = decide (j < k + 1) by apply decide_eq_decide.2; omega]
theorem rowB_start {P : Nat → Bool} {n k : Nat} (h : ∀ j, j < k → P j = false) : List.replicate n (Value.bool false) = rowB P n k := by
  apply List.ext_getElem?
  intro j
  by_cases hj : j < n
  · rw [rowB_get hj, List.getElem?_replicate, if_pos hj]
    by_cases e : j < k
    · rw [h j e]; simp
    · simp [e]
  · rw [List.getElem?_eq_none (by simp; omega), List.getElem?_eq_none (by simp [rowB]; omega)]

set_option maxHeartbeats 1600000 in
theorem below_any (l : Nodes) (ao : Option Addr) (cap : Nat) (i : Int) (B : Nat) (hn : (l.n : Int) ≤ 1000) (w : World) (hB : B ≤ w.heap.size) (hl : Has w ao B l) :
    Calls Try.prog 11 #[.slice ao l.n cap, .int .i64 i] w
      fun e w' => ∃ v, e = .returned v ∧ Owns w' w.heap.size v (belowL l i) ∧ Below w.heap.size w w' := by
  have R := Lib.hid (right_any l ao cap B hn)
  by_cases g1 : i < -1
  · have H := Lib.hid (below_low (l := l) g1)
    go_enter Try.func11, Try.ntmps11
    go_wp2_with fail
    go_ret
    exact ⟨_, rfl, by rw [H.out]; exact Owns.none _ _, Below.refl _ _⟩
  by_cases g2 : (l.n : Int) ≤ i
  · have H := Lib.hid (below_high (l := l) g2)
    go_enter Try.func11, Try.ntmps11
    go_wp2_with fail
    go_ret
    exact ⟨_, rfl, by rw [H.out]; exact Owns.none _ _, Below.refl _ _⟩
  cases hr : rightB l l.n with
  | false =>
    have H := Lib.hid (below_no (i := i) hr)
    rw [hr] at R
    go_enter Try.func11, Try.ntmps11
    go_wp2_with fail
    refine (R.out _ hB hl).mono ?_
    rintro e w1 ⟨rfl, hb1⟩
    go_wp2_with fail
    go_ret
    exact ⟨_, rfl, by rw [H.out]; exact Owns.none _ _, hb1⟩
  | true =>
    rw [hr] at R
    rw [below_yes hr g1]
    obtain ⟨lo, rfl⟩ : ∃ lo : Nat, i = (lo : Int) - 1 := ⟨(i + 1).toNat, by omega⟩
    obtain ⟨i0, hi, hz0, hz1, hz2⟩ := info_parts info_int
    have HL := Lib.hid hl
    have K := Lib.hid (fun k hk => @in_step l ((lo : Int) - 1) l.n k hr hk)
    have KZ := Lib.hid (fun k (hk : k < l.n) h => @in_behind l ((lo : Int) - 1) l.n hr k k (Nat.le_refl _) hk h)
    have KR := Lib.hid (fun k hk => @right_ok l l.n hr k hk)
    obtain ⟨P, hP⟩ : ∃ P : Nat → Bool, inB l ((lo : Int) - 1) = P := ⟨_, rfl⟩
    rw [hP] at K KZ ⊢
    obtain ⟨n, hnn⟩ : ∃ n, l.n = n := ⟨_, rfl⟩
    rw [hnn] at hn K KZ KR R g2 ⊢
    have g1' : ¬ ((lo : Int) - 1 < -1) := g1
    have hlo : lo ≤ n := by omega
    have hlo0 : ((lo : Int) - 1 + 1) = (lo : Int) := by omega
    have hmk := run_bools n hn
    have hSt := Lib.hid (fun (k : Nat) (h1 : k < n) (h2 : P k = true) => rowB_set h1 h2)
    have hSk := Lib.hid (fun (k : Nat) (h2 : P k = false) => rowB_skip (n := n) h2)
    have hS0 := Lib.hid (rowB_start (n := n) (k := lo) fun j hj => KZ.out j (by omega) (by omega))
    have hZ0 := Lib.hid (sel_none (k := lo) fun j hj => KZ.out j (by omega) (by omega))
    clear hP hl hr KZ
    go_enter Try.func11, Try.ntmps11
    go_wp2_with fail
    refine (R.out _ hB HL.out).mono ?_
    rintro e w1 ⟨rfl, hb1⟩
    clear R
    go_wp2_with fail
    have hR0 : Own (w1.alloc (.cells (Array.replicate n (Value.bool false)) 4)) w1.heap.size 4 (List.replicate n (Value.bool false)) := by rw [← List.toArray_replicate]; exact Own.fresh w1 4 _
    have hB0 : Below w.heap.size w (w1.alloc (.cells (Array.replicate n (Value.bool false)) 4)) := hb1.alloc hb1.size _
    obtain ⟨G, hG⟩ : ∃ G, w1.heap.size = G := ⟨_, rfl⟩
    have hG0 : w.heap.size ≤ G := by have := hb1.size; omega
    rw [hG] at hR0 ⊢
    generalize w1.alloc _ = W0 at *
    rw [hS0.out] at hR0
    have hR0' := Lib.hid hR0
    clear hR0 hmk hb1 hS0
    go_loopw [6, 7] (fun v b8 wr => ∃ k : Nat, b8 = .int .i64 (k : Int) ∧ lo ≤ k ∧ (k : Int) ≤ n ∧ Hid (wr.ownsRow (G + 1) 3 1 v (sel P k).length ((sel P k).map (Value.int .i64))) ∧ Hid (Own wr G 4 (rowB P n k)) ∧ Below w.heap.size w wr)
      (fun _ b8 _ => n - (intOf b8).toNat)
    case atStart =>
      refine ⟨lo, rfl, Nat.le_refl _, by omega, Lib.hid ?_, hR0', hB0⟩
      rw [hZ0.out]
      exact World.ownsRow_nil _ _ _ _
    case round =>
      obtain ⟨k, rfl, hk1, hk2, ho, hr, hb⟩ := hrel
      have hsl := sel_len P k
      clear hR0' hB0
      by_cases h1 : (k : Int) < n
      · obtain ⟨b, off, rfl, hbB, -, -, -, -, c4⟩ := (HL.out.keep hb hB) k (by omega)
        have KK := K.out k (by omega)
        have R2 := KR.out k (by omega)
        clear HL K KR hZ0
        obtain ⟨y, hy⟩ : ∃ y, l.up k = y := ⟨_, rfl⟩
        rw [hy] at KK R2 c4
        clear hy
        by_cases h2 : y = (lo : Int) - 1
        · have hp : P k = true := by rw [KK, show decide (y = (lo : Int) - 1) = true by simpa using h2]; rfl
          clear KK
          subst h2
          have hS := Lib.hid (sel_yes hp)
          have hR := Lib.hid (hSt.out k (by omega) hp)
          have ho' := ho.out
          obtain ⟨s1, s2⟩ : wr.cell? ⟨G, k, none⟩ = some (.bool (decide (k < k) && P k)) ∧ wr.frozen? ⟨G, k, none⟩ = false := ⟨(hr.out.cell k).trans (rowB_get (by omega)), hr.out.thaw k⟩
          have hoS := ownsRow_setCell_below ho' (a := ⟨G, k, none⟩) (by simp) (.bool true)
          have hrS := hr.out.put k (.bool true)
          rw [hR.out] at hrS
          have hbS : Below w.heap.size w (wr.setCell ⟨G, k, none⟩ (.bool true)) := hb.setCell (by simpa using hG0) _
          have hszS : G < (wr.setCell ⟨G, k, none⟩ (.bool true)).heap.size := hrS.lt
          have HrS := Lib.hid hrS
          clear hSt hSk hp hrS hr hR
          go_wp2_with (first
            | (at_builtin; refine wpList_append_own _ rfl _ _ 26 rfl (G + 1) 3 i0 (.int .i64 0) 1 8 Try.underlying26 hi hz0 hz1 hz2 rfl (by decide) _ _ _ rfl (hoS.alloc _) ⟨wr.heap.size, 0, none⟩ 1 1 [.int .i64 (k : Int)] rfl rfl ?c1 ?c2 ?c3 ?c4 ?c5 ?_))
          case c1 =>
            intro j u hj
            match j, hj with
            | 0, hj => simp at hj; subst hj; exact (Own.fresh' (w := wr.setCell ⟨G, k, none⟩ (.bool true)) (g := wr.heap.size) (by simp) 3 [.int .i64 (k : Int)]).cell 0
          case c2 => intro u hu; simp at hu; subst hu; rfl
          case c3 => unfold maxLen; omega
          case c4 => omega
          case c5 => rw [World.size_alloc]; omega
          intro v' w2 hown' hgrow _
          have hO : Hid (w2.ownsRow (G + 1) 3 1 v' (sel P (k + 1)).length ((sel P (k + 1)).map (Value.int .i64))) := Lib.hid (by rw [hS.out, List.length_append, List.map_append]; exact hown')
          have hB1 : Below w.heap.size w w2 := (hbS.alloc hbS.size _).grown hgrow (by rw [World.size_alloc]; omega) (fun j hj => by have := (hoS.lt j hj).1; omega)
          have hr2 : Hid (Own w2 G 4 (rowB P n (k + 1))) := Lib.hid ((HrS.out.on_alloc _).by_grown hgrow (fun e => by have := (hoS.lt G e.symm).1; omega))
          clear hown' hgrow ho ho' hoS HrS hbS hszS hb hS s1 s2
          go_wp2
          go_roundw
          case rel => exact ⟨k + 1, by go_num, by omega, by omega, hO, hr2, hB1⟩
          case measure => simp [intOf]; omega
        · by_cases h3 : 0 ≤ y
          · obtain ⟨u, rfl⟩ : ∃ u : Nat, y = (u : Int) := ⟨y.toNat, by omega⟩
            have hp0 : P k = P u := by rw [KK, show decide ((u : Int) = (lo : Int) - 1) = false by simpa using h2, show decide (0 ≤ (u : Int)) = true by simp]; simp
            have cu : wr.cell? ⟨G, u, none⟩ = some (.bool (P u)) := (hr.out.cell u).trans (by rw [rowB_get (by omega), show decide (u < k) = true by simp; omega]; rfl)
            clear KK
            obtain ⟨p, hp1⟩ : ∃ p, P u = p := ⟨_, rfl⟩
            rw [hp1] at cu hp0
            clear hp1
            have hp := hp0
            clear hp0
            cases p with
            | true =>
              have hS := Lib.hid (sel_yes hp)
              have hR := Lib.hid (hSt.out k (by omega) hp)
              have ho' := ho.out
              obtain ⟨s1, s2⟩ : wr.cell? ⟨G, k, none⟩ = some (.bool (decide (k < k) && P k)) ∧ wr.frozen? ⟨G, k, none⟩ = false := ⟨(hr.out.cell k).trans (rowB_get (by omega)), hr.out.thaw k⟩
              have hoS := ownsRow_setCell_below ho' (a := ⟨G, k, none⟩) (by simp) (.bool true)
              have hrS := hr.out.put k (.bool true)
              rw [hR.out] at hrS
              have hbS : Below w.heap.size w (wr.setCell ⟨G, k, none⟩ (.bool true)) := hb.setCell (by simpa using hG0) _
              have hszS : G < (wr.setCell ⟨G, k, none⟩ (.bool true)).heap.size := hrS.lt
              have HrS := Lib.hid hrS
              clear hSt hSk hp hrS hr hR
              go_wp2_with (first
                | (at_builtin; refine wpList_append_own _ rfl _ _ 26 rfl (G + 1) 3 i0 (.int .i64 0) 1 8 Try.underlying26 hi hz0 hz1 hz2 rfl (by decide) _ _ _ rfl (hoS.alloc _) ⟨wr.heap.size, 0, none⟩ 1 1 [.int .i64 (k : Int)] rfl rfl ?c1 ?c2 ?c3 ?c4 ?c5 ?_))
              case c1 =>
                intro j u hj
                match j, hj with
                | 0, hj => simp at hj; subst hj; exact (Own.fresh' (w := wr.setCell ⟨G, k, none⟩ (.bool true)) (g := wr.heap.size) (by simp) 3 [.int .i64 (k : Int)]).cell 0
              case c2 => intro u hu; simp at hu; subst hu; rfl
              case c3 => unfold maxLen; omega
              case c4 => omega
              case c5 => rw [World.size_alloc]; omega
              intro v' w2 hown' hgrow _
              have hO : Hid (w2.ownsRow (G + 1) 3 1 v' (sel P (k + 1)).length ((sel P (k + 1)).map (Value.int .i64))) := Lib.hid (by rw [hS.out, List.length_append, List.map_append]; exact hown')
              have hB1 : Below w.heap.size w w2 := (hbS.alloc hbS.size _).grown hgrow (by rw [World.size_alloc]; omega) (fun j hj => by have := (hoS.lt j hj).1; omega)
              have hr2 : Hid (Own w2 G 4 (rowB P n (k + 1))) := Lib.hid ((HrS.out.on_alloc _).by_grown hgrow (fun e => by have := (hoS.lt G e.symm).1; omega))
              clear hown' hgrow ho ho' hoS HrS hbS hszS hb hS s1 s2
              go_wp2
              go_roundw
              case rel => exact ⟨k + 1, by go_num, by omega, by omega, hO, hr2, hB1⟩
              case measure => simp [intOf]; omega
            | false =>
              have hS := Lib.hid (sel_no hp)
              have ho2 : Hid (wr.ownsRow (G + 1) 3 1 _ (sel P (k + 1)).length ((sel P (k + 1)).map (Value.int .i64))) := Lib.hid (by rw [hS.out]; exact ho.out)
              have hr2 : Hid (Own wr G 4 (rowB P n (k + 1))) := Lib.hid (by rw [hSk.out k hp]; exact hr.out)
              clear hp ho hr hS hSt hSk
              go_wp2
              go_roundw
              case rel => exact ⟨k + 1, by go_num, by omega, by omega, ho2, hr2, hb⟩
              case measure => simp [intOf]; omega
          · have hp : P k = false := by rw [KK, show decide (y = (lo : Int) - 1) = false by simpa using h2, show decide (0 ≤ y) = false by simpa using h3]; rfl
            clear KK
            have hS := Lib.hid (sel_no hp)
            have ho2 : Hid (wr.ownsRow (G + 1) 3 1 _ (sel P (k + 1)).length ((sel P (k + 1)).map (Value.int .i64))) := Lib.hid (by rw [hS.out]; exact ho.out)
            have hr2 : Hid (Own wr G 4 (rowB P n (k + 1))) := Lib.hid (by rw [hSk.out k hp]; exact hr.out)
            clear hp ho hr hS hSt hSk
            go_wp2
            go_roundw
            case rel => exact ⟨k + 1, by go_num, by omega, by omega, ho2, hr2, hb⟩
            case measure => simp [intOf]; omega
      · have hkn : k = n := by omega
        rw [hkn] at ho
        clear HL hkn hsl K KR hSt hSk hr
        go_wp2
        go_ret
        exact ⟨_, rfl, Owns.lower ho.out (by omega), hb⟩
end Go.Proofs.Ytgpglmponbipbad
