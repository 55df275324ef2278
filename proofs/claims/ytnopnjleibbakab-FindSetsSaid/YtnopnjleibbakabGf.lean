/- The walk of axis.from. What each of axis' functions comes to. No function in sight. Which nodes are in one, at any depth. No function in sight. The walks of Right. -/
import Derived.Test.YtnopnjleibbakabLeaf
import Derived.Test.YtnopnjleibbakabQuiet
import Derived.BigQuiet
namespace Go.Proofs.Ytnopnjleibbakab
set_option linter.unusedVariables false
open Go.RowKit Go.Sort

set_option maxHeartbeats 1600000 in
theorem from_any (l : Nodes) (ao : Option Addr) (cap lo : Nat) (i : Int) (B : Nat) (hn : (l.n : Int) ≤ 1000) (hlo : lo ≤ l.n) (w : World) (hB : B ≤ w.heap.size) (hl : Has w ao B l) :
    Calls Try.prog 50 #[.slice ao l.n cap, .int .i64 (lo : Int), .int .i64 i] w
      fun e w' => ∃ v, e = .returned v ∧ Owns w' w.heap.size v (sel (fun k => decide (lo ≤ k) && decide (l.up k = i)) l.n) ∧ Below w.heap.size w w' := by
  obtain ⟨i0, hi, hz0, hz1, hz2⟩ := info_parts info_int
  have HL := Lib.hid hl
  obtain ⟨P, hP⟩ : ∃ P : Nat → Bool, (fun k => decide (lo ≤ k) && decide (l.up k = i)) = P := ⟨_, rfl⟩
  rw [hP]
  have PY := Lib.hid (fun k (h1 : lo ≤ k) (h2 : l.up k = i) => show P k = true by rw [← hP]; simp [h1, h2])
  have PN := Lib.hid (fun k (h2 : ¬ l.up k = i) => show P k = false by rw [← hP]; simp [h2])
  have PZ := Lib.hid (fun k (h2 : k < lo) => show P k = false by rw [← hP]; simp; omega)
  obtain ⟨n, hnn⟩ : ∃ n, l.n = n := ⟨_, rfl⟩
  rw [hnn] at hn hlo ⊢
  clear hP hl
  go_enter Try.func50, Try.ntmps50
  go_wp2_with fail
  go_loopw [7, 8] (fun v b8 wr => ∃ k : Nat, b8 = .int .i64 (k : Int) ∧ lo ≤ k ∧ (k : Int) ≤ n ∧ Hid (Owns wr w.heap.size v (sel P k)) ∧ Below w.heap.size w wr)
    (fun _ b8 _ => n - (intOf b8).toNat)
  case atStart =>
    refine ⟨lo, rfl, Nat.le_refl _, by omega, Lib.hid ?_, Below.refl _ _⟩
    rw [sel_none PZ.out]
    exact Owns.none _ _
  case round =>
    obtain ⟨k, rfl, hk1, hk2, ho, hb⟩ := hrel
    have hsl := sel_len P k
    by_cases h1 : (k : Int) < n
    · obtain ⟨b, off, rfl, hbB, -, -, -, -, c4⟩ := (HL.out.keep hb hB) k (by omega)
      clear HL
      by_cases h2 : l.up k = i
      · have hS := Lib.hid (sel_yes (PY.out k hk1 h2))
        have ho' := ho.out
        unfold Owns at ho'
        have hbs := hb.size
        clear PY PN PZ
        go_wp2_with (first
          | (at_builtin; refine wpList_append_own _ rfl _ _ 29 rfl w.heap.size 3 i0 (.int .i64 0) 1 8 Try.underlying29 hi hz0 hz1 hz2 rfl (by decide) _ _ _ rfl (ho'.alloc _) ⟨wr.heap.size, 0, none⟩ 1 1 [.int .i64 (k : Int)] rfl rfl ?c1 ?c2 ?c3 ?c4 ?c5 ?_))
        case c1 =>
          intro j u hj
          match j, hj with
          | 0, hj => simp at hj; subst hj; simp [Addr.add]
        case c2 => intro u hu; simp at hu; subst hu; rfl
        case c3 => unfold maxLen; omega
        case c4 => omega
        case c5 => simp; omega
        intro v' w1 hown' hgrow _
        have hO := Lib.hid (Owns.step hown')
        rw [← hS.out] at hO
        have hB1 := below_grow hb ho' hgrow
        clear hown' ho' ho hgrow hb hS
        go_wp2
        go_roundw
        case rel => exact ⟨k + 1, by go_num, by omega, by omega, hO, hB1⟩
        case measure => simp [intOf]; omega
      · have hS := Lib.hid (sel_no (PN.out k h2))
        have ho2 : Hid (Owns wr w.heap.size _ (sel P (k + 1))) := Lib.hid (by rw [hS.out]; exact ho.out)
        clear PY PN PZ ho hS
        go_wp2
        go_roundw
        case rel => exact ⟨k + 1, by go_num, by omega, by omega, ho2, hb⟩
        case measure => simp [intOf]; omega
    · have hkn : k = n := by omega
      rw [hkn] at ho
      clear PY PN PZ HL hkn hsl
      go_wp2
      go_ret
      exact ⟨_, rfl, ho.out, hb⟩
end Go.Proofs.Ytnopnjleibbakab

namespace Go.Proofs.Ytnopnjleibbakab
set_option linter.unusedVariables false
open Go.RowKit

def kidsL (l : Nodes) (i : Int) : List Int := sel (fun k => decide (l.up k = i) && decide (-1 ≤ i)) l.n
def nextL (l : Nodes) (i : Int) : List Int := if 0 ≤ i ∧ i < l.n then sel (fun k => decide (i.toNat + 1 ≤ k) && decide (l.up k = l.up i.toNat)) l.n else []
def leavesL (l : Nodes) : List Int := sel (fun k => decide (l.kd k = 4) || decide (l.kd k = 5)) l.n
def upL (l : Nodes) (i : Int) : List Int := if 0 ≤ i ∧ i < l.n ∧ 0 ≤ l.up i.toNat then [l.up i.toNat] else []
def nodeT (l : Nodes) (s : ByteArray) (i : Int) : ByteArray :=
  if 0 ≤ i ∧ i < l.n ∧ max (l.fr i.toNat) 0 < min (l.tt i.toNat) s.size then s.extract (max (l.fr i.toNat) 0).toNat (min (l.tt i.toNat) s.size).toNat else ⟨#[]⟩
def okN (l : Nodes) (k : Nat) : Bool := decide (-1 ≤ l.up k) && decide (l.up k < k)
def treeB (l : Nodes) : Nat → Bool | 0 => true | k + 1 => treeB l k && okN l k
theorem right_step {l : Nodes} {k : Nat} (h : treeB l k = true) (h2 : okN l k = true) : treeB l (k + 1) = true := by show (treeB l k && okN l k) = true; rw [h, h2]; rfl
theorem right_bad {l : Nodes} {k : Nat} (h : okN l k = false) : ∀ d, treeB l (k + 1 + d) = false
  | 0 => by show (treeB l k && okN l k) = false; rw [h]; simp
  | d + 1 => by show (treeB l (k + 1 + d) && okN l (k + 1 + d)) = false; rw [right_bad h d]; rfl
theorem right_bad' {l : Nodes} {k n : Nat} (h : okN l k = false) (hk : k < n) : treeB l n = false := by
  have := right_bad h (n - (k + 1)); rwa [show k + 1 + (n - (k + 1)) = n by omega] at this
theorem okN_yes {l : Nodes} {k : Nat} (h1 : -1 ≤ l.up k) (h2 : l.up k < k) : okN l k = true := by simp [okN, h1, h2]
theorem okN_low {l : Nodes} {k : Nat} (h1 : l.up k < -1) : okN l k = false := by simp [okN]; omega
theorem okN_high {l : Nodes} {k : Nat} (h1 : (k : Int) ≤ l.up k) : okN l k = false := by simp [okN]; omega
theorem right_ok {l : Nodes} : ∀ {n : Nat}, treeB l n = true → ∀ k, k < n → -1 ≤ l.up k ∧ l.up k < k
  | 0, _, k, hk => absurd hk (Nat.not_lt_zero _)
  | n + 1, h, k, hk => by
    have h' : treeB l n = true ∧ okN l n = true := by
      have : (treeB l n && okN l n) = true := h
      simpa using this
    rcases Nat.lt_or_ge k n with h1 | h1
    · exact right_ok h'.1 k h1
    · rw [show k = n by omega]
      have := h'.2
      simpa [okN] using this
theorem kids_low {l : Nodes} {i : Int} (h : i < -1) : kidsL l i = [] := by
  unfold kidsL; refine sel_none fun j _ => ?_
  simp; omega
theorem kids_from {l : Nodes} {i : Int} (h : ¬ i < -1) : sel (fun k => decide (0 ≤ k) && decide (l.up k = i)) l.n = kidsL l i := by
  unfold kidsL; refine sel_congr fun j _ => ?_
  rw [show decide (-1 ≤ i) = true by simp; omega]; simp
theorem next_in {l : Nodes} {i : Nat} (h : i < l.n) : nextL l (i : Int) = sel (fun k => decide (i + 1 ≤ k) && decide (l.up k = l.up i)) l.n := by
  unfold nextL; rw [if_pos ⟨by omega, by omega⟩]; rfl
theorem next_out {l : Nodes} {i : Int} (h : i < 0 ∨ (l.n : Int) ≤ i) : nextL l i = [] := by unfold nextL; rw [if_neg (by omega)]
theorem up_in {l : Nodes} {i : Nat} (h : i < l.n) (h2 : 0 ≤ l.up i) : upL l (i : Int) = [l.up i] := by unfold upL; rw [if_pos ⟨by omega, by omega, h2⟩]; rfl
theorem up_no {l : Nodes} {i : Nat} (h2 : l.up i < 0) : upL l (i : Int) = [] := by unfold upL; rw [if_neg (fun h => by have : 0 ≤ l.up i := h.2.2; omega)]
theorem up_out {l : Nodes} {i : Int} (h : i < 0 ∨ (l.n : Int) ≤ i) : upL l i = [] := by unfold upL; rw [if_neg (by omega)]
theorem text_in {l : Nodes} {s : ByteArray} {i : Nat} (h : i < l.n) (h2 : max (l.fr i) 0 < min (l.tt i) s.size) : nodeT l s (i : Int) = s.extract (max (l.fr i) 0).toNat (min (l.tt i) s.size).toNat := by
  unfold nodeT; rw [if_pos ⟨by omega, by omega, h2⟩]; rfl
theorem text_no {l : Nodes} {s : ByteArray} {i : Nat} (h2 : ¬ max (l.fr i) 0 < min (l.tt i) s.size) : nodeT l s (i : Int) = ⟨#[]⟩ := by unfold nodeT; rw [if_neg (fun h => h2 h.2.2)]
theorem text_out {l : Nodes} {s : ByteArray} {i : Int} (h : i < 0 ∨ (l.n : Int) ≤ i) : nodeT l s i = ⟨#[]⟩ := by unfold nodeT; rw [if_neg (by omega)]
theorem place_of (n : Nat) (i : Int) : i < 0 ∨ (0 ≤ i ∧ (n : Int) ≤ i) ∨ ∃ j : Nat, i = (j : Int) ∧ j < n := by
  by_cases h : i < 0
  · exact .inl h
  · by_cases h2 : i < n
    · exact .inr (.inr ⟨i.toNat, by omega, by omega⟩)
    · exact .inr (.inl ⟨by omega, by omega⟩)
end Go.Proofs.Ytnopnjleibbakab

namespace Go.Proofs.Ytnopnjleibbakab
set_option linter.unusedVariables false
open Go.RowKit

def win (l : Nodes) (i : Int) : Nat → Nat → Bool
  | 0, _ => false
  | f + 1, k => decide (l.up k = i) || (decide (0 ≤ l.up k) && win l i f (l.up k).toNat)
def inB (l : Nodes) (i : Int) (k : Nat) : Bool := win l i (k + 1) k
theorem win_fuel {l : Nodes} {i : Int} {n : Nat} (hr : treeB l n = true) : ∀ (b k : Nat), k ≤ b → k < n → ∀ f g, k < f → k < g → win l i f k = win l i g k := by
  intro b
  induction b with
  | zero =>
    intro k hb hk f g hf hg
    obtain ⟨f, rfl⟩ : ∃ f', f = f' + 1 := ⟨f - 1, by omega⟩
    obtain ⟨g, rfl⟩ : ∃ g', g = g' + 1 := ⟨g - 1, by omega⟩
    have h := right_ok hr k hk
    have e : decide (0 ≤ l.up k) = false := by simp; omega
    show (decide (l.up k = i) || (decide (0 ≤ l.up k) && win l i f (l.up k).toNat)) = (decide (l.up k = i) || (decide (0 ≤ l.up k) && win l i g (l.up k).toNat))
    rw [e]; rfl
  | succ b ih =>
    intro k hb hk f g hf hg
    obtain ⟨f, rfl⟩ : ∃ f', f = f' + 1 := ⟨f - 1, by omega⟩
    obtain ⟨g, rfl⟩ : ∃ g', g = g' + 1 := ⟨g - 1, by omega⟩
    have h := right_ok hr k hk
    show (decide (l.up k = i) || (decide (0 ≤ l.up k) && win l i f (l.up k).toNat)) = (decide (l.up k = i) || (decide (0 ≤ l.up k) && win l i g (l.up k).toNat))
    by_cases h0 : 0 ≤ l.up k
    · rw [ih (l.up k).toNat (by omega) (by omega) f g (by omega) (by omega)]
    · rw [show decide (0 ≤ l.up k) = false by simpa using h0]; rfl
theorem in_step {l : Nodes} {i : Int} {n k : Nat} (hr : treeB l n = true) (hk : k < n) : inB l i k = (decide (l.up k = i) || (decide (0 ≤ l.up k) && inB l i (l.up k).toNat)) := by
  have h := right_ok hr k hk
  show (decide (l.up k = i) || (decide (0 ≤ l.up k) && win l i k (l.up k).toNat)) = _
  by_cases h0 : 0 ≤ l.up k
  · rw [win_fuel hr k (l.up k).toNat (by omega) (by omega) k ((l.up k).toNat + 1) (by omega) (by omega)]; rfl
  · rw [show decide (0 ≤ l.up k) = false by simpa using h0]; rfl
theorem in_yes {l : Nodes} {i : Int} {n k : Nat} (hr : treeB l n = true) (hk : k < n) (h : l.up k = i) : inB l i k = true := by rw [in_step hr hk, show decide (l.up k = i) = true by simpa using h]; rfl
theorem in_next {l : Nodes} {i : Int} {n k : Nat} (hr : treeB l n = true) (hk : k < n) (h : ¬ l.up k = i) (h0 : 0 ≤ l.up k) : inB l i k = inB l i (l.up k).toNat := by
  rw [in_step hr hk, show decide (l.up k = i) = false by simpa using h, show decide (0 ≤ l.up k) = true by simpa using h0]; simp
theorem in_top {l : Nodes} {i : Int} {n k : Nat} (hr : treeB l n = true) (hk : k < n) (h : ¬ l.up k = i) (h0 : ¬ 0 ≤ l.up k) : inB l i k = false := by
  rw [in_step hr hk, show decide (l.up k = i) = false by simpa using h, show decide (0 ≤ l.up k) = false by simpa using h0]; rfl
/-- What is in a node stands behind it. -/
theorem in_behind {l : Nodes} {i : Int} {n : Nat} (hr : treeB l n = true) : ∀ (b k : Nat), k ≤ b → k < n → (k : Int) ≤ i → inB l i k = false := by
  intro b
  induction b with
  | zero =>
    intro k hb hk hi
    have h := right_ok hr k hk
    exact in_top hr hk (by omega) (by omega)
  | succ b ih =>
    intro k hb hk hi
    have h := right_ok hr k hk
    by_cases h0 : 0 ≤ l.up k
    · rw [in_next hr hk (by omega) h0]
      exact ih _ (by omega) (by omega) (by omega)
    · exact in_top hr hk (by omega) h0
def belowL (l : Nodes) (i : Int) : List Int := if treeB l l.n = true ∧ -1 ≤ i then sel (inB l i) l.n else []
theorem below_no {l : Nodes} {i : Int} (h : treeB l l.n = false) : belowL l i = [] := by unfold belowL; rw [if_neg (fun h2 => by rw [h] at h2; cases h2.1)]
theorem below_low {l : Nodes} {i : Int} (h : i < -1) : belowL l i = [] := by unfold belowL; rw [if_neg (by omega)]
theorem below_yes {l : Nodes} {i : Int} (h : treeB l l.n = true) (hi : ¬ i < -1) : belowL l i = sel (inB l i) l.n := by unfold belowL; rw [if_pos ⟨h, by omega⟩]
theorem below_high {l : Nodes} {i : Int} (h : (l.n : Int) ≤ i) : belowL l i = [] := by
  cases hr : treeB l l.n with
  | false => exact below_no hr
  | true => rw [below_yes hr (by omega)]; exact sel_none fun j hj => in_behind hr j j (Nat.le_refl _) hj (by omega)
end Go.Proofs.Ytnopnjleibbakab

namespace Go.Proofs.Ytnopnjleibbakab
set_option linter.unusedVariables false
open Go.RowKit Go.Sort

set_option maxHeartbeats 1600000 in
theorem right_any (l : Nodes) (ao : Option Addr) (cap : Nat) (B : Nat) (hn : (l.n : Int) ≤ 1000) (w : World) (hB : B ≤ w.heap.size) (hl : Has w ao B l) :
    Calls Try.prog 19 #[.slice ao l.n cap] w fun e w' => e = .returned (.bool (treeB l l.n)) ∧ Below w.heap.size w w' := by
  have HL := Lib.hid hl
  have H1 := Lib.hid (fun (k : Nat) (h : treeB l k = true) h1 h2 => right_step h (@okN_yes l k h1 h2))
  have H2 := Lib.hid (fun (k n : Nat) (h : l.up k < -1) (hk : k < n) => right_bad' (okN_low h) hk)
  have H3 := Lib.hid (fun (k n : Nat) (h : (k : Int) ≤ l.up k) (hk : k < n) => right_bad' (okN_high h) hk)
  obtain ⟨n, hnn⟩ : ∃ n, l.n = n := ⟨_, rfl⟩
  rw [hnn] at hn ⊢
  clear hl
  go_enter Try.func19, Try.ntmps19
  go_wp2_with fail
  go_loopw [2, 7] (fun b2 b8 wr => ∃ k : Nat, b2 = .bool false ∧ b8 = .int .i64 (k : Int) ∧ (k : Int) ≤ n ∧ Hid (treeB l k = true) ∧ Below w.heap.size w wr)
    (fun _ b8 _ => n - (intOf b8).toNat)
  case atStart => exact ⟨0, rfl, rfl, by omega, Lib.hid rfl, Below.refl _ _⟩
  case round =>
    obtain ⟨k, rfl, rfl, hk2, hr, hb⟩ := hrel
    by_cases h1 : (k : Int) < n
    · obtain ⟨b, off, rfl, hbB, c0, c1, c2, c3, c4⟩ := (HL.out.keep hb hB) k (by omega)
      clear HL
      have G1 := Lib.hid (H1.out k hr.out)
      have G2 := Lib.hid (H2.out k n)
      have G3 := Lib.hid (H3.out k n)
      clear H1 H2 H3
      obtain ⟨x, hx⟩ : ∃ x, l.up k = x := ⟨_, rfl⟩
      rw [hx] at G1 G2 G3 c4
      clear hx
      by_cases h2 : x < -1
      · have G := Lib.hid (G2.out h2 (by omega))
        clear G1 G2 G3 hr
        go_wp2
        go_ret
        exact ⟨ret_bool G.out.symm, hb.alloc hb.size _⟩
      · by_cases h3 : (k : Int) ≤ x
        · have G := Lib.hid (G3.out h3 (by omega))
          clear G1 G2 G3 hr
          go_wp2
          go_ret
          exact ⟨ret_bool G.out.symm, hb.alloc hb.size _⟩
        · have G := Lib.hid (G1.out (by omega) (by omega))
          clear G1 G2 G3 hr
          go_wp2
          go_roundw
          case rel => exact ⟨k + 1, rfl, by go_num, by omega, G, hb.alloc hb.size _⟩
          case measure => simp [intOf]; omega
    · have hkn : k = n := by omega
      rw [hkn] at hr
      clear H1 H2 H3 HL hkn
      go_wp2
      go_ret
      exact ⟨ret_bool hr.out.symm, hb⟩

set_option maxHeartbeats 1600000 in
theorem rtree_any (l : Nodes) (ao : Option Addr) (cap : Nat) (B : Nat) (hn : (l.n : Int) ≤ 1000) (w : World) (hB : B ≤ w.heap.size) (hl : Has w ao B l) :
    Calls Try.prog 17 #[.slice ao l.n cap] w fun e w' => e = .returned (.bool (treeB l l.n)) ∧ Below w.heap.size w w' := by
  have HL := Lib.hid hl
  have H1 := Lib.hid (fun (k : Nat) (h : treeB l k = true) h1 h2 => right_step h (@okN_yes l k h1 h2))
  have H2 := Lib.hid (fun (k n : Nat) (h : l.up k < -1) (hk : k < n) => right_bad' (okN_low h) hk)
  have H3 := Lib.hid (fun (k n : Nat) (h : (k : Int) ≤ l.up k) (hk : k < n) => right_bad' (okN_high h) hk)
  obtain ⟨n, hnn⟩ : ∃ n, l.n = n := ⟨_, rfl⟩
  rw [hnn] at hn ⊢
  clear hl
  go_enter Try.func17, Try.ntmps17
  go_wp2_with fail
  go_loopw [2, 3] (fun b2 b8 wr => ∃ k : Nat, b2 = .bool false ∧ b8 = .int .i64 (k : Int) ∧ (k : Int) ≤ n ∧ Hid (treeB l k = true) ∧ Below w.heap.size w wr)
    (fun _ b8 _ => n - (intOf b8).toNat)
  case atStart => exact ⟨0, rfl, rfl, by omega, Lib.hid rfl, Below.refl _ _⟩
  case round =>
    obtain ⟨k, rfl, rfl, hk2, hr, hb⟩ := hrel
    by_cases h1 : (k : Int) < n
    · obtain ⟨b, off, rfl, hbB, -, -, -, -, c4⟩ := (HL.out.keep hb hB) k (by omega)
      clear HL
      have G1 := Lib.hid (H1.out k hr.out)
      have G2 := Lib.hid (H2.out k n)
      have G3 := Lib.hid (H3.out k n)
      clear H1 H2 H3
      obtain ⟨x, hx⟩ : ∃ x, l.up k = x := ⟨_, rfl⟩
      rw [hx] at G1 G2 G3 c4
      clear hx
      by_cases h2 : x < -1
      · have G := Lib.hid (G2.out h2 (by omega))
        clear G1 G2 G3 hr
        go_wp2
        go_ret
        exact ⟨ret_bool G.out.symm, hb⟩
      · by_cases h3 : (k : Int) ≤ x
        · have G := Lib.hid (G3.out h3 (by omega))
          clear G1 G2 G3 hr
          go_wp2
          go_ret
          exact ⟨ret_bool G.out.symm, hb⟩
        · have G := Lib.hid (G1.out (by omega) (by omega))
          clear G1 G2 G3 hr
          go_wp2
          go_roundw
          case rel => exact ⟨k + 1, rfl, by go_num, by omega, G, hb⟩
          case measure => simp [intOf]; omega
    · have hkn : k = n := by omega
      rw [hkn] at hr
      clear H1 H2 H3 HL hkn
      go_wp2
      go_ret
      exact ⟨ret_bool hr.out.symm, hb⟩

end Go.Proofs.Ytnopnjleibbakab
