/- Nodes of a tree as a list; the walks of slices.Clone at them and of Leaves. -/
import Derived.Test.YtgpglmponbipbacChecked
import Derived.Test.YtgpglmponbipbacBut
import Derived.WalkKit
import Derived.Handy
import Derived.KernelRfl
import Derived.Laws.StructEq
import Derived.Lib.SliceRun
import Derived.Test.YtgpglmponbipbacQuiet
import Derived.BigQuiet
namespace Go.Proofs.Ytgpglmponbipbac
set_option linter.unusedVariables false
open Go.RowKit Go.Sort

theorem info_leaf : (Try.prog.info? 53).map (fun i => (i.zero, i.size, i.bytes)) = some (some (.agg #[.int .i64 0, .string ⟨#[]⟩, .int .i64 0, .int .i64 0, .int .i64 0]), 5, 48) := by kernel_rfl

/-- A node. -/
structure Nd where
  kd : Int
  nm : ByteArray
  fr : Int
  tt : Int
  up : Int
def Nd.row (x : Nd) : List Value := [.int .i64 x.kd, .string x.nm, .int .i64 x.fr, .int .i64 x.tt, .int .i64 x.up]
def rowL (L : List Nd) : List Value := L.flatMap Nd.row
theorem rowL_len (L : List Nd) : (rowL L).length = L.length * 5 := by
  induction L with
  | nil => rfl
  | cons x L ih => show (x.row ++ rowL L).length = _; rw [List.length_append, ih]; simp [Nd.row]; omega
theorem rowL_append (L M : List Nd) : rowL (L ++ M) = rowL L ++ rowL M := List.flatMap_append
theorem rowL_one (x : Nd) : rowL [x] = x.row := by simp [rowL]
theorem rowL_get : ∀ (L : List Nd) (k : Nat) (x : Nd), L[k]? = some x → ∀ c, c < 5 → (rowL L)[k * 5 + c]? = x.row[c]?
  | y :: L, 0, x, h, c, hc => by
    simp at h; subst h
    show (y.row ++ rowL L)[0 * 5 + c]? = _
    rw [List.getElem?_append_left (by simp [Nd.row]; omega)]; simp
  | y :: L, k + 1, x, h, c, hc => by
    show (y.row ++ rowL L)[(k + 1) * 5 + c]? = _
    rw [List.getElem?_append_right (by simp [Nd.row]; omega), show (k + 1) * 5 + c - y.row.length = k * 5 + c by simp [Nd.row]; omega]
    exact rowL_get L k x (by simpa using h) c hc
theorem rowL_cells (L : List Nd) : ∀ u ∈ rowL L, u.oneCell' = true := by
  intro u hu
  obtain ⟨x, _, hx⟩ := List.mem_flatMap.1 hu
  simp [Nd.row] at hx
  rcases hx with rfl | rfl | rfl | rfl | rfl <;> rfl

/-- The nodes L lie from the address ao on, in a block of R. -/
def HasS (R : Nat → Prop) (w : World) (ao : Option Addr) (L : List Nd) : Prop := ∀ k x, L[k]? = some x → ∃ b off, ao = some ⟨b, off, none⟩ ∧ R b ∧ b < w.heap.size ∧
  w.cell? ⟨b, off + k * 5, none⟩ = some (.int .i64 x.kd) ∧ w.cell? ⟨b, off + k * 5 + 1, none⟩ = some (.string x.nm) ∧ w.cell? ⟨b, off + k * 5 + 2, none⟩ = some (.int .i64 x.fr) ∧
  w.cell? ⟨b, off + k * 5 + 3, none⟩ = some (.int .i64 x.tt) ∧ w.cell? ⟨b, off + k * 5 + 4, none⟩ = some (.int .i64 x.up)
section
variable {R S T : Nat → Prop} {w w' : World} {ao : Option Addr} {L : List Nd}
theorem HasS.keep (h : HasS R w ao L) (hb : But T w w') (hd : ∀ g, g < w.heap.size → R g → ¬ T g) : HasS R w' ao L := fun k x hk => by
  obtain ⟨b, off, rfl, hR, hB, h0, h1, h2, h3, h4⟩ := h k x hk
  have e : ¬ T b := hd b hB hR
  exact ⟨b, off, rfl, hR, Nat.lt_of_lt_of_le hB hb.size, hb.cell (p := ⟨b, off + k * 5, none⟩) e h0, hb.cell (p := ⟨b, off + k * 5 + 1, none⟩) e h1, hb.cell (p := ⟨b, off + k * 5 + 2, none⟩) e h2,
    hb.cell (p := ⟨b, off + k * 5 + 3, none⟩) e h3, hb.cell (p := ⟨b, off + k * 5 + 4, none⟩) e h4⟩
theorem HasS.below (h : HasS R w ao L) (hb : Below w.heap.size w w') : HasS R w' ao L := h.keep (T := fun _ => False) (But.of_below hb) (fun _ _ _ h => h)
theorem HasS.mono (h : HasS R w ao L) (hR : ∀ g, g < w.heap.size → R g → S g) : HasS S w ao L := fun k x hk => by
  obtain ⟨b, off, e, hb, hB, r⟩ := h k x hk
  exact ⟨b, off, e, hR b hB hb, hB, r⟩
theorem HasS.nil (R : Nat → Prop) (w : World) (ao : Option Addr) : HasS R w ao [] := fun k x h => by simp at h
/-- A slice of the call's own that holds nodes. -/
theorem Win.nodes {e : TypeId} {v : Value} {n : Nat} (h : Win S e 5 w v n (rowL L)) : ∃ ao cap, v = .slice ao L.length cap ∧ n = L.length ∧ HasS S w ao L := by
  have hn : n = L.length := by have := h.1; rw [rowL_len] at this; omega
  subst hn
  obtain ⟨ao, cap, rfl, _, _, hj⟩ := h.form
  refine ⟨ao, cap, rfl, rfl, fun k x hk => ?_⟩
  have hk' : k < L.length := (List.getElem?_eq_some_iff.1 hk).1
  obtain ⟨g, off, rfl, hg, hB, c0, _⟩ := hj (k * 5 + 0) (by omega)
  obtain ⟨_, _, e1, _, _, c1, _⟩ := hj (k * 5 + 1) (by omega)
  obtain ⟨_, _, e2, _, _, c2, _⟩ := hj (k * 5 + 2) (by omega)
  obtain ⟨_, _, e3, _, _, c3, _⟩ := hj (k * 5 + 3) (by omega)
  obtain ⟨_, _, e4, _, _, c4, _⟩ := hj (k * 5 + 4) (by omega)
  simp only [Option.some.injEq, Addr.mk.injEq, and_true] at e1 e2 e3 e4
  obtain ⟨rfl, rfl⟩ := e1
  obtain ⟨rfl, rfl⟩ := e2
  obtain ⟨rfl, rfl⟩ := e3
  obtain ⟨rfl, rfl⟩ := e4
  rw [rowL_get L k x hk _ (by omega)] at c0 c1 c2 c3 c4
  exact ⟨g, off, rfl, hg, hB, c0, c1, c2, c3, c4⟩
theorem HasS.cells {a : Addr} (h : HasS R w (some a) L) : ∀ j u, (rowL L)[j]? = some u → w.cell? (a.add j) = some u := by
  intro j u hj
  have hj' : j < L.length * 5 := by rw [← rowL_len]; exact (List.getElem?_eq_some_iff.1 hj).1
  have hk : j / 5 < L.length := by omega
  obtain ⟨b, off, e, _, _, h0, h1, h2, h3, h4⟩ := h (j / 5) L[j / 5] (List.getElem?_eq_getElem hk)
  cases e
  have hg := rowL_get L (j / 5) L[j / 5] (List.getElem?_eq_getElem hk) (j % 5) (by omega)
  rw [show j / 5 * 5 + j % 5 = j by omega, hj] at hg
  rw [show (⟨b, off, none⟩ : Addr).add j = ⟨b, off + j / 5 * 5 + j % 5, none⟩ by rw [Addr.add_lit]; congr 1; omega]
  have : j % 5 = 0 ∨ j % 5 = 1 ∨ j % 5 = 2 ∨ j % 5 = 3 ∨ j % 5 = 4 := by omega
  rcases this with e | e | e | e | e <;> rw [e] at hg ⊢ <;> simp [Nd.row] at hg <;> subst hg <;> assumption
end

@[go_sem] theorem eqLeaf (a c d e a' c' d' e' : Int) (b b' : ByteArray) (w : World) :
    (Op.equalIn 10000 53 (.agg #[.int .i64 a, .string b, .int .i64 c, .int .i64 d, .int .i64 e]) (.agg #[.int .i64 a', .string b', .int .i64 c', .int .i64 d', .int .i64 e'])).run Try.prog w = .ok (decide (a = a' ∧ b = b' ∧ c = c' ∧ d = d' ∧ e = e')) w := by
  have u3 := Try.underlying3
  have a3 := Try.isAgg3
  have z3 := Try.sizeOf3
  have u9 := Try.underlying9
  have a9 := Try.isAgg9
  have z9 := Try.sizeOf9
  have hS : Try.prog.underlying 53 = some (.struct (Try.prog.fieldsOf 53)) := by kernel_rfl
  have hp : Try.prog.stoodInHeld 53 = false := by kernel_rfl
  rw [show (10000 : Nat) = 9999 + 1 from rfl, run_equalIn_agg w 9999 53 _ _ hS hp]
  simp only [Program.fieldsOf, Try.underlying53]
  have hb : (b.toList == b'.toList) = decide (b = b') := by
    rw [← beq_toListBytes]
    by_cases h : b = b'
    · subst h; rw [beq_toListBytes]; simp
    · rw [beq_toListBytes, decide_eq_false h]
      refine beq_false_of_ne fun e => h ?_
      rw [ByteArray.toList_eq, ByteArray.toList_eq] at e
      obtain ⟨⟨x⟩⟩ := b
      obtain ⟨⟨y⟩⟩ := b'
      simp at e; rw [e]
  go_simp
  by_cases h1 : a = a' <;> by_cases h2 : b = b' <;> by_cases h3 : c = c' <;> by_cases h4 : d = d' <;> by_cases h5 : e = e' <;> simp [h1, h2, h3, h4, h5]

set_option maxHeartbeats 1600000 in
theorem clone_any (L : List Nd) (ao : Option Addr) (cap : Nat) (R : Nat → Prop) (hn : (L.length : Int) ≤ 1000) (w : World) (hl : HasS R w ao L) :
    Calls Try.prog 29 #[.slice ao L.length cap] w
      fun e w' => ∃ v, e = .returned v ∧ Win (fun b => w.heap.size ≤ b) 53 5 w' v L.length (rowL L) ∧ Below w.heap.size w w' := by
  obtain ⟨i0, hi, hz0, hz1, hz2⟩ := info_parts info_leaf
  obtain ⟨n, hnn⟩ : ∃ n, L.length = n := ⟨_, rfl⟩
  have hE := fun (w : World) => Lib.run_eql_slice_nil (P := Try.prog) w 23 53 ao n cap 0 0 Try.underlying23
  have HN := Lib.hid hnn
  have HL := Lib.hid hl
  have hrl := rowL_len L
  rw [hnn] at hn hrl ⊢
  clear hnn hl
  cases ao with
  | none =>
    clear hrl
    go_enter Try.func29, Try.ntmps29
    go_wp2
    go_ret
    have h0 : L = [] := by
      cases L with
      | nil => rfl
      | cons x L => obtain ⟨_, _, e, _⟩ := HL.out 0 x rfl; cases e
    subst h0
    have := HN.out
    simp at this
    subst this
    exact ⟨_, rfl, Win.nil _ _ _ _, Below.refl _ _⟩
  | some a =>
    have HR := Lib.hid hrl
    clear hrl
    have hcl := HL.out.cells
    have HC := Lib.hid (fun (w' : World) (hb : Below w.heap.size w w') => (HL.out.below hb).cells)
    clear hcl
    go_enter Try.func29, Try.ntmps29
    go_wp2_with (first
      | (at_builtin; refine wpList_append_win _ rfl _ _ 23 rfl (fun b => w.heap.size ≤ b) 53 i0 _ 5 48 Try.underlying23 hi hz0 hz1 hz2 rfl (by decide) _ 0 [] rfl ?c0 a n cap (rowL L) rfl HR.out (HC.out _ ?c1) (rowL_cells L) ?c2 ?c3 ?_))
    case c0 => exact Win.of_owns (World.ownsRow_made (base := w.heap.size) (size := 5) w #[] 0 (Nat.le_refl _) (by unfold maxLen; omega) rfl) (fun g hg _ => hg)
    case c1 => exact (Below.refl _ _).alloc (Nat.le_refl _) _
    case c2 => unfold maxLen; omega
    case c3 => omega
    intro v' w1 hw hb
    have HW := Lib.hid hw
    have HB := Lib.hid hb
    clear hw hb
    go_wp2
    go_ret
    refine ⟨_, rfl, ?_, ?_⟩
    · have h := HW.out
      exact h.mono fun g _ hg => by rcases hg with hg | hg <;> omega
    · exact (((But.refl _ _).alloc _).trans HB.out fun _ _ h => h).below (Nat.le_refl _) fun _ h => h

set_option maxHeartbeats 1600000 in
theorem leaves_same (L : List Nd) (ao bo : Option Addr) (cap cbp : Nat) (R T : Nat → Prop) (hn : (L.length : Int) ≤ 1000) (w : World) (hl : HasS R w ao L) (hk : HasS T w bo L) :
    Calls Try.prog 19 #[.slice ao L.length cap, .slice bo L.length cbp] w fun e w' => e = .returned (.bool true) ∧ Below w.heap.size w w' := by
  obtain ⟨n, hnn⟩ : ∃ n, L.length = n := ⟨_, rfl⟩
  have HN := Lib.hid hnn
  have HL := Lib.hid hl
  have HK := Lib.hid hk
  rw [hnn] at hn ⊢
  clear hnn hl hk
  go_enter Try.func19, Try.ntmps19
  go_wp2_with fail
  go_loopw [5] (fun b5 wr => ∃ k m : Nat, b5 = .int .i64 (k : Int) ∧ (k : Int) ≤ n ∧ wr = w.drewN m)
    (fun b5 _ => n - (intOf b5).toNat)
  case atStart => exact ⟨0, 0, rfl, by omega, rfl⟩
  case round =>
    obtain ⟨k, m, rfl, hk2, rfl⟩ := hrel
    by_cases h1 : (k : Int) < n
    · obtain ⟨x, hx⟩ : ∃ x, L[k]? = some x := ⟨_, List.getElem?_eq_getElem (by have := HN.out; omega)⟩
      obtain ⟨g, off, rfl, _, _, c0, c1, c2, c3, c4⟩ := HL.out k x hx
      obtain ⟨g', off', rfl, _, _, d0, d1, d2, d3, d4⟩ := HK.out k x hx
      clear HL HK hx HN
      go_wp2_with fail
      go_quiet (fail)
      go_wp2
      go_roundw
      case rel => exact ⟨k + 1, m + nq, by go_num, by omega, rfl⟩
      case measure => simp [intOf]; omega
    · go_wp2
      go_ret
      exact ⟨rfl, below_drewN (Below.refl _ _) _⟩
end Go.Proofs.Ytgpglmponbipbac
