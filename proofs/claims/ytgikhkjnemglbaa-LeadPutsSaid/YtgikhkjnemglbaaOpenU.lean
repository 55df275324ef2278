/- Bytes that come in. -/
import Derived.Test.YtgikhkjnemglbaaOpenB
import Derived.Test.YtgikhkjnemglbaaHe
import Derived.Lib.SmallJoins
import Derived.Deep.Fields
import Derived.Deep.Slices
namespace Go.Proofs.Ytgikhkjnemglbaa
set_option linter.unusedVariables false
set_option maxRecDepth 1000000
open Go.ChangeShapes Go.WideShapes Go.ChangeAt Go.RowKit Go.Deep

def HasB (N : Nat) (w : World) (ao : Option Addr) (B : List Nat) : Prop := ∀ (k x : Nat), B[k]? = some x → x < 256 ∧ ∃ g off, ao = some ⟨g, off, none⟩ ∧ g < N ∧ w.cell? ⟨g, off + k, none⟩ = some (.int .u8 (x : Int))
theorem HasB.keep {N : Nat} {w w' : World} {ao : Option Addr} {B : List Nat} (h : HasB N w ao B) (hb : Below N w w') : HasB N w' ao B := fun k x hk => by
  obtain ⟨hx, g, off, rfl, hg, hc⟩ := h k x hk
  exact ⟨hx, g, off, rfl, hg, (hb.cell (p := ⟨g, off + k, none⟩) hg).trans hc⟩
theorem list_of {α : Type} {n : Nat} {P : Nat → α → Prop} (h : ∀ k, k < n → ∃ x, P k x) : ∃ L : List α, L.length = n ∧ ∀ k x, L[k]? = some x → P k x := by
  induction n with
  | zero => exact ⟨[], rfl, fun k x h => by simp at h⟩
  | succ n ih =>
    obtain ⟨L, hl, hL⟩ := ih fun k hk => h k (by omega)
    obtain ⟨x, hx⟩ := h n (by omega)
    refine ⟨L ++ [x], by simp [hl], fun k y hk => ?_⟩
    by_cases c : k < n
    · rw [List.getElem?_append_left (by omega)] at hk; exact hL k y hk
    · have hk' : k < (L ++ [x]).length := (List.getElem?_eq_some_iff.1 hk).1
      simp at hk'
      obtain rfl : k = n := by omega
      rw [List.getElem?_append_right (by omega), hl] at hk
      simp at hk
      subst hk
      exact hx
theorem cellsU8 : Try.prog.cellsOf 5 = 1 := by kernel_rfl
theorem open_u8s {H : Type} {enc : TypeId × Value → H} {W : World} {base : Nat} {sp : Nat → Bool} {held : Bool} {v : Value} {d : DataW H} {p : List MemPlace}
    (hval : Value.okWide Try.prog W .any base 68 v) (h : DataW.Trod enc Try.prog W 0 sp held 68 v d p) :
    ∃ (B : List Nat) (ao : Option Addr) (cap : Nat), v = .slice ao B.length cap ∧ HasB W.heap.size W ao B := by
  obtain ⟨a0, len0, cap0, rfl⟩ := okWide_slice Try.underlying68 hval
  obtain ⟨fuel, hf⟩ := h
  rcases open_slice Try.underlying68 hf with ⟨hcs, hx⟩ | ⟨a, len, cap, m, n, D, Pl, hcs, hb, hl, hm, hmm, hx, hi⟩
  · simp [Value.cells] at hcs
    obtain ⟨rfl, rfl, rfl⟩ := hcs
    exact ⟨[], none, 0, rfl, fun k x h => by simp at h⟩
  · simp [Value.cells] at hcs
    obtain ⟨rfl, rfl, rfl⟩ := hcs
    have hlm : len0 ≤ m := by rw [hmm]; split <;> omega
    have hspot : 0 < len0 → a.spot = none := fun h0 => by
      obtain ⟨cs, hc, _⟩ := hi 0 (by omega)
      rw [cellsU8] at hc
      obtain ⟨_, hcl2, hat⟩ := World.cells?_some hc
      have w0 := hat 0 (by omega)
      rw [List.getElem?_eq_getElem (by omega)] at w0
      have := World.cell?_spot w0
      simpa [Addr.add] using this
    have each : ∀ k, k < len0 → ∃ x : Nat, x < 256 ∧ ∃ g off, some a = some ⟨g, off, none⟩ ∧ g < W.heap.size ∧ W.cell? ⟨g, off + k, none⟩ = some (.int .u8 (x : Int)) := fun k hk => by
      obtain ⟨cs, hc, ht⟩ := hi k (by omega)
      rw [cellsU8] at hc
      obtain ⟨_, hcl2, hat⟩ := World.cells?_some hc
      match cs, hcl2 with
      | [c0], _ =>
        obtain ⟨x0, r0, _, q0⟩ := DataW.trod_int Try.underlying5 ht
        simp at r0
        subst r0
        have w0 := hat 0 (by omega)
        have hs := hspot (by omega)
        obtain ⟨b, off, spot⟩ := a
        obtain rfl : spot = none := hs
        rw [show ((⟨b, off, none⟩ : Addr).add (k * 1)).add 0 = ⟨b, off + k, none⟩ by rw [Addr.add_lit, Addr.add_lit]; congr 1; omega] at w0
        have hw : 0 ≤ x0 ∧ x0 ≤ 255 := by simpa [Lit.wf, IntKind.min, IntKind.max, IntKind.bits, IntKind.signed] using q0
        obtain ⟨x, rfl⟩ : ∃ x : Nat, x0 = (x : Int) := ⟨x0.toNat, by omega⟩
        exact ⟨x, by omega, b, off, rfl, World.block_lt_of_cell? W _ w0, w0⟩
    obtain ⟨L, hL, hk⟩ := list_of each
    exact ⟨L, some a, cap0, by rw [hL], fun k x hx => hk k x hx⟩
end Go.Proofs.Ytgikhkjnemglbaa
