/- Nodes that come in: layer 21. -/
import Derived.Test.YtgpglmponbipbacDeeds21
namespace Go.Proofs.Ytgpglmponbipbac
set_option linter.unusedVariables false
open Go.ChangeShapes Go.WideShapes Go.ChangeAt Go.RowKit Go.Deep

theorem fields5 : ∃ f0 f1 f2 f3 f4 : Field, Try.prog.underlying 53 = some (.struct #[f0, f1, f2, f3, f4]) ∧ oneCellFields Try.prog #[f0, f1, f2, f3, f4] = true ∧
    f0.type = 3 ∧ f1.type = 9 ∧ f2.type = 3 ∧ f3.type = 3 ∧ f4.type = 3 := ⟨_, _, _, _, _, Try.underlying53, by kernel_rfl, rfl, rfl, rfl, rfl, rfl⟩
theorem cells_leaf : Try.prog.cellsOf 53 = 5 := by kernel_rfl
section
variable {H : Type} {enc : TypeId × Value → H} {W : World} {sp : Nat → Bool} {held : Bool}
theorem nodes_of {fuel : Nat} {c : Value} {x : DataW H × List MemPlace} (h : DataW.trod enc Try.prog W 0 sp held fuel 23 [c] = some x) :
    ∃ (L : List Nd) (ao : Option Addr) (cap : Nat), c = .slice ao L.length cap ∧ HasS (fun g => g < W.heap.size) W ao L := by
  rcases open_slice Try.underlying23 h with ⟨hcs, hx⟩ | ⟨a, len, cap, m, n, D, Pl, hcs, hb, hl, hm, hmm, hx, hi⟩
  · exact ⟨[], none, 0, by simpa using hcs, HasS.nil _ _ _⟩
  · have hlm : len ≤ m := by rw [hmm]; split <;> omega
    obtain ⟨f0, f1, f2, f3, f4, hu, hone, e0, e1, e2, e3, e4⟩ := fields5
    have hc : c = .slice (some a) len cap := by simpa using hcs
    have hspot : 0 < len → a.spot = none := fun h0 => by
      obtain ⟨cs, hc, _⟩ := hi 0 (by omega)
      rw [cells_leaf] at hc
      obtain ⟨_, hcl2, hat⟩ := World.cells?_some hc
      have w0 := hat 0 (by omega)
      rw [List.getElem?_eq_getElem (by omega)] at w0
      have := World.cell?_spot w0
      simpa [Addr.add] using this
    have each : ∀ k, k < len → ∃ q : Nd, ∃ b off, a = ⟨b, off, none⟩ ∧ b < W.heap.size ∧ W.cell? ⟨b, off + k * 5, none⟩ = some (.int .i64 q.kd) ∧ W.cell? ⟨b, off + k * 5 + 1, none⟩ = some (.string q.nm) ∧
        W.cell? ⟨b, off + k * 5 + 2, none⟩ = some (.int .i64 q.fr) ∧ W.cell? ⟨b, off + k * 5 + 3, none⟩ = some (.int .i64 q.tt) ∧ W.cell? ⟨b, off + k * 5 + 4, none⟩ = some (.int .i64 q.up) := fun k hk => by
      obtain ⟨cs, hc, ht⟩ := hi k (by omega)
      rw [cells_leaf] at hc
      obtain ⟨ys, n', _, hy, hcl, hyl, hfd⟩ := DataW.trod_struct hu ht
      obtain ⟨_, hcl2, hat⟩ := World.cells?_some hc
      have g0 := hfd 0 f0 rfl
      have g1 := hfd 1 f1 rfl
      have g2 := hfd 2 f2 rfl
      have g3 := hfd 3 f3 rfl
      have g4 := hfd 4 f4 rfl
      rw [(hone_of hone 0 f0 rfl).1, (hone_of hone 0 f0 rfl).2, e0] at g0
      rw [(hone_of hone 1 f1 rfl).1, (hone_of hone 1 f1 rfl).2, e1] at g1
      rw [(hone_of hone 2 f2 rfl).1, (hone_of hone 2 f2 rfl).2, e2] at g2
      rw [(hone_of hone 3 f3 rfl).1, (hone_of hone 3 f3 rfl).2, e3] at g3
      rw [(hone_of hone 4 f4 rfl).1, (hone_of hone 4 f4 rfl).2, e4] at g4
      match cs, hcl2, ys, hyl with
      | [c0, c1, c2, c3, c4], _, [y0, y1, y2, y3, y4], _ =>
        simp at g0 g1 g2 g3 g4
        obtain ⟨x0, r0, _, _⟩ := DataW.trod_int Try.underlying3 g0
        obtain ⟨x1, r1, _⟩ := DataW.trod_string Try.underlying9 g1
        obtain ⟨x2, r2, _, _⟩ := DataW.trod_int Try.underlying3 g2
        obtain ⟨x3, r3, _, _⟩ := DataW.trod_int Try.underlying3 g3
        obtain ⟨x4, r4, _, _⟩ := DataW.trod_int Try.underlying3 g4
        simp at r0 r1 r2 r3 r4
        subst r0 r1 r2 r3 r4
        have w0 := hat 0 (by omega)
        have w1 := hat 1 (by omega)
        have w2 := hat 2 (by omega)
        have w3 := hat 3 (by omega)
        have w4 := hat 4 (by omega)
        have hs : a.spot = none := hspot (by omega)
        obtain ⟨b, off, spot⟩ := a
        obtain rfl : spot = none := hs
        have e (j : Nat) : ((⟨b, off, none⟩ : Addr).add (k * 5)).add j = ⟨b, off + k * 5 + j, none⟩ := add_eq _ _
        rw [e] at w0 w1 w2 w3 w4
        exact ⟨⟨x0, x1, x2, x3, x4⟩, b, off, rfl, World.block_lt_of_cell? W _ w0, w0, w1, w2, w3, w4⟩
    obtain ⟨L, hL, hk⟩ := list_of each
    refine ⟨L, some a, cap, by rw [hc, hL], fun k x hx => ?_⟩
    obtain ⟨b, off, rfl, hb, r⟩ := hk k x hx
    exact ⟨b, off, rfl, hb, hb, r⟩

theorem open_leafs {base : Nat} {v : Value} {d : DataW H} {p : List MemPlace} (hval : Value.okWide Try.prog W .any base 23 v) (h : DataW.Trod enc Try.prog W 0 sp held 23 v d p) :
    ∃ (L : List Nd) (ao : Option Addr) (cap : Nat), v = .slice ao L.length cap ∧ HasS (fun g => g < W.heap.size) W ao L := by
  obtain ⟨a0, len0, cap0, rfl⟩ := okWide_slice Try.underlying23 hval
  obtain ⟨fuel, hf⟩ := h
  exact nodes_of hf
end
end Go.Proofs.Ytgpglmponbipbac
