/- Nodes that come in: a slice of structs of five cells. -/
import Derived.Test.YtnopnjleibbakabOpenB
import Derived.Test.YtnopnjleibbakabLeaf
import Derived.Lib.SmallJoins
import Derived.Deep.Fields
namespace Go.Proofs.Ytnopnjleibbakab
set_option linter.unusedVariables false
open Go.ChangeShapes Go.WideShapes Go.ChangeAt Go.RowKit Go.Deep

theorem fields5 : ∃ f0 f1 f2 f3 f4 : Field, Try.prog.underlying 54 = some (.struct #[f0, f1, f2, f3, f4]) ∧ oneCellFields Try.prog #[f0, f1, f2, f3, f4] = true ∧
    f0.type = 3 ∧ f1.type = 9 ∧ f2.type = 3 ∧ f3.type = 3 ∧ f4.type = 3 := ⟨_, _, _, _, _, Try.underlying54, by kernel_rfl, rfl, rfl, rfl, rfl, rfl⟩
theorem cells_leaf : Try.prog.cellsOf 54 = 5 := by kernel_rfl

theorem open_nodes {H : Type} {enc : TypeId × Value → H} {W : World} {base : Nat} {sp : Nat → Bool} {held : Bool} {v : Value} {d : DataW H} {p : List MemPlace}
    (hval : Value.okWide Try.prog W .any base 22 v) (h : DataW.Trod enc Try.prog W 0 sp held 22 v d p) :
    ∃ (l : Nodes) (ao : Option Addr) (cap : Nat), v = .slice ao l.n cap ∧ Has W ao W.heap.size l ∧ l.n ≤ maxLen := by
  obtain ⟨a0, len0, cap0, rfl⟩ := okWide_slice Try.underlying22 hval
  obtain ⟨fuel, hf⟩ := h
  rcases open_slice Try.underlying22 hf with ⟨hcs, hx⟩ | ⟨a, len, cap, m, n, D, Pl, hcs, hb, hl, hm, hmm, hx, hi⟩
  · simp [Value.cells] at hcs
    obtain ⟨rfl, rfl, rfl⟩ := hcs
    exact ⟨⟨0, fun _ => 0, fun _ => ⟨#[]⟩, fun _ => 0, fun _ => 0, fun _ => 0⟩, none, 0, rfl, fun k hk => absurd hk (Nat.not_lt_zero _), Nat.zero_le _⟩
  · simp [Value.cells] at hcs
    obtain ⟨rfl, rfl, rfl⟩ := hcs
    have hlm : len0 ≤ m := by rw [hmm]; split <;> omega
    obtain ⟨f0, f1, f2, f3, f4, hu, hone, e0, e1, e2, e3, e4⟩ := fields5
    have hspot : ∀ {k}, k < len0 → a.spot = none := fun {k} hk => by
      obtain ⟨cs, hc, _⟩ := hi 0 (by omega)
      rw [cells_leaf] at hc
      obtain ⟨_, hcl2, hat⟩ := World.cells?_some hc
      have w0 := hat 0 (by omega)
      rw [List.getElem?_eq_getElem (by omega)] at w0
      have := World.cell?_spot w0
      simpa [Addr.add] using this
    have each : ∀ k, ∃ q : Int × ByteArray × Int × Int × Int, k < len0 → Cells5 W (some a) W.heap.size k q.1 q.2.1 q.2.2.1 q.2.2.2.1 q.2.2.2.2 := fun k => by
      by_cases hk : k < len0
      · obtain ⟨cs, hc, ht⟩ := hi k (by omega)
        rw [cells_leaf] at hc
        obtain ⟨ys, n', _, hy, hcl, hyl, hfd⟩ := DataW.trod_struct hu ht
        obtain ⟨_, hcl2, hat⟩ := World.cells?_some hc
        have g0 := hfd 0 f0 rfl
        have g1 := hfd 1 f1 rfl
        have g2 := hfd 2 f2 rfl
        have g3 := hfd 3 f3 rfl
        have g4 := hfd 4 f4 rfl
        rw [(hone_of hone 0 f0 rfl).1, (hone_of hone 0 f0 rfl).2, e0] at g0
        rw [(hone_of hone 1 f1 rfl).1, (hone_of hone 1 f1 rfl).2, e1] at g1
        rw [(hone_of hone 2 f2 rfl).1, (hone_of hone 2 f2 rfl).2, e2] at g2
        rw [(hone_of hone 3 f3 rfl).1, (hone_of hone 3 f3 rfl).2, e3] at g3
        rw [(hone_of hone 4 f4 rfl).1, (hone_of hone 4 f4 rfl).2, e4] at g4
        match cs, hcl2, ys, hyl with
        | [c0, c1, c2, c3, c4], _, [y0, y1, y2, y3, y4], _ =>
          simp at g0 g1 g2 g3 g4
          obtain ⟨x0, r0, _, _⟩ := DataW.trod_int Try.underlying3 g0
          obtain ⟨x1, r1, _⟩ := DataW.trod_string Try.underlying9 g1
          obtain ⟨x2, r2, _, _⟩ := DataW.trod_int Try.underlying3 g2
          obtain ⟨x3, r3, _, _⟩ := DataW.trod_int Try.underlying3 g3
          obtain ⟨x4, r4, _, _⟩ := DataW.trod_int Try.underlying3 g4
          simp at r0 r1 r2 r3 r4
          subst r0 r1 r2 r3 r4
          have w0 := hat 0 (by omega)
          have w1 := hat 1 (by omega)
          have w2 := hat 2 (by omega)
          have w3 := hat 3 (by omega)
          have w4 := hat 4 (by omega)
          have hs := hspot hk
          obtain ⟨b, off, spot⟩ := a
          obtain rfl : spot = none := hs
          have e (j : Nat) : ((⟨b, off, none⟩ : Addr).add (k * 5)).add j = ⟨b, off + k * 5 + j, none⟩ := by
            unfold Addr.add; split <;> split <;> simp_all
          rw [e] at w0 w1 w2 w3 w4
          exact ⟨⟨x0, x1, x2, x3, x4⟩, fun _ => ⟨b, off, rfl, World.block_lt_of_cell? W _ w0, w0, w1, w2, w3, w4⟩⟩
      · exact ⟨⟨0, ⟨#[]⟩, 0, 0, 0⟩, fun h => absurd h hk⟩
    obtain ⟨q, hq⟩ := Classical.axiomOfChoice each
    exact ⟨⟨len0, fun k => (q k).1, fun k => (q k).2.1, fun k => (q k).2.2.1, fun k => (q k).2.2.2.1, fun k => (q k).2.2.2.2⟩, some a, cap0, rfl, fun k hk => hq k hk, by show len0 ≤ maxLen; omega⟩
end Go.Proofs.Ytnopnjleibbakab
