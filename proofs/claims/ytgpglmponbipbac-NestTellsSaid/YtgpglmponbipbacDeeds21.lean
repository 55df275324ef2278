/- Deeds, nodes that come in. -/
import Derived.Test.YtgpglmponbipbacOpen21
import Derived.Test.YtgpglmponbipbacNestRS
namespace Go.Proofs.Ytgpglmponbipbac
set_option linter.unusedVariables false
open Go.ChangeShapes Go.WideShapes Go.ChangeAt Go.RowKit Go.Deep

/-- A deed: its kind, two numbers, a name. -/
structure Dd where
  kd : Int
  a : Int
  b : Int
  nm : ByteArray
def Dd.wf (x : Dd) : Prop := (-9223372036854775808 ≤ x.kd ∧ x.kd ≤ 9223372036854775807) ∧ (-9223372036854775808 ≤ x.a ∧ x.a ≤ 9223372036854775807) ∧ (-9223372036854775808 ≤ x.b ∧ x.b ≤ 9223372036854775807)
def HasD (N : Nat) (w : World) (ao : Option Addr) (L : List Dd) : Prop := ∀ (k : Nat) (x : Dd), L[k]? = some x → x.wf ∧ ∃ g off, ao = some ⟨g, off, none⟩ ∧ g < N ∧ w.cell? ⟨g, off + k * 4, none⟩ = some (.int .i64 x.kd) ∧
  w.cell? ⟨g, off + k * 4 + 1, none⟩ = some (.int .i64 x.a) ∧ w.cell? ⟨g, off + k * 4 + 2, none⟩ = some (.int .i64 x.b) ∧ w.cell? ⟨g, off + k * 4 + 3, none⟩ = some (.string x.nm)
theorem HasD.keep {N : Nat} {w w' : World} {ao : Option Addr} {L : List Dd} (h : HasD N w ao L) (hb : Below N w w') : HasD N w' ao L := fun k x hk => by
  obtain ⟨hx, g, off, rfl, hg, c0, c1, c2, c3⟩ := h k x hk
  exact ⟨hx, g, off, rfl, hg, (hb.cell (p := ⟨g, off + k * 4, none⟩) hg).trans c0, (hb.cell (p := ⟨g, off + k * 4 + 1, none⟩) hg).trans c1, (hb.cell (p := ⟨g, off + k * 4 + 2, none⟩) hg).trans c2, (hb.cell (p := ⟨g, off + k * 4 + 3, none⟩) hg).trans c3⟩
theorem fields4 : ∃ f0 f1 f2 f3 : Field, Try.prog.underlying 31 = some (.struct #[f0, f1, f2, f3]) ∧ oneCellFields Try.prog #[f0, f1, f2, f3] = true ∧
    f0.type = 3 ∧ f1.type = 3 ∧ f2.type = 3 ∧ f3.type = 9 := ⟨_, _, _, _, Try.underlying31, by kernel_rfl, rfl, rfl, rfl, rfl⟩
theorem cells_deed : Try.prog.cellsOf 31 = 4 := by kernel_rfl
theorem add_eq {b off : Nat} (i j : Nat) : ((⟨b, off, none⟩ : Addr).add i).add j = ⟨b, off + i + j, none⟩ := by
  rw [Addr.add_lit, Addr.add_lit]
theorem open_deeds {H : Type} {enc : TypeId × Value → H} {W : World} {base : Nat} {sp : Nat → Bool} {held : Bool} {v : Value} {d : DataW H} {p : List MemPlace}
    (hval : Value.okWide Try.prog W .any base 22 v) (h : DataW.Trod enc Try.prog W 0 sp held 22 v d p) :
    ∃ (L : List Dd) (ao : Option Addr) (cap : Nat), v = .slice ao L.length cap ∧ HasD W.heap.size W ao L := by
  obtain ⟨a0, len0, cap0, rfl⟩ := okWide_slice Try.underlying22 hval
  obtain ⟨fuel, hf⟩ := h
  rcases open_slice Try.underlying22 hf with ⟨hcs, hx⟩ | ⟨a, len, cap, m, n, D, Pl, hcs, hb, hl, hm, hmm, hx, hi⟩
  · simp [Value.cells] at hcs
    obtain ⟨rfl, rfl, rfl⟩ := hcs
    exact ⟨[], none, 0, rfl, fun k x h => by simp at h⟩
  · simp [Value.cells] at hcs
    obtain ⟨rfl, rfl, rfl⟩ := hcs
    have hlm : len0 ≤ m := by rw [hmm]; split <;> omega
    obtain ⟨f0, f1, f2, f3, hu, hone, e0, e1, e2, e3⟩ := fields4
    have hspot : 0 < len0 → a.spot = none := fun h0 => by
      obtain ⟨cs, hc, _⟩ := hi 0 (by omega)
      rw [cells_deed] at hc
      obtain ⟨_, hcl2, hat⟩ := World.cells?_some hc
      have w0 := hat 0 (by omega)
      rw [List.getElem?_eq_getElem (by omega)] at w0
      have := World.cell?_spot w0
      simpa [Addr.add] using this
    have each : ∀ k, k < len0 → ∃ x : Dd, x.wf ∧ ∃ g off, some a = some ⟨g, off, none⟩ ∧ g < W.heap.size ∧ W.cell? ⟨g, off + k * 4, none⟩ = some (.int .i64 x.kd) ∧
        W.cell? ⟨g, off + k * 4 + 1, none⟩ = some (.int .i64 x.a) ∧ W.cell? ⟨g, off + k * 4 + 2, none⟩ = some (.int .i64 x.b) ∧ W.cell? ⟨g, off + k * 4 + 3, none⟩ = some (.string x.nm) := fun k hk => by
      obtain ⟨cs, hc, ht⟩ := hi k (by omega)
      rw [cells_deed] at hc
      obtain ⟨ys, n', _, hy, hcl, hyl, hfd⟩ := DataW.trod_struct hu ht
      obtain ⟨_, hcl2, hat⟩ := World.cells?_some hc
      have g0 := hfd 0 f0 rfl
      have g1 := hfd 1 f1 rfl
      have g2 := hfd 2 f2 rfl
      have g3 := hfd 3 f3 rfl
      rw [(hone_of hone 0 f0 rfl).1, (hone_of hone 0 f0 rfl).2, e0] at g0
      rw [(hone_of hone 1 f1 rfl).1, (hone_of hone 1 f1 rfl).2, e1] at g1
      rw [(hone_of hone 2 f2 rfl).1, (hone_of hone 2 f2 rfl).2, e2] at g2
      rw [(hone_of hone 3 f3 rfl).1, (hone_of hone 3 f3 rfl).2, e3] at g3
      match cs, hcl2, ys, hyl with
      | [c0, c1, c2, c3], _, [y0, y1, y2, y3], _ =>
        simp at g0 g1 g2 g3
        obtain ⟨x0, r0, _, q0⟩ := DataW.trod_int Try.underlying3 g0
        obtain ⟨x1, r1, _, q1⟩ := DataW.trod_int Try.underlying3 g1
        obtain ⟨x2, r2, _, q2⟩ := DataW.trod_int Try.underlying3 g2
        obtain ⟨x3, r3, _⟩ := DataW.trod_string Try.underlying9 g3
        simp at r0 r1 r2 r3
        subst r0 r1 r2 r3
        have w0 := hat 0 (by omega)
        have w1 := hat 1 (by omega)
        have w2 := hat 2 (by omega)
        have w3 := hat 3 (by omega)
        have hs : a.spot = none := hspot (by omega)
        obtain ⟨b, off, spot⟩ := a
        obtain rfl : spot = none := hs
        have e (j : Nat) : ((⟨b, off, none⟩ : Addr).add (k * 4)).add j = ⟨b, off + k * 4 + j, none⟩ := add_eq _ _
        rw [e] at w0 w1 w2 w3
        have z0 : -9223372036854775808 ≤ x0 ∧ x0 ≤ 9223372036854775807 := by simpa [Lit.wf, IntKind.min, IntKind.max, IntKind.bits, IntKind.signed] using q0
        have z1 : -9223372036854775808 ≤ x1 ∧ x1 ≤ 9223372036854775807 := by simpa [Lit.wf, IntKind.min, IntKind.max, IntKind.bits, IntKind.signed] using q1
        have z2 : -9223372036854775808 ≤ x2 ∧ x2 ≤ 9223372036854775807 := by simpa [Lit.wf, IntKind.min, IntKind.max, IntKind.bits, IntKind.signed] using q2
        exact ⟨⟨x0, x1, x2, x3⟩, ⟨z0, z1, z2⟩, b, off, rfl, World.block_lt_of_cell? W _ w0, w0, w1, w2, w3⟩
    obtain ⟨L, hL, hk⟩ := list_of each
    exact ⟨L, some a, cap0, by rw [hL], fun k x hx => hk k x hx⟩
end Go.Proofs.Ytgpglmponbipbac
