/- Queries that come in. -/
import Derived.Test.YtialpofiagiclaaDoorQpP
import Derived.Test.YtialpofiagiclaaDoorOpenB
import Derived.Lib.SmallJoins
import Derived.Deep.Fields
import Derived.Test.YtialpofiagiclaaDoorChecked
import Derived.ProofKit
import Derived.OpenShut
import Derived.KernelRfl
import Derived.Deep.Slices
namespace Go.Proofs.YtialpofiagiclaaDoor
set_option linter.unusedVariables false
set_option maxRecDepth 1000000
open Go.ChangeShapes Go.WideShapes Go.ChangeAt Go.RowKit Go.Deep

theorem fieldsH : ∃ f0 f1 f2 f3 f4 f5 : Field, Tryd.prog.underlying 38 = some (.struct #[f0, f1, f2, f3, f4, f5]) ∧ oneCellFields Tryd.prog #[f0, f1, f2, f3, f4, f5] = true ∧
    f0.type = 3 ∧ f1.type = 3 ∧ f2.type = 9 ∧ f3.type = 9 ∧ f4.type = 9 ∧ f5.type = 3 := ⟨_, _, _, _, _, _, Tryd.underlying38, by kernel_rfl, rfl, rfl, rfl, rfl, rfl, rfl⟩
theorem fieldsQ : ∃ f0 : Field, Tryd.prog.underlying 24 = some (.struct #[f0]) ∧ oneCellFields Tryd.prog #[f0] = true ∧ f0.type = 22 := ⟨_, Tryd.underlying24, by kernel_rfl, rfl⟩
theorem cells_hop : Tryd.prog.cellsOf 38 = 6 := by kernel_rfl
theorem cells_hops : Tryd.prog.cellsOf 36 = 1 := by kernel_rfl
theorem cells_query : Tryd.prog.cellsOf 24 = 1 := by kernel_rfl
/-- Numbers within 64 bits. -/
def Wfh (x : Hp) : Prop := -9223372036854775808 ≤ x.nth ∧ x.nth ≤ 9223372036854775807
theorem addq_eq {b off : Nat} (i j : Nat) : ((⟨b, off, none⟩ : Addr).add i).add j = ⟨b, off + i + j, none⟩ := by
  rw [Addr.add_lit, Addr.add_lit]
theorem addq0 {b off : Nat} (i : Nat) : ((⟨b, off, none⟩ : Addr).add i) = ⟨b, off + i, none⟩ := by
  rw [Addr.add_lit]
section
variable {H : Type} {enc : TypeId × Value → H} {W : World} {sp : Nat → Bool} {held : Bool}
theorem listq_of {α : Type} {n : Nat} {P : Nat → α → Prop} (h : ∀ k, k < n → ∃ x, P k x) : ∃ L : List α, L.length = n ∧ ∀ k x, L[k]? = some x → P k x := by
  induction n with
  | zero => exact ⟨[], rfl, fun k x h => by simp at h⟩
  | succ n ih =>
    obtain ⟨L, hl, hL⟩ := ih fun k hk => h k (by omega)
    obtain ⟨x, hx⟩ := h n (by omega)
    refine ⟨L ++ [x], by simp [hl], fun k y hk => ?_⟩
    by_cases c : k < n
    · rw [List.getElem?_append_left (by omega)] at hk; exact hL k y hk
    · have hk' : k < (L ++ [x]).length := (List.getElem?_eq_some_iff.1 hk).1
      simp at hk'
      obtain rfl : k = n := by omega
      rw [List.getElem?_append_right (by omega), hl] at hk
      simp at hk
      subst hk
      exact hx
theorem hop_of {f : Nat} (cs : List Value) (x : DataW H × List MemPlace) (h : DataW.trod enc Tryd.prog W 0 sp held f 38 cs = some x) :
    ∃ X : Hp, cs = [.int .i64 X.ax, .int .i64 X.kd, .string X.nm, .string X.is, .string X.has, .int .i64 X.nth] ∧ Wfh X := by
  obtain ⟨f0, f1, f2, f3, f4, f5, hu, hone, t0, t1, t2, t3, t4, t5⟩ := fieldsH
  obtain ⟨ys, n, hn, _, hcl, hyl, hfd⟩ := DataW.trod_struct hu h
  subst hn
  rw [cells_hop] at hcl
  have g0 := hfd 0 f0 rfl
  have g1 := hfd 1 f1 rfl
  have g2 := hfd 2 f2 rfl
  have g3 := hfd 3 f3 rfl
  have g4 := hfd 4 f4 rfl
  have g5 := hfd 5 f5 rfl
  rw [(hone_of hone 0 f0 rfl).1, (hone_of hone 0 f0 rfl).2, t0] at g0
  rw [(hone_of hone 1 f1 rfl).1, (hone_of hone 1 f1 rfl).2, t1] at g1
  rw [(hone_of hone 2 f2 rfl).1, (hone_of hone 2 f2 rfl).2, t2] at g2
  rw [(hone_of hone 3 f3 rfl).1, (hone_of hone 3 f3 rfl).2, t3] at g3
  rw [(hone_of hone 4 f4 rfl).1, (hone_of hone 4 f4 rfl).2, t4] at g4
  rw [(hone_of hone 5 f5 rfl).1, (hone_of hone 5 f5 rfl).2, t5] at g5
  match cs, hcl, ys, hyl with
  | [c0, c1, c2, c3, c4, c5], _, [y0, y1, y2, y3, y4, y5], _ =>
    simp at g0 g1 g2 g3 g4 g5
    obtain ⟨x0, r0, _, _⟩ := DataW.trod_int Tryd.underlying3 g0
    obtain ⟨x1, r1, _, _⟩ := DataW.trod_int Tryd.underlying3 g1
    obtain ⟨x2, r2, _⟩ := DataW.trod_string Tryd.underlying9 g2
    obtain ⟨x3, r3, _⟩ := DataW.trod_string Tryd.underlying9 g3
    obtain ⟨x4, r4, _⟩ := DataW.trod_string Tryd.underlying9 g4
    obtain ⟨x5, r5, _, hw5⟩ := DataW.trod_int Tryd.underlying3 g5
    simp at r0 r1 r2 r3 r4 r5
    subst r0 r1 r2 r3 r4 r5
    exact ⟨⟨x0, x1, x2, x3, x4, x5⟩, rfl, bounds_i64 hw5⟩
theorem hops_of {f : Nat} (c : Value) (x : DataW H × List MemPlace) (h : DataW.trod enc Tryd.prog W 0 sp held f 36 [c] = some x) :
    ∃ (L : List Hp) (ao : Option Addr) (cap : Nat), c = .slice ao L.length cap ∧ HasH W ao L ∧ L.length ≤ maxLen ∧ ∀ x ∈ L, Wfh x := by
  rcases DataW.trod_slice Tryd.underlying36 h with ⟨hcs, _⟩ | ⟨a, len, cap, elems, rest, n, hn, hcs, _, hb, hl, hm, hlen, hel, _, _⟩
  · simp at hcs
    subst hcs
    exact ⟨[], none, 0, rfl, fun k x h => by simp at h, Nat.zero_le _, fun x hx => by simp at hx⟩
  · simp at hcs
    subst hcs hn
    have hspot : 0 < len → a.spot = none := fun h0 => by
      have hk1 := hel 0 h0
      rw [List.getElem?_eq_getElem (by omega)] at hk1
      obtain ⟨cs', hc, _⟩ := Option.bind_eq_some_iff.1 hk1
      rw [cells_hop] at hc
      obtain ⟨_, hcl2, hat⟩ := World.cells?_some hc
      have w0 := hat 0 (by omega)
      rw [List.getElem?_eq_getElem (by omega)] at w0
      have := World.cell?_spot w0
      simpa [Addr.add] using this
    have each : ∀ k, k < len → ∃ X : Hp, (∃ g off, some a = some ⟨g, off, none⟩ ∧ g < W.heap.size ∧
        W.cell? ⟨g, off + k * 6, none⟩ = some (.int .i64 X.ax) ∧ W.cell? ⟨g, off + k * 6 + 1, none⟩ = some (.int .i64 X.kd) ∧ W.cell? ⟨g, off + k * 6 + 2, none⟩ = some (.string X.nm) ∧
        W.cell? ⟨g, off + k * 6 + 3, none⟩ = some (.string X.is) ∧ W.cell? ⟨g, off + k * 6 + 4, none⟩ = some (.string X.has) ∧ W.cell? ⟨g, off + k * 6 + 5, none⟩ = some (.int .i64 X.nth)) ∧ Wfh X := fun k hk => by
      have hk1 := hel k hk
      rw [List.getElem?_eq_getElem (by omega)] at hk1
      obtain ⟨cs', hc, ht⟩ := Option.bind_eq_some_iff.1 hk1
      rw [cells_hop] at hc
      obtain ⟨X, rfl, hwf⟩ := hop_of cs' _ ht
      obtain ⟨_, hcl2, hat⟩ := World.cells?_some hc
      have w0 := hat 0 (by omega)
      have w1 := hat 1 (by omega)
      have w2 := hat 2 (by omega)
      have w3 := hat 3 (by omega)
      have w4 := hat 4 (by omega)
      have w5 := hat 5 (by omega)
      have hs : a.spot = none := hspot (by omega)
      obtain ⟨b, off, spot⟩ := a
      obtain rfl : spot = none := hs
      have e (j : Nat) : ((⟨b, off, none⟩ : Addr).add (k * 6)).add j = ⟨b, off + k * 6 + j, none⟩ := addq_eq _ _
      rw [e] at w0 w1 w2 w3 w4 w5
      exact ⟨X, ⟨b, off, rfl, World.block_lt_of_cell? W _ w0, w0, w1, w2, w3, w4, w5⟩, hwf⟩
    obtain ⟨L, hL, hk⟩ := listq_of each
    exact ⟨L, some a, cap, by rw [hL], fun k X hX => (hk k X hX).1, by rw [hL]; omega, fun x hx => by
      obtain ⟨k, hkp⟩ := List.mem_iff_getElem?.1 hx
      exact (hk k x hkp).2⟩
theorem paths_of {f : Nat} (c : Value) (x : DataW H × List MemPlace) (h : DataW.trod enc Tryd.prog W 0 sp held f 22 [c] = some x) :
    ∃ (P : List (List Hp)) (ao : Option Addr) (cap : Nat), c = .slice ao P.length cap ∧ HasQ W ao P ∧ P.length ≤ maxLen ∧ ∀ p ∈ P, p.length ≤ maxLen ∧ ∀ x ∈ p, Wfh x := by
  rcases DataW.trod_slice Tryd.underlying22 h with ⟨hcs, _⟩ | ⟨a, len, cap, elems, rest, n, hn, hcs, _, hb, hl, hm, hlen, hel, _, _⟩
  · simp at hcs
    subst hcs
    exact ⟨[], none, 0, rfl, fun k x h => by simp at h, Nat.zero_le _, fun p hp => by simp at hp⟩
  · simp at hcs
    subst hcs hn
    have hspot : 0 < len → a.spot = none := fun h0 => by
      have hk1 := hel 0 h0
      rw [List.getElem?_eq_getElem (by omega)] at hk1
      obtain ⟨cs', hc, _⟩ := Option.bind_eq_some_iff.1 hk1
      rw [cells_hops] at hc
      obtain ⟨_, hcl2, hat⟩ := World.cells?_some hc
      have w0 := hat 0 (by omega)
      rw [List.getElem?_eq_getElem (by omega)] at w0
      have := World.cell?_spot w0
      simpa [Addr.add] using this
    have each : ∀ k, k < len → ∃ X : List Hp, (∃ g off po pc, some a = some ⟨g, off, none⟩ ∧ g < W.heap.size ∧ W.cell? ⟨g, off + k, none⟩ = some (.slice po X.length pc) ∧ HasH W po X) ∧ (X.length ≤ maxLen ∧ ∀ x ∈ X, Wfh x) := fun k hk => by
      have hk1 := hel k hk
      rw [List.getElem?_eq_getElem (by omega)] at hk1
      obtain ⟨cs', hc, ht⟩ := Option.bind_eq_some_iff.1 hk1
      rw [cells_hops] at hc
      obtain ⟨_, hcl2, hat⟩ := World.cells?_some hc
      match cs', hcl2 with
      | [c0], _ =>
        obtain ⟨L, po, pc, rfl, hh, hn⟩ := hops_of c0 _ ht
        have w0 := hat 0 (by omega)
        have hs : a.spot = none := hspot (by omega)
        obtain ⟨b, off, spot⟩ := a
        obtain rfl : spot = none := hs
        rw [show ((⟨b, off, none⟩ : Addr).add (k * 1)).add 0 = ⟨b, off + k, none⟩ by rw [addq_eq]; simp] at w0
        exact ⟨L, ⟨b, off, po, pc, rfl, World.block_lt_of_cell? W _ w0, w0, hh⟩, hn⟩
    obtain ⟨L, hL, hk⟩ := listq_of each
    refine ⟨L, some a, cap, by rw [hL], fun k X hX => (hk k X hX).1, by rw [hL]; omega, fun p hp => ?_⟩
    obtain ⟨k, hkp⟩ := List.mem_iff_getElem?.1 hp
    exact (hk k p hkp).2
theorem open_query {base : Nat} {v : Value} {d : DataW H} {p : List MemPlace} (hval : Value.okWide Tryd.prog W .any base 24 v) (h : DataW.Trod enc Tryd.prog W 0 sp held 24 v d p) :
    ∃ (P : List (List Hp)) (qo : Option Addr) (qc : Nat), v = .agg #[.slice qo P.length qc] ∧ HasQ W qo P ∧ P.length ≤ maxLen ∧ ∀ p ∈ P, p.length ≤ maxLen ∧ ∀ x ∈ p, Wfh x := by
  unfold Value.okWide at hval
  rw [Tryd.underlying24] at hval
  obtain ⟨cs, rfl, hsz, _⟩ := hval
  obtain ⟨fuel, hf⟩ := h
  obtain ⟨f0, hu, hone, t0⟩ := fieldsQ
  obtain ⟨ys, n, hn, _, hcl, hyl, hfd⟩ := DataW.trod_struct hu hf
  rw [cells_query] at hcl
  have g0 := hfd 0 f0 rfl
  rw [(hone_of hone 0 f0 rfl).1, (hone_of hone 0 f0 rfl).2, t0] at g0
  obtain ⟨l⟩ := cs
  simp [Value.cells] at hcl g0
  match l, hcl, ys, hyl with
  | [c0], _, [y0], _ =>
    simp at g0
    obtain ⟨P, qo, qc, rfl, hP⟩ := paths_of c0 _ g0
    exact ⟨P, qo, qc, rfl, hP⟩
end
end Go.Proofs.YtialpofiagiclaaDoor
