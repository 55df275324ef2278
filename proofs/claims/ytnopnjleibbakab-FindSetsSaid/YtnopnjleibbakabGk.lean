/- The query of a text: the law's asked. Queries that come in. The law's own texts and nodes: what they parse to, where they lead. -/
import Derived.Test.YtnopnjleibbakabFndK
import Derived.Test.YtnopnjleibbakabOpenNodes
import Derived.Test.YtnopnjleibbakabChecked
import Derived.ProofKit
import Derived.OpenShut
import Derived.KernelRfl
import Derived.Deep.Slices
namespace Go.Proofs.Ytnopnjleibbakab
set_option linter.unusedVariables false
open Go.RowKit Go.Sort

/-- A store into a cell that held an empty slice does not touch a query. -/
theorem HasQ.put_far {w : World} {qo : Option Addr} {P : List (List Hp)} (h : HasQ w qo P) (hne : ∀ p ∈ P, p ≠ []) {a : Addr} (h0 : w.cell? a = some (.slice none 0 0)) (u : Value) : HasQ (w.setCell a u) qo P := fun i p hp => by
  obtain ⟨g, off, po, pc, e, hg, c, hh⟩ := h i p hp
  have hl : p.length ≠ 0 := fun hz => hne p (List.mem_of_getElem? hp) (List.length_eq_zero_iff.1 hz)
  have far : ∀ {b : Addr} {v : Value}, w.cell? b = some v → v ≠ .slice none 0 0 → (w.setCell a u).cell? b = some v := fun {b v} hb hv => by
    rw [World.cell?_setCell_other _ _ _ _ (fun hba => hv (by rw [← hba, h0] at hb; exact (Option.some.inj hb).symm))]; exact hb
  refine ⟨g, off, po, pc, e, Nat.lt_of_lt_of_le hg ((Below.refl 0 w).setCell (p := a) (Nat.zero_le _) u).size, far c (fun hc => hl (by injection hc)), fun k x hx => ?_⟩
  obtain ⟨g2, of2, e2, hg2, c0, c1, c2, c3, c4, c5⟩ := hh k x hx
  exact ⟨g2, of2, e2, Nat.lt_of_lt_of_le hg2 ((Below.refl 0 w).setCell (p := a) (Nat.zero_le _) u).size, far c0 (by simp), far c1 (by simp), far c2 (by simp), far c3 (by simp), far c4 (by simp), far c5 (by simp)⟩

set_option maxRecDepth 1000000 in
set_option maxHeartbeats 3200000 in
theorem asked_any (s : ByteArray) (hs : s.size ≤ 1000000) (P : List (List Hp)) (hp : qryO s = .ok P) (hne : ∀ p ∈ P, p ≠ []) (w : World) :
    Calls Try.prog 18 #[.string s] w fun e w' => (∃ qo qc, e = .returned (.agg #[.slice qo P.length qc]) ∧ HasQ w' qo P) ∧ Below w.heap.size w w' := by
  have HP := Lib.hid (fun W => by have h := qparse_any s hs W; rw [hp] at h; exact h)
  have HB0 := Lib.hid ((Below.refl w.heap.size w).alloc (Nat.le_refl _) (.cells #[.slice none 0 0] 25))
  have HO0 := Lib.hid (Own.fresh w 25 [.slice none 0 0])
  have HNE := Lib.hid hne
  clear hp hs hne
  go_enter Try.func18, Try.ntmps18
  go_upto_region 1 with fail
  generalize World.alloc w _ = w1 at *
  go_wp2_with fail
  refine (HP.out _).mono ?_
  rintro e w2 ⟨⟨qo, qc, rfl, hq⟩, hb2⟩
  have HQ := Lib.hid hq
  have HB2 := Lib.hid (keepb HB0.out hb2)
  have HO2 := Lib.hid (HO0.out.under hb2 HO0.out.lt)
  clear hb2 HB0 HO0 HP hq
  have HB3 := Lib.hid ((HB2.out.alloc HB2.out.size (.cells #[.slice qo P.length qc] 25)).alloc (by have := HB2.out.size; simp <;> omega) (.cells #[.int .i64 0, .int .i64 0, .int .i64 0, .int .i64 0] 48))
  have HO3 := Lib.hid ((HO2.out.on_alloc (.cells #[.slice qo P.length qc] 25)).on_alloc (.cells #[.int .i64 0, .int .i64 0, .int .i64 0, .int .i64 0] 48))
  have HX3 := Lib.hid ((Own.fresh w2 25 [.slice qo P.length qc]).on_alloc (.cells #[.int .i64 0, .int .i64 0, .int .i64 0, .int .i64 0] 48))
  have HQ3 := Lib.hid (HQ.out.below (((Below.refl w2.heap.size w2).alloc (Nat.le_refl _) (.cells #[.slice qo P.length qc] 25)).alloc (by simp) (.cells #[.int .i64 0, .int .i64 0, .int .i64 0, .int .i64 0] 48)))
  have HBB := Lib.hid HB2.out.size
  have HOL := Lib.hid HO2.out.lt
  clear HB2 HO2 HQ
  go_upto_region 2 with fail
  generalize World.alloc (World.alloc w2 _) _ = w3 at *
  obtain ⟨X, hX⟩ : ∃ X, w2.heap.size = X := ⟨_, rfl⟩
  rw [hX] at HX3 HBB HOL
  rw [hX]
  have o0 : w3.cell? ⟨w.heap.size, 0, none⟩ = some (.slice none 0 0) := HO3.out.cell 0
  have t0 : w3.frozen? ⟨w.heap.size, 0, none⟩ = false := HO3.out.thaw 0
  have ol := HO3.out.lt
  have x0 : w3.cell? ⟨X, 0, none⟩ = some (.slice qo P.length qc) := HX3.out.cell 0
  have xl := HX3.out.lt
  have HQ9 := Lib.hid (HQ3.out.put_far HNE.out o0 (.slice qo P.length qc))
  have HB9 := Lib.hid (HB3.out.setCell (p := ⟨w.heap.size, 0, none⟩) (Nat.le_refl _) (.slice qo P.length qc))
  have HO9 := Lib.hid (HO3.out.put 0 (.slice qo P.length qc))
  clear HB3 HO3 HX3 HQ3
  go_wp2
  clear o0 t0 ol x0 xl
  generalize World.setCell _ _ _ = w9 at *
  have b0 : w9.cell? ⟨w.heap.size, 0, none⟩ = some (.slice qo P.length qc) := HO9.out.cell 0
  refine bodyPost_ret (by simp [results, Try.results18, go_sem, b0]; rfl) rfl ?_
  exact ⟨⟨qo, qc, rfl, HQ9.out⟩, HB9.out⟩
end Go.Proofs.Ytnopnjleibbakab

namespace Go.Proofs.Ytnopnjleibbakab
set_option linter.unusedVariables false
open Go.ChangeShapes Go.WideShapes Go.ChangeAt Go.RowKit Go.Deep

theorem fieldsH : ∃ f0 f1 f2 f3 f4 f5 : Field, Try.prog.underlying 33 = some (.struct #[f0, f1, f2, f3, f4, f5]) ∧ oneCellFields Try.prog #[f0, f1, f2, f3, f4, f5] = true ∧
    f0.type = 3 ∧ f1.type = 3 ∧ f2.type = 9 ∧ f3.type = 9 ∧ f4.type = 9 ∧ f5.type = 3 := ⟨_, _, _, _, _, _, Try.underlying33, by kernel_rfl, rfl, rfl, rfl, rfl, rfl, rfl⟩
theorem fieldsQ : ∃ f0 : Field, Try.prog.underlying 25 = some (.struct #[f0]) ∧ oneCellFields Try.prog #[f0] = true ∧ f0.type = 23 := ⟨_, Try.underlying25, by kernel_rfl, rfl⟩
theorem cells_hop : Try.prog.cellsOf 33 = 6 := by kernel_rfl
theorem cells_hops : Try.prog.cellsOf 28 = 1 := by kernel_rfl
theorem cells_query : Try.prog.cellsOf 25 = 1 := by kernel_rfl
/-- Names in memory. -/
def HasNm (w : World) (ao : Option Addr) (L : List ByteArray) : Prop := ∀ (k : Nat) (s : ByteArray), L[k]? = some s → ∃ g off, ao = some ⟨g, off, none⟩ ∧ g < w.heap.size ∧ w.cell? ⟨g, off + k, none⟩ = some (.string s)
theorem HasNm.below {w w' : World} {ao : Option Addr} {L : List ByteArray} (h : HasNm w ao L) (hb : Below w.heap.size w w') : HasNm w' ao L := fun k s hk => by
  obtain ⟨g, off, e, hg, hc⟩ := h k s hk
  exact ⟨g, off, e, Nat.lt_of_lt_of_le hg hb.size, keepc hc hb⟩
theorem cells_nm : Try.prog.cellsOf 9 = 1 := by kernel_rfl
theorem addq_eq {b off : Nat} (i j : Nat) : ((⟨b, off, none⟩ : Addr).add i).add j = ⟨b, off + i + j, none⟩ := by
  rw [Addr.add_lit, Addr.add_lit]
theorem addq0 {b off : Nat} (i : Nat) : ((⟨b, off, none⟩ : Addr).add i) = ⟨b, off + i, none⟩ := by
  rw [Addr.add_lit]
section
variable {H : Type} {enc : TypeId × Value → H} {W : World} {sp : Nat → Bool} {held : Bool}
theorem listq_of {α : Type} {n : Nat} {P : Nat → α → Prop} (h : ∀ k, k < n → ∃ x, P k x) : ∃ L : List α, L.length = n ∧ ∀ k x, L[k]? = some x → P k x := by
  induction n with
  | zero => exact ⟨[], rfl, fun k x h => by simp at h⟩
  | succ n ih =>
    obtain ⟨L, hl, hL⟩ := ih fun k hk => h k (by omega)
    obtain ⟨x, hx⟩ := h n (by omega)
    refine ⟨L ++ [x], by simp [hl], fun k y hk => ?_⟩
    by_cases c : k < n
    · rw [List.getElem?_append_left (by omega)] at hk; exact hL k y hk
    · have hk' : k < (L ++ [x]).length := (List.getElem?_eq_some_iff.1 hk).1
      simp at hk'
      obtain rfl : k = n := by omega
      rw [List.getElem?_append_right (by omega), hl] at hk
      simp at hk
      subst hk
      exact hx
theorem hop_of {f : Nat} (cs : List Value) (x : DataW H × List MemPlace) (h : DataW.trod enc Try.prog W 0 sp held f 33 cs = some x) :
    ∃ X : Hp, cs = [.int .i64 X.ax, .int .i64 X.kd, .string X.nm, .string X.is, .string X.has, .int .i64 X.nth] := by
  obtain ⟨f0, f1, f2, f3, f4, f5, hu, hone, t0, t1, t2, t3, t4, t5⟩ := fieldsH
  obtain ⟨ys, n, hn, _, hcl, hyl, hfd⟩ := DataW.trod_struct hu h
  subst hn
  rw [cells_hop] at hcl
  have g0 := hfd 0 f0 rfl
  have g1 := hfd 1 f1 rfl
  have g2 := hfd 2 f2 rfl
  have g3 := hfd 3 f3 rfl
  have g4 := hfd 4 f4 rfl
  have g5 := hfd 5 f5 rfl
  rw [(hone_of hone 0 f0 rfl).1, (hone_of hone 0 f0 rfl).2, t0] at g0
  rw [(hone_of hone 1 f1 rfl).1, (hone_of hone 1 f1 rfl).2, t1] at g1
  rw [(hone_of hone 2 f2 rfl).1, (hone_of hone 2 f2 rfl).2, t2] at g2
  rw [(hone_of hone 3 f3 rfl).1, (hone_of hone 3 f3 rfl).2, t3] at g3
  rw [(hone_of hone 4 f4 rfl).1, (hone_of hone 4 f4 rfl).2, t4] at g4
  rw [(hone_of hone 5 f5 rfl).1, (hone_of hone 5 f5 rfl).2, t5] at g5
  match cs, hcl, ys, hyl with
  | [c0, c1, c2, c3, c4, c5], _, [y0, y1, y2, y3, y4, y5], _ =>
    simp at g0 g1 g2 g3 g4 g5
    obtain ⟨x0, r0, _, _⟩ := DataW.trod_int Try.underlying3 g0
    obtain ⟨x1, r1, _, _⟩ := DataW.trod_int Try.underlying3 g1
    obtain ⟨x2, r2, _⟩ := DataW.trod_string Try.underlying9 g2
    obtain ⟨x3, r3, _⟩ := DataW.trod_string Try.underlying9 g3
    obtain ⟨x4, r4, _⟩ := DataW.trod_string Try.underlying9 g4
    obtain ⟨x5, r5, _, _⟩ := DataW.trod_int Try.underlying3 g5
    simp at r0 r1 r2 r3 r4 r5
    subst r0 r1 r2 r3 r4 r5
    exact ⟨⟨x0, x1, x2, x3, x4, x5⟩, rfl⟩
theorem hops_of {f : Nat} (c : Value) (x : DataW H × List MemPlace) (h : DataW.trod enc Try.prog W 0 sp held f 28 [c] = some x) :
    ∃ (L : List Hp) (ao : Option Addr) (cap : Nat), c = .slice ao L.length cap ∧ HasH W ao L ∧ L.length ≤ maxLen := by
  rcases DataW.trod_slice Try.underlying28 h with ⟨hcs, _⟩ | ⟨a, len, cap, elems, rest, n, hn, hcs, _, hb, hl, hm, hlen, hel, _, _⟩
  · simp at hcs
    subst hcs
    exact ⟨[], none, 0, rfl, fun k x h => by simp at h, Nat.zero_le _⟩
  · simp at hcs
    subst hcs hn
    have hspot : 0 < len → a.spot = none := fun h0 => by
      have hk1 := hel 0 h0
      rw [List.getElem?_eq_getElem (by omega)] at hk1
      obtain ⟨cs', hc, _⟩ := Option.bind_eq_some_iff.1 hk1
      rw [cells_hop] at hc
      obtain ⟨_, hcl2, hat⟩ := World.cells?_some hc
      have w0 := hat 0 (by omega)
      rw [List.getElem?_eq_getElem (by omega)] at w0
      have := World.cell?_spot w0
      simpa [Addr.add] using this
    have each : ∀ k, k < len → ∃ X : Hp, ∃ g off, some a = some ⟨g, off, none⟩ ∧ g < W.heap.size ∧
        W.cell? ⟨g, off + k * 6, none⟩ = some (.int .i64 X.ax) ∧ W.cell? ⟨g, off + k * 6 + 1, none⟩ = some (.int .i64 X.kd) ∧ W.cell? ⟨g, off + k * 6 + 2, none⟩ = some (.string X.nm) ∧
        W.cell? ⟨g, off + k * 6 + 3, none⟩ = some (.string X.is) ∧ W.cell? ⟨g, off + k * 6 + 4, none⟩ = some (.string X.has) ∧ W.cell? ⟨g, off + k * 6 + 5, none⟩ = some (.int .i64 X.nth) := fun k hk => by
      have hk1 := hel k hk
      rw [List.getElem?_eq_getElem (by omega)] at hk1
      obtain ⟨cs', hc, ht⟩ := Option.bind_eq_some_iff.1 hk1
      rw [cells_hop] at hc
      obtain ⟨X, rfl⟩ := hop_of cs' _ ht
      obtain ⟨_, hcl2, hat⟩ := World.cells?_some hc
      have w0 := hat 0 (by omega)
      have w1 := hat 1 (by omega)
      have w2 := hat 2 (by omega)
      have w3 := hat 3 (by omega)
      have w4 := hat 4 (by omega)
      have w5 := hat 5 (by omega)
      have hs : a.spot = none := hspot (by omega)
      obtain ⟨b, off, spot⟩ := a
      obtain rfl : spot = none := hs
      have e (j : Nat) : ((⟨b, off, none⟩ : Addr).add (k * 6)).add j = ⟨b, off + k * 6 + j, none⟩ := addq_eq _ _
      rw [e] at w0 w1 w2 w3 w4 w5
      exact ⟨X, b, off, rfl, World.block_lt_of_cell? W _ w0, w0, w1, w2, w3, w4, w5⟩
    obtain ⟨L, hL, hk⟩ := listq_of each
    exact ⟨L, some a, cap, by rw [hL], fun k X hX => hk k X hX, by rw [hL]; omega⟩
theorem paths_of {f : Nat} (c : Value) (x : DataW H × List MemPlace) (h : DataW.trod enc Try.prog W 0 sp held f 23 [c] = some x) :
    ∃ (P : List (List Hp)) (ao : Option Addr) (cap : Nat), c = .slice ao P.length cap ∧ HasQ W ao P ∧ P.length ≤ maxLen ∧ ∀ p ∈ P, p.length ≤ maxLen := by
  rcases DataW.trod_slice Try.underlying23 h with ⟨hcs, _⟩ | ⟨a, len, cap, elems, rest, n, hn, hcs, _, hb, hl, hm, hlen, hel, _, _⟩
  · simp at hcs
    subst hcs
    exact ⟨[], none, 0, rfl, fun k x h => by simp at h, Nat.zero_le _, fun p hp => by simp at hp⟩
  · simp at hcs
    subst hcs hn
    have hspot : 0 < len → a.spot = none := fun h0 => by
      have hk1 := hel 0 h0
      rw [List.getElem?_eq_getElem (by omega)] at hk1
      obtain ⟨cs', hc, _⟩ := Option.bind_eq_some_iff.1 hk1
      rw [cells_hops] at hc
      obtain ⟨_, hcl2, hat⟩ := World.cells?_some hc
      have w0 := hat 0 (by omega)
      rw [List.getElem?_eq_getElem (by omega)] at w0
      have := World.cell?_spot w0
      simpa [Addr.add] using this
    have each : ∀ k, k < len → ∃ X : List Hp, (∃ g off po pc, some a = some ⟨g, off, none⟩ ∧ g < W.heap.size ∧ W.cell? ⟨g, off + k, none⟩ = some (.slice po X.length pc) ∧ HasH W po X) ∧ X.length ≤ maxLen := fun k hk => by
      have hk1 := hel k hk
      rw [List.getElem?_eq_getElem (by omega)] at hk1
      obtain ⟨cs', hc, ht⟩ := Option.bind_eq_some_iff.1 hk1
      rw [cells_hops] at hc
      obtain ⟨_, hcl2, hat⟩ := World.cells?_some hc
      match cs', hcl2 with
      | [c0], _ =>
        obtain ⟨L, po, pc, rfl, hh, hn⟩ := hops_of c0 _ ht
        have w0 := hat 0 (by omega)
        have hs : a.spot = none := hspot (by omega)
        obtain ⟨b, off, spot⟩ := a
        obtain rfl : spot = none := hs
        rw [show ((⟨b, off, none⟩ : Addr).add (k * 1)).add 0 = ⟨b, off + k, none⟩ by rw [addq_eq]; simp] at w0
        exact ⟨L, ⟨b, off, po, pc, rfl, World.block_lt_of_cell? W _ w0, w0, hh⟩, hn⟩
    obtain ⟨L, hL, hk⟩ := listq_of each
    refine ⟨L, some a, cap, by rw [hL], fun k X hX => (hk k X hX).1, by rw [hL]; omega, fun p hp => ?_⟩
    obtain ⟨k, hkp⟩ := List.mem_iff_getElem?.1 hp
    exact (hk k p hkp).2
theorem open_query {base : Nat} {v : Value} {d : DataW H} {p : List MemPlace} (hval : Value.okWide Try.prog W .any base 25 v) (h : DataW.Trod enc Try.prog W 0 sp held 25 v d p) :
    ∃ (P : List (List Hp)) (qo : Option Addr) (qc : Nat), v = .agg #[.slice qo P.length qc] ∧ HasQ W qo P ∧ P.length ≤ maxLen ∧ ∀ p ∈ P, p.length ≤ maxLen := by
  unfold Value.okWide at hval
  rw [Try.underlying25] at hval
  obtain ⟨cs, rfl, hsz, _⟩ := hval
  obtain ⟨fuel, hf⟩ := h
  obtain ⟨f0, hu, hone, t0⟩ := fieldsQ
  obtain ⟨ys, n, hn, _, hcl, hyl, hfd⟩ := DataW.trod_struct hu hf
  rw [cells_query] at hcl
  have g0 := hfd 0 f0 rfl
  rw [(hone_of hone 0 f0 rfl).1, (hone_of hone 0 f0 rfl).2, t0] at g0
  obtain ⟨l⟩ := cs
  simp [Value.cells] at hcl g0
  match l, hcl, ys, hyl with
  | [c0], _, [y0], _ =>
    simp at g0
    obtain ⟨P, qo, qc, rfl, hP⟩ := paths_of c0 _ g0
    exact ⟨P, qo, qc, rfl, hP⟩
theorem names_of {f : Nat} (c : Value) (x : DataW H × List MemPlace) (h : DataW.trod enc Try.prog W 0 sp held f 36 [c] = some x) :
    ∃ (N : List ByteArray) (ao : Option Addr) (cap : Nat), c = .slice ao N.length cap ∧ HasNm W ao N ∧ N.length ≤ maxLen := by
  rcases DataW.trod_slice Try.underlying36 h with ⟨hcs, _⟩ | ⟨a, len, cap, elems, rest, n, hn, hcs, _, hb, hl, hm, hlen, hel, _, _⟩
  · simp at hcs
    subst hcs
    exact ⟨[], none, 0, rfl, fun k x h => by simp at h, Nat.zero_le _⟩
  · simp at hcs
    subst hcs hn
    have hspot : 0 < len → a.spot = none := fun h0 => by
      have hk1 := hel 0 h0
      rw [List.getElem?_eq_getElem (by omega)] at hk1
      obtain ⟨cs', hc, _⟩ := Option.bind_eq_some_iff.1 hk1
      rw [cells_nm] at hc
      obtain ⟨_, hcl2, hat⟩ := World.cells?_some hc
      have w0 := hat 0 (by omega)
      rw [List.getElem?_eq_getElem (by omega)] at w0
      have := World.cell?_spot w0
      simpa [Addr.add] using this
    have each : ∀ k, k < len → ∃ X : ByteArray, ∃ g off, some a = some ⟨g, off, none⟩ ∧ g < W.heap.size ∧ W.cell? ⟨g, off + k, none⟩ = some (.string X) := fun k hk => by
      have hk1 := hel k hk
      rw [List.getElem?_eq_getElem (by omega)] at hk1
      obtain ⟨cs', hc, ht⟩ := Option.bind_eq_some_iff.1 hk1
      rw [cells_nm] at hc
      obtain ⟨_, hcl2, hat⟩ := World.cells?_some hc
      match cs', hcl2 with
      | [c0], _ =>
        obtain ⟨s, hs0, _⟩ := DataW.trod_string Try.underlying9 ht
        simp at hs0
        subst hs0
        have w0 := hat 0 (by omega)
        have hs : a.spot = none := hspot (by omega)
        obtain ⟨b, off, spot⟩ := a
        obtain rfl : spot = none := hs
        rw [show ((⟨b, off, none⟩ : Addr).add (k * 1)).add 0 = ⟨b, off + k, none⟩ by rw [addq_eq]; simp] at w0
        exact ⟨s, b, off, rfl, World.block_lt_of_cell? W _ w0, w0⟩
    obtain ⟨L, hL, hk⟩ := listq_of each
    exact ⟨L, some a, cap, by rw [hL], fun k X hX => hk k X hX, by rw [hL]; omega⟩
theorem open_names {base : Nat} {v : Value} {d : DataW H} {p : List MemPlace} (hval : Value.okWide Try.prog W .any base 36 v) (h : DataW.Trod enc Try.prog W 0 sp held 36 v d p) :
    ∃ (N : List ByteArray) (ao : Option Addr) (cap : Nat), v = .slice ao N.length cap ∧ HasNm W ao N ∧ N.length ≤ maxLen := by
  obtain ⟨a0, len0, cap0, rfl⟩ := okWide_slice Try.underlying36 hval
  obtain ⟨fuel, hf⟩ := h
  exact names_of _ _ (by simpa [Value.cells] using hf)
end
end Go.Proofs.Ytnopnjleibbakab

namespace Go.Proofs.Ytnopnjleibbakab
set_option linter.unusedVariables false
open Go.RowKit Go.Sort
/-- The paths of a text. -/
def qL (s : ByteArray) : List (List Hp) := match qryO s with | .ok P => P | .error _ => []
def okQ (s : ByteArray) : Bool := (match qryO s with | .ok P => P.all (fun p => !p.isEmpty && decide (p.length ≤ 12) && p.all (fun x => decide (x.nm.size ≤ 60))) && decide (P.length ≤ 8) | .error _ => false)
theorem okQ_out {s : ByteArray} (h : okQ s = true) : qryO s = .ok (qL s) ∧ (qL s).length ≤ 8 ∧ ∀ p ∈ qL s, p ≠ [] ∧ p.length ≤ 12 ∧ ∀ x ∈ p, x.nm.size ≤ 60 := by
  unfold okQ at h
  unfold qL
  cases hq : qryO s with
  | error e => rw [hq] at h; cases h
  | ok P =>
    rw [hq] at h
    simp only [Bool.and_eq_true, decide_eq_true_eq, List.all_eq_true] at h
    refine ⟨rfl, h.2, fun p hp => ⟨?_, (h.1 p hp).1.2, (h.1 p hp).2⟩⟩
    rintro rfl
    have := (h.1 [] hp).1.1
    simp at this
def ndA : List (Int × ByteArray × Int × Int × Int) := [(1, ⟨#[97]⟩, 0, 4, -1), (2, ⟨#[108]⟩, 0, 2, 0), (4, ⟨#[]⟩, 0, 1, 1), (4, ⟨#[]⟩, 1, 2, 1), (2, ⟨#[108]⟩, 2, 4, 0), (4, ⟨#[]⟩, 2, 4, 4)]
def lfA (k : Nat) : Int × ByteArray × Int × Int × Int := ndA.getD k (0, ⟨#[]⟩, 0, 0, 0)
def lA : Nodes := ⟨6, fun k => (lfA k).1, fun k => (lfA k).2.1, fun k => (lfA k).2.2.1, fun k => (lfA k).2.2.2.1, fun k => (lfA k).2.2.2.2⟩
/-- //l -/
theorem okq1 : okQ ⟨#[47, 47, 108]⟩ = true := by kernel_rfl
/-- /a/l[2]/#text -/
theorem okq2 : okQ ⟨#[47, 97, 47, 108, 91, 50, 93, 47, 35, 116, 101, 120, 116]⟩ = true := by kernel_rfl
/-- //#text="y"^* -/
theorem okq3 : okQ ⟨#[47, 47, 35, 116, 101, 120, 116, 61, 34, 121, 34, 94, 42]⟩ = true := by kernel_rfl
/-- //l~"z"|/a -/
theorem okq4 : okQ ⟨#[47, 47, 108, 126, 34, 122, 34, 124, 47, 97]⟩ = true := by kernel_rfl
/-- //#text[1] -/
theorem okq5 : okQ ⟨#[47, 47, 35, 116, 101, 120, 116, 91, 49, 93]⟩ = true := by kernel_rfl
/-- /a/l/#text[1] -/
theorem okq6 : okQ ⟨#[47, 97, 47, 108, 47, 35, 116, 101, 120, 116, 91, 49, 93]⟩ = true := by kernel_rfl
/-- /a/l+* -/
theorem okq7 : okQ ⟨#[47, 97, 47, 108, 43, 42]⟩ = true := by kernel_rfl
/-- //a|/a/l -/
theorem okq8 : okQ ⟨#[47, 47, 97, 124, 47, 97, 47, 108]⟩ = true := by kernel_rfl
/-- //a|/a/x -/
theorem okq9 : okQ ⟨#[47, 47, 97, 124, 47, 97, 47, 120]⟩ = true := by kernel_rfl
theorem fnd1 : findL lA ⟨#[120, 121, 122, 122]⟩ (qL ⟨#[47, 47, 108]⟩) = [1, 4] := by kernel_rfl
theorem fnd2 : findL lA ⟨#[120, 121, 122, 122]⟩ (qL ⟨#[47, 97, 47, 108, 91, 50, 93, 47, 35, 116, 101, 120, 116]⟩) = [5] := by kernel_rfl
theorem fnd3 : findL lA ⟨#[120, 121, 122, 122]⟩ (qL ⟨#[47, 47, 35, 116, 101, 120, 116, 61, 34, 121, 34, 94, 42]⟩) = [1] := by kernel_rfl
theorem fnd4 : findL lA ⟨#[120, 121, 122, 122]⟩ (qL ⟨#[47, 47, 108, 126, 34, 122, 34, 124, 47, 97]⟩) = [0, 4] := by kernel_rfl
theorem fnd5 : findL lA ⟨#[120, 121, 122, 122]⟩ (qL ⟨#[47, 47, 35, 116, 101, 120, 116, 91, 49, 93]⟩) = [2] := by kernel_rfl
theorem fnd6 : findL lA ⟨#[120, 121, 122, 122]⟩ (qL ⟨#[47, 97, 47, 108, 47, 35, 116, 101, 120, 116, 91, 49, 93]⟩) = [2, 5] := by kernel_rfl
theorem fnd7 : findL lA ⟨#[120, 121, 122, 122]⟩ (qL ⟨#[47, 97, 47, 108, 43, 42]⟩) = [4] := by kernel_rfl
theorem stpA : stepL lA ⟨#[120, 121, 122, 122]⟩ [-1, 0] ⟨1, 0, ⟨#[]⟩, ⟨#[]⟩, ⟨#[]⟩, 0⟩ = [0, 1, 4] := by kernel_rfl
theorem kn1 : knownB [(11, ⟨#[97]⟩), (12, ⟨#[108]⟩)] ⟨#[108]⟩ = true := by kernel_rfl
theorem kn2 : knownB [(11, ⟨#[97]⟩), (12, ⟨#[108]⟩)] ⟨#[120]⟩ = false := by kernel_rfl
theorem ck1 : chkV (qL ⟨#[47, 47, 97, 124, 47, 97, 47, 108]⟩) [(11, ⟨#[97]⟩), (12, ⟨#[108]⟩)] = (0, 0, 0) := by kernel_rfl
theorem ck2 : chkV (qL ⟨#[47, 47, 97, 124, 47, 97, 47, 120]⟩) [(11, ⟨#[97]⟩), (12, ⟨#[108]⟩)] = (5, 1, 1) := by kernel_rfl
theorem ck3 : chkV [] [(11, ⟨#[97]⟩), (12, ⟨#[108]⟩)] = (1, 0, 0) := by kernel_rfl
end Go.Proofs.Ytnopnjleibbakab
