/- Law 24: the fault of a text; the document's examples. -/
import Derived.Test.YtialpofiagiclaaDoorQpP
import Derived.Laws.Rows
import Derived.KernelRfl
namespace Go.Proofs.YtialpofiagiclaaDoor
set_option linter.unusedVariables false
set_option maxRecDepth 1000000
open Go.RowKit Go.Sort

/-- What a text is, whether it is a query or not. -/
def okP : Except (Int × Nat) (List (List Hp)) → List (List Hp) | .ok P => P | .error _ => []
def okE : Except (Int × Nat) (List (List Hp)) → Int | .ok _ => 0 | .error p => p.1
def okA : Except (Int × Nat) (List (List Hp)) → Int | .ok _ => 0 | .error p => (p.2 : Int)
theorem QRes.form {e : Ending} {w : World} {r : Except (Int × Nat) (List (List Hp))} (h : QRes e w r) : ∃ qo qc, e = .returned (.tuple #[.agg #[.slice qo (okP r).length qc], .agg #[.int .i64 (okE r), .int .i64 (okA r), .int .i64 0, .int .i64 0]]) ∧ HasQ w qo (okP r) := by
  cases r with
  | ok P => exact h
  | error p => exact ⟨none, 0, h, fun i p hp => by simp [okP] at hp⟩
theorem pparse_all (s : ByteArray) (hs : s.size ≤ 1000000) (w : World) : Calls Tryd.prog 8 #[.string s] w fun e w' => (∃ qo qc, e = .returned (.tuple #[.agg #[.slice qo (okP (qryO s)).length qc], .agg #[.int .i64 (okE (qryO s)), .int .i64 (okA (qryO s)), .int .i64 0, .int .i64 0]]) ∧ HasQ w' qo (okP (qryO s))) ∧ Below w.heap.size w w' :=
  (pparse_any s hs w).mono fun e w' h => ⟨h.1.form, h.2⟩
theorem qparse_all (s : ByteArray) (hs : s.size ≤ 1000000) (w : World) : Calls Tryd.prog 9 #[.string s] w fun e w' => (∃ qo qc, e = .returned (.tuple #[.agg #[.slice qo (okP (qryO s)).length qc], .agg #[.int .i64 (okE (qryO s)), .int .i64 (okA (qryO s)), .int .i64 0, .int .i64 0]]) ∧ HasQ w' qo (okP (qryO s))) ∧ Below w.heap.size w w' :=
  (qparse_any s hs w).mono fun e w' h => ⟨h.1.form, h.2⟩

set_option maxRecDepth 1000000 in
set_option maxHeartbeats 3200000 in
theorem fault24_any (s : ByteArray) (hs : s.size ≤ 1000000) (w : World) : Calls Tryd.prog 15 #[.string s] w fun e w' => e = .returned (.agg #[.int .i64 (okE (qryO s)), .int .i64 (okA (qryO s)), .int .i64 0, .int .i64 0]) ∧ Below w.heap.size w w' := by
  have HP := Lib.hid (fun W => pparse_all s hs W)
  obtain ⟨B, hB⟩ : ∃ B, w.heap.size = B := ⟨_, rfl⟩
  have HBW := Lib.hid hB
  have HB0 := Lib.hid ((Below.refl w.heap.size w).alloc (Nat.le_refl _) (.cells #[.int .i64 0, .int .i64 0, .int .i64 0, .int .i64 0] 29))
  have HO0 := Lib.hid (Own.fresh' hB.symm 29 [.int .i64 0, .int .i64 0, .int .i64 0, .int .i64 0])
  generalize okE (qryO s) = e0 at *
  generalize okA (qryO s) = e1 at *
  generalize okP (qryO s) = P at *
  clear hs
  go_enter Tryd.func15, Tryd.ntmps15
  go_upto_region 1 with fail
  try rw [hB]
  generalize World.alloc w _ = w1 at *
  clear hB
  go_wp2_with fail
  refine (HP.out _).mono ?_
  rintro e w2 ⟨⟨qo, qc, rfl, hq⟩, hb2⟩
  have HB2 := Lib.hid (keepb HB0.out hb2)
  have HO2 := Lib.hid (HO0.out.under hb2 HO0.out.lt)
  clear hb2 HB0 HO0 HP hq
  have hbl : Below w2.heap.size w2 ((w2.alloc (.cells #[.slice qo P.length qc] 24)).alloc (.cells #[.int .i64 e0, .int .i64 e1, .int .i64 0, .int .i64 0] 29)) := ((Below.refl _ _).alloc (Nat.le_refl _) _).alloc (by simp) _
  have HOQ3 := Lib.hid ((Own.fresh w2 24 [.slice qo P.length qc]).on_alloc (.cells #[.int .i64 e0, .int .i64 e1, .int .i64 0, .int .i64 0] 29))
  have hof := Own.fresh (w2.alloc (.cells #[.slice qo P.length qc] 24)) 29 [.int .i64 e0, .int .i64 e1, .int .i64 0, .int .i64 0]
  rw [show (w2.alloc (.cells #[.slice qo P.length qc] 24)).heap.size = w2.heap.size + 1 from by simp] at hof
  have HOF3 := Lib.hid hof
  have HB3 := Lib.hid (HB2.out.trans (hbl.mono HB2.out.size))
  clear hof
  have HO3 := Lib.hid (HO2.out.under hbl HO2.out.lt)
  clear hbl
  go_upto_region 2 with fail
  have e9 : (w2.alloc (.cells #[.slice qo P.length qc] 24)).heap.size = w2.heap.size + 1 := by simp
  try rw [e9]
  clear e9
  generalize World.alloc (World.alloc w2 _) _ = w3 at *
  obtain ⟨X, hX⟩ : ∃ X, w2.heap.size = X := ⟨_, rfl⟩
  rw [hX] at HOQ3 HOF3
  try rw [hX]
  have HBX := Lib.hid (show B < X from by rw [← hX]; exact HO2.out.lt)
  clear hX HB2 HO2
  have y0 : w3.cell? ⟨X + 1, 0, none⟩ = some (.int .i64 e0) := HOF3.out.cell 0
  have y1 : w3.cell? ⟨X + 1, 1, none⟩ = some (.int .i64 e1) := HOF3.out.cell 1
  have y2 : w3.cell? ⟨X + 1, 2, none⟩ = some (.int .i64 0) := HOF3.out.cell 2
  have y3 : w3.cell? ⟨X + 1, 3, none⟩ = some (.int .i64 0) := HOF3.out.cell 3
  have yl := HOF3.out.lt
  have r0 : w3.cell? ⟨B, 0, none⟩ = some (.int .i64 0) := HO3.out.cell 0
  have f0 : w3.frozen? ⟨B, 0, none⟩ = false := HO3.out.thaw 0
  have r1 : w3.cell? ⟨B, 1, none⟩ = some (.int .i64 0) := HO3.out.cell 1
  have f1 : w3.frozen? ⟨B, 1, none⟩ = false := HO3.out.thaw 1
  have r2 : w3.cell? ⟨B, 2, none⟩ = some (.int .i64 0) := HO3.out.cell 2
  have f2 : w3.frozen? ⟨B, 2, none⟩ = false := HO3.out.thaw 2
  have r3 : w3.cell? ⟨B, 3, none⟩ = some (.int .i64 0) := HO3.out.cell 3
  have f3 : w3.frozen? ⟨B, 3, none⟩ = false := HO3.out.thaw 3
  have rl := HO3.out.lt
  go_wp2
  try simp only [Exit.inBlock, Exit.then]
  have HO5 := ((((HO3.out.put 0 (.int .i64 e0)).put 1 (.int .i64 e1)).put 2 (.int .i64 0)).put 3 (.int .i64 0))
  have hbt := (((((But.refl (fun j => j = B) w3).setCell (p := ⟨B, 0, none⟩) (fun _ => rfl) (.int .i64 e0)).setCell (p := ⟨B, 1, none⟩) (fun _ => rfl) (.int .i64 e1)).setCell (p := ⟨B, 2, none⟩) (fun _ => rfl) (.int .i64 0)).setCell (p := ⟨B, 3, none⟩) (fun _ => rfl) (.int .i64 0))
  have HBZ := HB3.out.trans (hbt.below (B := w.heap.size) HB3.out.size (fun j e => by have := HBW.out; have e : j = B := e; omega))
  refine bodyPost_ret (results_cell_row (P := Tryd.prog) rfl _ _ B 29 _ (0, 0) _ rfl HO5 Tryd.underlying29 rfl (by kernel_rfl)) rfl ?_
  exact ⟨by rfl, HBZ⟩

/-- The document's examples. -/
def P24 : List (List Hp) := [[⟨2, 0, ⟨#[99, 97, 108, 108]⟩, ⟨#[]⟩, ⟨#[]⟩, 0⟩, ⟨1, 0, ⟨#[110, 97, 109, 101]⟩, ⟨#[120]⟩, ⟨#[121]⟩, 2⟩], [⟨1, 3, ⟨#[]⟩, ⟨#[]⟩, ⟨#[]⟩, 0⟩, ⟨4, 0, ⟨#[]⟩, ⟨#[]⟩, ⟨#[]⟩, 0⟩, ⟨3, 0, ⟨#[109, 97, 105, 110]⟩, ⟨#[]⟩, ⟨#[]⟩, 0⟩]]
theorem ex24_0 : qryO ⟨#[47, 47, 99, 97, 108, 108, 47, 110, 97, 109, 101, 61, 34, 120, 34, 126, 34, 121, 34, 91, 50, 93, 124, 47, 35, 115, 101, 97, 43, 42, 94, 109, 97, 105, 110]⟩ = .ok P24 := by kernel_rfl
theorem ex24_p : qpS P24 = ⟨#[47, 47, 99, 97, 108, 108, 47, 110, 97, 109, 101, 61, 34, 120, 34, 126, 34, 121, 34, 91, 50, 93, 124, 47, 35, 115, 101, 97, 43, 42, 94, 109, 97, 105, 110]⟩ := by kernel_rfl
theorem ex24_r : rightQ P24 = true := by kernel_rfl
theorem ex24_s : SmlQ P24 := ⟨by decide, by decide, fun p hp x hx => by
  have h : ∀ p ∈ P24, ∀ x ∈ p, x.nm.size ≤ 60 ∧ x.is.size ≤ 60 ∧ x.has.size ≤ 60 ∧ -9223372036854775808 ≤ x.nth ∧ x.nth ≤ 9223372036854775807 := by decide +kernel
  obtain ⟨h1, h2, h3, h4, h5⟩ := h p hp x hx
  exact ⟨h1, h2, h3, h4, h5⟩⟩
@[go_sem 2000] theorem hbuildA (a : Int) (n : ByteArray) (w : World) : (Instr.build 38 #[(0, .int .i64 a), (2, .string n)]).run Tryd.prog w = .ok (.agg #[.int .i64 a, .int .i64 0, .string n, .string ⟨#[]⟩, .string ⟨#[]⟩, .int .i64 0]) w := run_build w _ _ _ (by kernel_rfl)
@[go_sem 2000] theorem hbuildB (a m : Int) (n i h : ByteArray) (w : World) : (Instr.build 38 #[(0, .int .i64 a), (2, .string n), (3, .string i), (4, .string h), (5, .int .i64 m)]).run Tryd.prog w = .ok (.agg #[.int .i64 a, .int .i64 0, .string n, .string i, .string h, .int .i64 m]) w := run_build w _ _ _ (by kernel_rfl)
@[go_sem 2000] theorem hbuildC (a : Int) (w : World) : (Instr.build 38 #[(0, .int .i64 a)]).run Tryd.prog w = .ok (.agg #[.int .i64 a, .int .i64 0, .string ⟨#[]⟩, .string ⟨#[]⟩, .string ⟨#[]⟩, .int .i64 0]) w := run_build w _ _ _ (by kernel_rfl)
@[go_sem 2000] theorem fbuildA (a : Int) (w : World) : (Instr.build 29 #[(0, .int .i64 a)]).run Tryd.prog w = .ok (.agg #[.int .i64 a, .int .i64 0, .int .i64 0, .int .i64 0]) w := run_build w _ _ _ (by kernel_rfl)
@[go_sem 2000] theorem fbuildB (a b : Int) (w : World) : (Instr.build 29 #[(0, .int .i64 a), (1, .int .i64 b)]).run Tryd.prog w = .ok (.agg #[.int .i64 a, .int .i64 b, .int .i64 0, .int .i64 0]) w := run_build w _ _ _ (by kernel_rfl)
theorem addr_in {g off g' off' : Nat} (h : some (⟨g, off, none⟩ : Addr) = some ⟨g', off', none⟩) : g = g' ∧ off = off' := by injection h with h; injection h with h1 h2; exact ⟨h1, h2⟩
theorem ex24_1 : qryO ⟨#[]⟩ = .error (2, 0) := by kernel_rfl
theorem ex24_2 : qryO ⟨#[47, 97, 124]⟩ = .error (2, 3) := by kernel_rfl
theorem ex24_3 : qryO ⟨#[47, 97, 91, 48, 93]⟩ = .error (2, 3) := by kernel_rfl
theorem ex24_4 : qryO ⟨#[47, 97, 61, 120]⟩ = .error (2, 3) := by kernel_rfl
theorem ex24_5 : qryO ⟨#[47, 119, 97, 116, 101, 114]⟩ = .error (2, 1) := by kernel_rfl
theorem ex24_6 : qryO ⟨#[47, 42, 47, 42, 47, 42, 47, 42, 47, 42, 47, 42, 47, 42, 47, 42, 47, 42, 47, 42, 47, 42, 47, 42, 47, 42]⟩ = .error (3, 24) := by kernel_rfl

set_option maxRecDepth 1000000 in
set_option maxHeartbeats 6400000 in
theorem awake24_any (w : World) (ht : Tab w) : Calls Tryd.prog 7 #[] w fun e w' => e = .returned (.bool true) ∧ Below w.heap.size w w' := by
  have HT0 := Lib.hid ht
  have HP := Lib.hid (fun W => show Calls Tryd.prog 8 #[.string ⟨#[47, 47, 99, 97, 108, 108, 47, 110, 97, 109, 101, 61, 34, 120, 34, 126, 34, 121, 34, 91, 50, 93, 124, 47, 35, 115, 101, 97, 43, 42, 94, 109, 97, 105, 110]⟩] W fun e w' => (∃ qo qc, e = .returned (.tuple #[.agg #[.slice qo 2 qc], .agg #[.int .i64 0, .int .i64 0, .int .i64 0, .int .i64 0]]) ∧ HasQ w' qo P24) ∧ Below W.heap.size W w' from by
    have h := pparse_any ⟨#[47, 47, 99, 97, 108, 108, 47, 110, 97, 109, 101, 61, 34, 120, 34, 126, 34, 121, 34, 91, 50, 93, 124, 47, 35, 115, 101, 97, 43, 42, 94, 109, 97, 105, 110]⟩ (by decide) W
    rw [ex24_0] at h
    exact h)
  have HB0 := Lib.hid (Below.refl w.heap.size w)
  clear ht
  go_enter Tryd.func7, Tryd.ntmps7
  go_wp2_with fail
  refine (HP.out _).mono ?_
  rintro e w2 ⟨⟨qo, qc, rfl, hq⟩, hb2⟩
  have HB2 := Lib.hid (keepb HB0.out hb2)
  clear HB0 HP hb2
  have hbl : Below w2.heap.size w2 ((w2.alloc (.cells #[.slice qo 2 qc] 24)).alloc (.cells #[.int .i64 0, .int .i64 0, .int .i64 0, .int .i64 0] 29)) := ((Below.refl _ _).alloc (Nat.le_refl _) _).alloc (by simp) _
  have HOQ3 := Lib.hid ((Own.fresh w2 24 [.slice qo 2 qc]).on_alloc (.cells #[.int .i64 0, .int .i64 0, .int .i64 0, .int .i64 0] 29))
  have hof := Own.fresh (w2.alloc (.cells #[.slice qo 2 qc] 24)) 29 [.int .i64 0, .int .i64 0, .int .i64 0, .int .i64 0]
  rw [show (w2.alloc (.cells #[.slice qo 2 qc] 24)).heap.size = w2.heap.size + 1 from by simp] at hof
  have HOF3 := Lib.hid hof
  have HB3 := Lib.hid (HB2.out.trans (hbl.mono HB2.out.size))
  clear hof
  have HQ3 := Lib.hid (hq.below hbl)
  clear hbl hq
  go_upto_region 3 with fail
  have e9 : (w2.alloc (.cells #[.slice qo 2 qc] 24)).heap.size = w2.heap.size + 1 := by simp
  try rw [e9]
  clear e9
  generalize World.alloc (World.alloc w2 _) _ = w3 at *
  obtain ⟨X, hX⟩ : ∃ X, w2.heap.size = X := ⟨_, rfl⟩
  rw [hX] at HOQ3 HOF3
  try rw [hX]
  clear hX HB2
  have HT3 := Lib.hid (HT0.out.below HB3.out)
  obtain ⟨g, off, p0, pc0, rfl, hgl, hz0, hh0⟩ := HQ3.out 0 _ rfl
  obtain ⟨g', off', p1, pc1, e', -, hz1, hh1⟩ := HQ3.out 1 _ rfl
  obtain ⟨rfl, rfl⟩ := addr_in e'
  clear e'
  obtain ⟨g9, o9, e9, -, z0, z1, z2, z3, z4, z5⟩ := hh0 0 _ rfl
  obtain ⟨p0g, p0o, rfl⟩ : ∃ a b, p0 = some ⟨a, b, none⟩ := ⟨g9, o9, e9⟩
  obtain ⟨rfl, rfl⟩ := addr_in e9
  clear e9
  have a0 : w3.cell? ⟨p0g, p0o, none⟩ = some (.int .i64 2) := by simpa using z0
  have a1 : w3.cell? ⟨p0g, p0o + 1, none⟩ = some (.int .i64 0) := by simpa using z1
  have a2 : w3.cell? ⟨p0g, p0o + 2, none⟩ = some (.string ⟨#[99, 97, 108, 108]⟩) := by simpa using z2
  have a3 : w3.cell? ⟨p0g, p0o + 3, none⟩ = some (.string ⟨#[]⟩) := by simpa using z3
  have a4 : w3.cell? ⟨p0g, p0o + 4, none⟩ = some (.string ⟨#[]⟩) := by simpa using z4
  have a5 : w3.cell? ⟨p0g, p0o + 5, none⟩ = some (.int .i64 0) := by simpa using z5
  clear z0 z1 z2 z3 z4 z5
  obtain ⟨g9, o9, e9, -, z0, z1, z2, z3, z4, z5⟩ := hh0 1 _ rfl
  obtain ⟨rfl, rfl⟩ := addr_in e9
  clear e9
  have b0 : w3.cell? ⟨p0g, p0o + 6, none⟩ = some (.int .i64 1) := by simpa using z0
  have b1 : w3.cell? ⟨p0g, p0o + 6 + 1, none⟩ = some (.int .i64 0) := by simpa using z1
  have b2 : w3.cell? ⟨p0g, p0o + 6 + 2, none⟩ = some (.string ⟨#[110, 97, 109, 101]⟩) := by simpa using z2
  have b3 : w3.cell? ⟨p0g, p0o + 6 + 3, none⟩ = some (.string ⟨#[120]⟩) := by simpa using z3
  have b4 : w3.cell? ⟨p0g, p0o + 6 + 4, none⟩ = some (.string ⟨#[121]⟩) := by simpa using z4
  have b5 : w3.cell? ⟨p0g, p0o + 6 + 5, none⟩ = some (.int .i64 2) := by simpa using z5
  clear z0 z1 z2 z3 z4 z5
  obtain ⟨g9, o9, e9, -, z0, z1, z2, z3, z4, z5⟩ := hh1 0 _ rfl
  obtain ⟨p1g, p1o, rfl⟩ : ∃ a b, p1 = some ⟨a, b, none⟩ := ⟨g9, o9, e9⟩
  obtain ⟨rfl, rfl⟩ := addr_in e9
  clear e9
  have c0 : w3.cell? ⟨p1g, p1o, none⟩ = some (.int .i64 1) := by simpa using z0
  have c1 : w3.cell? ⟨p1g, p1o + 1, none⟩ = some (.int .i64 3) := by simpa using z1
  have c2 : w3.cell? ⟨p1g, p1o + 2, none⟩ = some (.string ⟨#[]⟩) := by simpa using z2
  have c3 : w3.cell? ⟨p1g, p1o + 3, none⟩ = some (.string ⟨#[]⟩) := by simpa using z3
  have c4 : w3.cell? ⟨p1g, p1o + 4, none⟩ = some (.string ⟨#[]⟩) := by simpa using z4
  have c5 : w3.cell? ⟨p1g, p1o + 5, none⟩ = some (.int .i64 0) := by simpa using z5
  clear z0 z1 z2 z3 z4 z5
  obtain ⟨g9, o9, e9, -, z0, z1, z2, z3, z4, z5⟩ := hh1 1 _ rfl
  obtain ⟨rfl, rfl⟩ := addr_in e9
  clear e9
  have d0 : w3.cell? ⟨p1g, p1o + 6, none⟩ = some (.int .i64 4) := by simpa using z0
  have d1 : w3.cell? ⟨p1g, p1o + 6 + 1, none⟩ = some (.int .i64 0) := by simpa using z1
  have d2 : w3.cell? ⟨p1g, p1o + 6 + 2, none⟩ = some (.string ⟨#[]⟩) := by simpa using z2
  have d3 : w3.cell? ⟨p1g, p1o + 6 + 3, none⟩ = some (.string ⟨#[]⟩) := by simpa using z3
  have d4 : w3.cell? ⟨p1g, p1o + 6 + 4, none⟩ = some (.string ⟨#[]⟩) := by simpa using z4
  have d5 : w3.cell? ⟨p1g, p1o + 6 + 5, none⟩ = some (.int .i64 0) := by simpa using z5
  clear z0 z1 z2 z3 z4 z5
  obtain ⟨g9, o9, e9, -, z0, z1, z2, z3, z4, z5⟩ := hh1 2 _ rfl
  obtain ⟨rfl, rfl⟩ := addr_in e9
  clear e9
  have f0 : w3.cell? ⟨p1g, p1o + 12, none⟩ = some (.int .i64 3) := by simpa using z0
  have f1 : w3.cell? ⟨p1g, p1o + 12 + 1, none⟩ = some (.int .i64 0) := by simpa using z1
  have f2 : w3.cell? ⟨p1g, p1o + 12 + 2, none⟩ = some (.string ⟨#[109, 97, 105, 110]⟩) := by simpa using z2
  have f3 : w3.cell? ⟨p1g, p1o + 12 + 3, none⟩ = some (.string ⟨#[]⟩) := by simpa using z3
  have f4 : w3.cell? ⟨p1g, p1o + 12 + 4, none⟩ = some (.string ⟨#[]⟩) := by simpa using z4
  have f5 : w3.cell? ⟨p1g, p1o + 12 + 5, none⟩ = some (.int .i64 0) := by simpa using z5
  clear z0 z1 z2 z3 z4 z5
  have q0 : w3.cell? ⟨g, off, none⟩ = some (.slice (some ⟨p0g, p0o, none⟩) 2 pc0) := by simpa using hz0
  have q1 : w3.cell? ⟨g, off + 1, none⟩ = some (.slice (some ⟨p1g, p1o, none⟩) 3 pc1) := by simpa using hz1
  have la := World.block_lt_of_cell? w3 _ a0
  have lc := World.block_lt_of_cell? w3 _ c0
  have y0 : w3.cell? ⟨X + 1, 0, none⟩ = some (.int .i64 0) := HOF3.out.cell 0
  have y1 : w3.cell? ⟨X + 1, 1, none⟩ = some (.int .i64 0) := HOF3.out.cell 1
  have y2 : w3.cell? ⟨X + 1, 2, none⟩ = some (.int .i64 0) := HOF3.out.cell 2
  have y3 : w3.cell? ⟨X + 1, 3, none⟩ = some (.int .i64 0) := HOF3.out.cell 3
  have yl := HOF3.out.lt
  have x0 : w3.cell? ⟨X, 0, none⟩ = some (.slice (some ⟨g, off, none⟩) 2 qc) := HOQ3.out.cell 0
  have xl := HOQ3.out.lt
  clear hz0 hz1 hh0 hh1
  have CP := Lib.hid (fun (d : Nat) (os : Array Obj) => show Calls Tryd.prog 11 #[.agg #[.slice (some ⟨g, off, none⟩) 2 qc]] (grow (redrawn w3 d) os) (fun e w' => e = .returned (.string ⟨#[47, 47, 99, 97, 108, 108, 47, 110, 97, 109, 101, 61, 34, 120, 34, 126, 34, 121, 34, 91, 50, 93, 124, 47, 35, 115, 101, 97, 43, 42, 94, 109, 97, 105, 110]⟩) ∧ Below (grow (redrawn w3 d) os).heap.size (grow (redrawn w3 d) os) w') from by
    have h := pprint_any P24 (some ⟨g, off, none⟩) qc ex24_s (grow (redrawn w3 d) os) (HQ3.out.below (below_regrown w3 d os)) (HT3.out.below (below_regrown w3 d os))
    rw [ex24_p] at h
    exact h)
  have CR := Lib.hid (fun (d : Nat) (os : Array Obj) => show Calls Tryd.prog 13 #[.agg #[.slice (some ⟨g, off, none⟩) 2 qc]] (grow (redrawn w3 d) os) (fun e w' => e = .returned (.bool true) ∧ Below (grow (redrawn w3 d) os).heap.size (grow (redrawn w3 d) os) w') from by
    have h := qright_any P24 (some ⟨g, off, none⟩) qc (by decide) (fun p hp => ⟨by have := ex24_s.p p hp; omega, fun x hx => by have := (ex24_s.x p hp x hx).nm; unfold maxLen; omega⟩) (grow (redrawn w3 d) os) (HQ3.out.below (below_regrown w3 d os))
    rw [ex24_r] at h
    exact h)
  have CZ := Lib.hid (fun (d : Nat) (os : Array Obj) => show Calls Tryd.prog 13 #[.agg #[.slice none 0 0]] (grow (redrawn w3 d) os) (fun e w' => e = .returned (.bool false) ∧ Below (grow (redrawn w3 d) os).heap.size (grow (redrawn w3 d) os) w') from
    qright_any [] none 0 (by decide) (fun p hp => by simp at hp) (grow (redrawn w3 d) os) (fun i p hp => by simp at hp))
  have C0 := Lib.hid (fun (d : Nat) (os : Array Obj) => show Calls Tryd.prog 15 #[.string ⟨#[]⟩] (grow (redrawn w3 d) os) (fun e w' => e = .returned (.agg #[.int .i64 2, .int .i64 0, .int .i64 0, .int .i64 0]) ∧ Below (grow (redrawn w3 d) os).heap.size (grow (redrawn w3 d) os) w') from by
    have h := fault24_any ⟨#[]⟩ (by decide) (grow (redrawn w3 d) os)
    rw [ex24_1] at h
    exact h)
  have C1 := Lib.hid (fun (d : Nat) (os : Array Obj) => show Calls Tryd.prog 15 #[.string ⟨#[47, 97, 124]⟩] (grow (redrawn w3 d) os) (fun e w' => e = .returned (.agg #[.int .i64 2, .int .i64 3, .int .i64 0, .int .i64 0]) ∧ Below (grow (redrawn w3 d) os).heap.size (grow (redrawn w3 d) os) w') from by
    have h := fault24_any ⟨#[47, 97, 124]⟩ (by decide) (grow (redrawn w3 d) os)
    rw [ex24_2] at h
    exact h)
  have C2 := Lib.hid (fun (d : Nat) (os : Array Obj) => show Calls Tryd.prog 15 #[.string ⟨#[47, 97, 91, 48, 93]⟩] (grow (redrawn w3 d) os) (fun e w' => e = .returned (.agg #[.int .i64 2, .int .i64 3, .int .i64 0, .int .i64 0]) ∧ Below (grow (redrawn w3 d) os).heap.size (grow (redrawn w3 d) os) w') from by
    have h := fault24_any ⟨#[47, 97, 91, 48, 93]⟩ (by decide) (grow (redrawn w3 d) os)
    rw [ex24_3] at h
    exact h)
  have C3 := Lib.hid (fun (d : Nat) (os : Array Obj) => show Calls Tryd.prog 15 #[.string ⟨#[47, 97, 61, 120]⟩] (grow (redrawn w3 d) os) (fun e w' => e = .returned (.agg #[.int .i64 2, .int .i64 3, .int .i64 0, .int .i64 0]) ∧ Below (grow (redrawn w3 d) os).heap.size (grow (redrawn w3 d) os) w') from by
    have h := fault24_any ⟨#[47, 97, 61, 120]⟩ (by decide) (grow (redrawn w3 d) os)
    rw [ex24_4] at h
    exact h)
  have C4 := Lib.hid (fun (d : Nat) (os : Array Obj) => show Calls Tryd.prog 15 #[.string ⟨#[47, 119, 97, 116, 101, 114]⟩] (grow (redrawn w3 d) os) (fun e w' => e = .returned (.agg #[.int .i64 2, .int .i64 1, .int .i64 0, .int .i64 0]) ∧ Below (grow (redrawn w3 d) os).heap.size (grow (redrawn w3 d) os) w') from by
    have h := fault24_any ⟨#[47, 119, 97, 116, 101, 114]⟩ (by decide) (grow (redrawn w3 d) os)
    rw [ex24_5] at h
    exact h)
  have C5 := Lib.hid (fun (d : Nat) (os : Array Obj) => show Calls Tryd.prog 15 #[.string ⟨#[47, 42, 47, 42, 47, 42, 47, 42, 47, 42, 47, 42, 47, 42, 47, 42, 47, 42, 47, 42, 47, 42, 47, 42, 47, 42]⟩] (grow (redrawn w3 d) os) (fun e w' => e = .returned (.agg #[.int .i64 3, .int .i64 24, .int .i64 0, .int .i64 0]) ∧ Below (grow (redrawn w3 d) os).heap.size (grow (redrawn w3 d) os) w') from by
    have h := fault24_any ⟨#[47, 42, 47, 42, 47, 42, 47, 42, 47, 42, 47, 42, 47, 42, 47, 42, 47, 42, 47, 42, 47, 42, 47, 42, 47, 42]⟩ (by decide) (grow (redrawn w3 d) os)
    rw [ex24_6] at h
    exact h)
  go_upto_region 5 with fail
  try simp only [List.append_eq, List.cons_append, List.nil_append]
  have ra0 := cell_regrown a0
  have ra1 := cell_regrown a1
  have ra2 := cell_regrown a2
  have ra3 := cell_regrown a3
  have ra4 := cell_regrown a4
  have ra5 := cell_regrown a5
  have rb0 := cell_regrown b0
  have rb1 := cell_regrown b1
  have rb2 := cell_regrown b2
  have rb3 := cell_regrown b3
  have rb4 := cell_regrown b4
  have rb5 := cell_regrown b5
  have rc0 := cell_regrown c0
  have rc1 := cell_regrown c1
  have rc2 := cell_regrown c2
  have rc3 := cell_regrown c3
  have rc4 := cell_regrown c4
  have rc5 := cell_regrown c5
  have rd0 := cell_regrown d0
  have rd1 := cell_regrown d1
  have rd2 := cell_regrown d2
  have rd3 := cell_regrown d3
  have rd4 := cell_regrown d4
  have rd5 := cell_regrown d5
  have rf0 := cell_regrown f0
  have rf1 := cell_regrown f1
  have rf2 := cell_regrown f2
  have rf3 := cell_regrown f3
  have rf4 := cell_regrown f4
  have rf5 := cell_regrown f5
  have rq0 := cell_regrown q0
  have rq1 := cell_regrown q1
  have ry0 := cell_regrown y0
  have ry1 := cell_regrown y1
  have ry2 := cell_regrown y2
  have ry3 := cell_regrown y3
  have rx0 := cell_regrown x0
  refine wp_region_plain_below ?_
  repeat (go_big_quiet_step (first
    | (go_at_call 11; with_reducible exact Calls.regrown_of (CP.out _ _))
    | (go_at_call 13; with_reducible exact Calls.regrown_of (CR.out _ _))
    | (go_at_call 13; with_reducible exact Calls.regrown_of (CZ.out _ _))
    | (go_at_call 15; with_reducible exact Calls.regrown_of (C0.out _ _))
    | (go_at_call 15; with_reducible exact Calls.regrown_of (C1.out _ _))
    | (go_at_call 15; with_reducible exact Calls.regrown_of (C2.out _ _))
    | (go_at_call 15; with_reducible exact Calls.regrown_of (C3.out _ _))
    | (go_at_call 15; with_reducible exact Calls.regrown_of (C4.out _ _))
    | (go_at_call 15; with_reducible exact Calls.regrown_of (C5.out _ _))))
  refine wpQuiet_nil ?_
  intro _ hw'
  obtain ⟨⟨dq, osq⟩, hw''⟩ := hw'
  subst hw''
  go_wp2
  go_ret
  exact ⟨rfl, keepb HB3.out (below_regrown _ _ _)⟩
end Go.Proofs.YtialpofiagiclaaDoor
