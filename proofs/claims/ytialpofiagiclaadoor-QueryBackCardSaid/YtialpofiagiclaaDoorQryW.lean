/- What a text is as a query: the document's answer: kinds, names. -/
import Derived.Test.YtialpofiagiclaaDoorQz
import Derived.Test.YtialpofiagiclaaDoorWordR
namespace Go.Proofs.YtialpofiagiclaaDoor
set_option linter.unusedVariables false
set_option maxRecDepth 1000000
open Go.RowKit Go.Sort

def kwS (j : Nat) : ByteArray := ⟨(kwL j).toArray⟩
theorem kwS_list (j : Nat) : (kwS j).data.toList = kwL j := by show (kwL j).toArray.toList = _; simp
theorem kwS_size (j : Nat) : (kwS j).size ≤ 10 := by
  show (kwL j).toArray.size ≤ 10
  rw [List.size_toArray]
  unfold kwL
  split <;> decide
theorem kw_at {j : Nat} (h1 : 1 ≤ j) (h2 : j ≤ 5) : ([.string ⟨#[]⟩, .string ⟨#[35, 114, 117, 108, 101]⟩, .string ⟨#[35, 108, 97, 98, 101, 108]⟩, .string ⟨#[35, 115, 101, 97]⟩, .string ⟨#[35, 116, 101, 120, 116]⟩, .string ⟨#[35, 119, 97, 116, 101, 114]⟩] : List Value)[j]? = some (.string (kwS j)) := by
  have h : j = 1 ∨ j = 2 ∨ j = 3 ∨ j = 4 ∨ j = 5 := by omega
  rcases h with rfl | rfl | rfl | rfl | rfl <;> rfl
set_option maxHeartbeats 400000 in
theorem kinds_any (w : World) : Calls Tryd.prog 36 #[] w fun e w' => ∃ q, e = .returned (.slice (some ⟨q, 0, none⟩) 6 6) ∧ Own w' q 9 [.string ⟨#[]⟩, .string ⟨#[35, 114, 117, 108, 101]⟩, .string ⟨#[35, 108, 97, 98, 101, 108]⟩, .string ⟨#[35, 115, 101, 97]⟩, .string ⟨#[35, 116, 101, 120, 116]⟩, .string ⟨#[35, 119, 97, 116, 101, 114]⟩] ∧ Below w.heap.size w w' := by
  have H1 := Lib.hid (Own.fresh w 9 [.string ⟨#[]⟩, .string ⟨#[35, 114, 117, 108, 101]⟩, .string ⟨#[35, 108, 97, 98, 101, 108]⟩, .string ⟨#[35, 115, 101, 97]⟩, .string ⟨#[35, 116, 101, 120, 116]⟩, .string ⟨#[35, 119, 97, 116, 101, 114]⟩])
  have H2 := Lib.hid ((Below.refl w.heap.size w).alloc (Nat.le_refl _) (.cells #[.string ⟨#[]⟩, .string ⟨#[35, 114, 117, 108, 101]⟩, .string ⟨#[35, 108, 97, 98, 101, 108]⟩, .string ⟨#[35, 115, 101, 97]⟩, .string ⟨#[35, 116, 101, 120, 116]⟩, .string ⟨#[35, 119, 97, 116, 101, 114]⟩] 9))
  go_enter Tryd.func36, Tryd.ntmps36
  go_wp2
  go_ret
  exact ⟨_, rfl, H1.out, H2.out⟩

def whV : Option (Int × ByteArray × Nat) → Int → ByteArray → Prop | some p, kd, nm => kd = p.1 ∧ nm = p.2.1 | none, _, _ => True
def whK (k : Nat) : Option (Int × ByteArray × Nat) → Nat | some p => p.2.2 | none => k
def whX : Option (Int × ByteArray × Nat) → Bool | some _ => false | none => true
theorem Own.six {w : World} {g : Nat} {t : TypeId} {v0 v1 v2 v3 v4 v5 : Value} (h : Own w g t [v0, v1, v2, v3, v4, v5]) : w.cell? ⟨g, 0, none⟩ = some v0 ∧ w.cell? ⟨g, 1, none⟩ = some v1 ∧ w.cell? ⟨g, 2, none⟩ = some v2 ∧
    w.cell? ⟨g, 3, none⟩ = some v3 ∧ w.cell? ⟨g, 4, none⟩ = some v4 ∧ w.cell? ⟨g, 5, none⟩ = some v5 ∧ g < w.heap.size ∧ w.frozen? ⟨g, 0, none⟩ = false ∧ w.frozen? ⟨g, 1, none⟩ = false ∧ w.frozen? ⟨g, 2, none⟩ = false ∧ w.frozen? ⟨g, 3, none⟩ = false ∧ w.frozen? ⟨g, 4, none⟩ = false ∧ w.frozen? ⟨g, 5, none⟩ = false :=
  ⟨h.cell 0, h.cell 1, h.cell 2, h.cell 3, h.cell 4, h.cell 5, h.lt, h.thaw 0, h.thaw 1, h.thaw 2, h.thaw 3, h.thaw 4, h.thaw 5⟩
theorem kwF_step {s : ByteArray} {k f j : Nat} (hf : 0 < f) : kwF s k f j = if tk s k (kwL j) = true then j else kwF s k (f - 1) (j + 1) := by
  obtain ⟨f, rfl⟩ : ∃ q, f = q + 1 := ⟨f - 1, by omega⟩
  rfl
def goN (s : ByteArray) (k q : Nat) : Bool := decide (q < s.size) && decide (q < k + 12) && inW s q
theorem nm_more {s : ByteArray} {k f q : Nat} (h : goN s k q = true) (hf : f + q = k + 12) : nmF s f q = nmF s (f - 1) (q + 1) := by
  unfold goN at h
  simp only [Bool.and_eq_true, decide_eq_true_eq] at h
  obtain ⟨f, rfl⟩ : ∃ p, f = p + 1 := ⟨f - 1, by omega⟩
  conv => lhs; unfold nmF
  rw [if_pos ⟨h.1.1, h.2⟩]; rfl
theorem nm_stop {s : ByteArray} {k f q : Nat} (h : goN s k q = false) (hf : f + q = k + 12) : nmF s f q = q := by
  cases f with
  | zero => rfl
  | succ f =>
    unfold nmF
    rw [if_neg]
    intro ⟨h1, h2⟩
    unfold goN at h
    rw [decide_eq_true h1, decide_eq_true (show q < k + 12 by omega), h2] at h
    cases h
def set6 (w : World) (g : Nat) (u0 u1 u2 u3 u4 u5 : Value) : World := (((((w.setCell ⟨g, 0, none⟩ u0).setCell ⟨g, 1, none⟩ u1).setCell ⟨g, 2, none⟩ u2).setCell ⟨g, 3, none⟩ u3).setCell ⟨g, 4, none⟩ u4).setCell ⟨g, 5, none⟩ u5
theorem set6_fold (w : World) (g : Nat) (u0 u1 u2 u3 u4 u5 : Value) : (((((w.setCell ⟨g, 0, none⟩ u0).setCell ⟨g, 1, none⟩ u1).setCell ⟨g, 2, none⟩ u2).setCell ⟨g, 3, none⟩ u3).setCell ⟨g, 4, none⟩ u4).setCell ⟨g, 5, none⟩ u5 = set6 w g u0 u1 u2 u3 u4 u5 := rfl
theorem Own.put6 {w : World} {g : Nat} {t : TypeId} {v0 v1 v2 v3 v4 v5 : Value} (h : Own w g t [v0, v1, v2, v3, v4, v5]) (u0 u1 u2 u3 u4 u5 : Value) : Own (set6 w g u0 u1 u2 u3 u4 u5) g t [u0, u1, u2, u3, u4, u5] :=
  (((((h.put 0 u0).put 1 u1).put 2 u2).put 3 u3).put 4 u4).put 5 u5
theorem bsix {S : Nat → Prop} {a w : World} (h : But S a w) {q : Nat} (hq : a.heap.size ≤ q) (u0 u1 u2 u3 u4 u5 : Value) :
    But S a (set6 w q u0 u1 u2 u3 u4 u5) := by
  have k : ∀ i, (⟨q, i, none⟩ : Addr).block < a.heap.size → S q := fun i h => by simp at h; omega
  exact (((((h.setCell (k 0) _).setCell (k 1) _).setCell (k 2) _).setCell (k 3) _).setCell (k 4) _).setCell (k 5) _
theorem cur_six {w : World} {g k q : Nat} {s : ByteArray} {b : Bool} (h : Cur w g s k b) (hq : g ≠ q) (u0 u1 u2 u3 u4 u5 : Value) :
    Cur (set6 w q u0 u1 u2 u3 u4 u5) g s k b :=
  (((((Own.off h (p := ⟨q, 0, none⟩) hq _).off (p := ⟨q, 1, none⟩) hq _).off (p := ⟨q, 2, none⟩) hq _).off (p := ⟨q, 3, none⟩) hq _).off (p := ⟨q, 4, none⟩) hq _).off (p := ⟨q, 5, none⟩) hq _

set_option maxRecDepth 1000000 in
set_option maxHeartbeats 3200000 in
theorem test_any (a : Int) (s : ByteArray) (hs : s.size ≤ 1000000) (g k : Nat) (hk : k ≤ s.size) (w : World) (hc : Cur w g s k false) :
    Calls Tryd.prog 19 #[.pointer (some ⟨g, 0, none⟩), .agg #[.int .i64 a, .int .i64 0, .string ⟨#[]⟩, .string ⟨#[]⟩, .string ⟨#[]⟩, .int .i64 0]] w fun e w' => (∃ kd nm, e = .returned (.agg #[.int .i64 a, .int .i64 kd, .string nm, .string ⟨#[]⟩, .string ⟨#[]⟩, .int .i64 0]) ∧ whV (whR s k) kd nm) ∧ Cur w' g s (whK k (whR s k)) (whX (whR s k)) ∧ But (fun j => j = g) w w' := by
  have HS := Lib.hid hs
  have HG := Lib.hid hc.lt
  have HW := Lib.hid (show whR s k = if kwF s k 5 1 ≠ 0 then some (((kwF s k 5 1 : Nat) : Int), ⟨#[]⟩, k + (kwL (kwF s k 5 1)).length)
  else if tk s k [42] = true then some (0, ⟨#[]⟩, k + 1)
  else if wordB (s.extract k (nmF s 12 k)) = true then some (0, s.extract k (nmF s 12 k), nmF s 12 k) else none from rfl)
  generalize whR s k = l at *
  obtain ⟨A, hA⟩ : ∃ A, w.heap.size = A := ⟨_, rfl⟩
  obtain ⟨R, hR⟩ : ∃ R, A + 1 = R := ⟨_, rfl⟩
  have HA := Lib.hid (show Own ((w.alloc (.cells #[.int .i64 a, .int .i64 0, .string ⟨#[]⟩, .string ⟨#[]⟩, .string ⟨#[]⟩, .int .i64 0] 38)).alloc (.cells #[.int .i64 0, .int .i64 0, .string ⟨#[]⟩, .string ⟨#[]⟩, .string ⟨#[]⟩, .int .i64 0] 38)) A 38 [.int .i64 a, .int .i64 0, .string ⟨#[]⟩, .string ⟨#[]⟩, .string ⟨#[]⟩, .int .i64 0] by rw [← hA]; exact (Own.fresh w 38 [.int .i64 a, .int .i64 0, .string ⟨#[]⟩, .string ⟨#[]⟩, .string ⟨#[]⟩, .int .i64 0]).on_alloc _)
  have HR := Lib.hid (show Own ((w.alloc (.cells #[.int .i64 a, .int .i64 0, .string ⟨#[]⟩, .string ⟨#[]⟩, .string ⟨#[]⟩, .int .i64 0] 38)).alloc (.cells #[.int .i64 0, .int .i64 0, .string ⟨#[]⟩, .string ⟨#[]⟩, .string ⟨#[]⟩, .int .i64 0] 38)) R 38 [.int .i64 0, .int .i64 0, .string ⟨#[]⟩, .string ⟨#[]⟩, .string ⟨#[]⟩, .int .i64 0] by rw [← hR, ← hA]; exact Own.fresh' (by simp) 38 [.int .i64 0, .int .i64 0, .string ⟨#[]⟩, .string ⟨#[]⟩, .string ⟨#[]⟩, .int .i64 0])
  have HC := Lib.hid (show Cur ((w.alloc (.cells #[.int .i64 a, .int .i64 0, .string ⟨#[]⟩, .string ⟨#[]⟩, .string ⟨#[]⟩, .int .i64 0] 38)).alloc (.cells #[.int .i64 0, .int .i64 0, .string ⟨#[]⟩, .string ⟨#[]⟩, .string ⟨#[]⟩, .int .i64 0] 38)) g s k false from (hc.on_alloc _).on_alloc _)
  have HB := Lib.hid (show But (fun j => j = g) w ((w.alloc (.cells #[.int .i64 a, .int .i64 0, .string ⟨#[]⟩, .string ⟨#[]⟩, .string ⟨#[]⟩, .int .i64 0] 38)).alloc (.cells #[.int .i64 0, .int .i64 0, .string ⟨#[]⟩, .string ⟨#[]⟩, .string ⟨#[]⟩, .int .i64 0] 38)) from ((But.refl _ _).alloc _).alloc _)
  have HNE := Lib.hid (show g ≠ A ∧ g ≠ R ∧ A ≠ R ∧ w.heap.size ≤ A ∧ w.heap.size ≤ R by have := HG.out; omega)
  clear hc
  go_enter Tryd.func19, Tryd.ntmps19
  go_wp2_with fail
  generalize World.alloc (w.alloc _) _ = w1 at *
  clear hA hR
  go_loopw [5] (fun b5 wr => ∃ j f : Nat, b5 = .int .i64 (j : Int) ∧ j + f = 6 ∧ 1 ≤ j ∧ Hid (kwF s k 5 1 = kwF s k f j) ∧ Hid (Own wr A 38 [.int .i64 a, .int .i64 0, .string ⟨#[]⟩, .string ⟨#[]⟩, .string ⟨#[]⟩, .int .i64 0]) ∧ Hid (Own wr R 38 [.int .i64 0, .int .i64 0, .string ⟨#[]⟩, .string ⟨#[]⟩, .string ⟨#[]⟩, .int .i64 0]) ∧ Hid (Cur wr g s k false) ∧ Hid (But (fun j => j = g) w wr)) (fun b5 _ => 6 - (intOf b5).toNat)
  case atStart => exact ⟨1, 5, rfl, rfl, Nat.le_refl _, Lib.hid rfl, HA, HR, HC, HB⟩
  case round =>
    obtain ⟨j, f, rfl, hjf, hj1, HK, HA1, HR1, HC1, HB1⟩ := hrel
    clear HA HR HC HB
    by_cases hj5 : (j : Int) < 6
    · have hw1 : IntKind.i64.wrap ((j : Int) + 1) = (j : Int) + 1 := by rw [IntKind.wrap_i64]; omega
      go_wp2_with fail
      refine (kinds_any _).mono ?_
      rintro e w2 ⟨q, rfl, hq, hb⟩
      have HA2 := Lib.hid (HA1.out.under hb HA1.out.lt)
      have HR2 := Lib.hid (HR1.out.under hb HR1.out.lt)
      have HC2 := Lib.hid (show Cur w2 g s k false from HC1.out.under hb HC1.out.lt)
      have HB2 := Lib.hid (HB1.out.then_below hb)
      have hcq : w2.cell? ⟨q, j, none⟩ = some (.string (kwS j)) := by rw [hq.cell j]; exact kw_at hj1 (by omega)
      have hql := hq.lt
      clear hb HA1 HR1 HC1 HB1 hq
      cases ht : tk s k (kwL j) with
      | true =>
        have HL := Lib.hid (show l = some ((j : Int), ⟨#[]⟩, k + (kwL j).length) by
          have h1 : kwF s k 5 1 = j := by rw [HK.out, kwF_step (by omega), if_pos ht]
          rw [HW.out, h1, if_pos (by omega)])
        go_wp2_with fail
        refine (take_yes s (kwS j) HS.out (by have := kwS_size j; omega) g k hk false _ HC2.out (by rw [kwS_list]; exact ht)).mono ?_
        rintro e w3 ⟨rfl, hc3, hb3⟩
        rw [kwS_list] at hc3
        have HC3 := Lib.hid hc3
        have HB3 := Lib.hid (HB2.out.two hb3)
        have HA3 := Lib.hid (HA2.out.but hb3 (fun h => HNE.out.1 h.symm))
        have HR3 := Lib.hid (HR2.out.but hb3 (fun h => HNE.out.2.1 h.symm))
        clear hc3 hb3 HA2 HR2 HC2 HB2 hcq hql ht
        have HA4 := Lib.hid (HA3.out.put 1 (.int .i64 (j : Int)))
        have HR4 := Lib.hid (HR3.out.off (p := ⟨A, 1, none⟩) (fun h => HNE.out.2.2.1 h.symm) (.int .i64 (j : Int)))
        have HC4 := Lib.hid (show Cur (w3.setCell ⟨A, 1, none⟩ (.int .i64 (j : Int))) g s (k + (kwL j).length) false from HC3.out.off (p := ⟨A, 1, none⟩) HNE.out.1 (.int .i64 (j : Int)))
        have HB4 := Lib.hid (HB3.out.setCell (p := ⟨A, 1, none⟩) (fun h => by have := HNE.out; simp at h; omega) (.int .i64 (j : Int)))
        obtain ⟨a0, a1, a2, a3, a4, a5, ag, g0, g1, g2, g3, g4, g5⟩ := HA3.out.six
        go_upto_region 6 with fail
        generalize World.setCell w3 _ _ = w4 at *
        clear a0 a1 a2 a3 a4 a5 ag g0 g1 g2 g3 g4 g5 HA3 HR3 HC3 HB3
        obtain ⟨a0, a1, a2, a3, a4, a5, ag, -⟩ := (show Own w4 A 38 [.int .i64 a, .int .i64 (j : Int), .string ⟨#[]⟩, .string ⟨#[]⟩, .string ⟨#[]⟩, .int .i64 0] from HA4.out).six
        obtain ⟨r0, r1, r2, r3, r4, r5, rg, e0, e1, e2, e3, e4, e5⟩ := HR4.out.six
        go_wp2
        rw [set6_fold]
        have hF := HR4.out.put6 (.int .i64 a) (.int .i64 (j : Int)) (.string ⟨#[]⟩) (.string ⟨#[]⟩) (.string ⟨#[]⟩) (.int .i64 0)
        have HC9 := Lib.hid (cur_six HC4.out HNE.out.2.1 (.int .i64 a) (.int .i64 (j : Int)) (.string ⟨#[]⟩) (.string ⟨#[]⟩) (.string ⟨#[]⟩) (.int .i64 0))
        have HB9 := Lib.hid (bsix HB4.out HNE.out.2.2.2.2 (.int .i64 a) (.int .i64 (j : Int)) (.string ⟨#[]⟩) (.string ⟨#[]⟩) (.string ⟨#[]⟩) (.int .i64 0))
        clear a0 a1 a2 a3 a4 a5 ag r0 r1 r2 r3 r4 r5 rg e0 e1 e2 e3 e4 e5
        generalize set6 _ _ _ _ _ _ _ _ = w9 at *
        obtain ⟨z0, z1, z2, z3, z4, z5, -⟩ := hF.six
        refine bodyPost_ret (by simp [results, Tryd.results19, go_sem, z0, z1, z2, z3, z4, z5]; rfl) rfl ?_
        rw [HL.out]
        exact ⟨⟨_, _, rfl, rfl, rfl⟩, HC9.out, HB9.out⟩
      | false =>
        have HK2 := Lib.hid (show kwF s k 5 1 = kwF s k (f - 1) (j + 1) by rw [HK.out, kwF_step (by omega), if_neg (by rw [ht]; decide)])
        go_wp2_with fail
        refine (take_no s (kwS j) HS.out (by have := kwS_size j; omega) g k hk false _ HC2.out (by rw [kwS_list]; exact ht)).mono ?_
        rintro e w3 ⟨rfl, hc3, hb3⟩
        have HC3 := Lib.hid hc3
        have HB3 := Lib.hid (HB2.out.two hb3)
        have HA3 := Lib.hid (HA2.out.but hb3 (fun h => HNE.out.1 h.symm))
        have HR3 := Lib.hid (HR2.out.but hb3 (fun h => HNE.out.2.1 h.symm))
        clear hc3 hb3 HA2 HR2 HC2 HB2 hcq hql ht
        go_wp2
        go_roundw
        case rel => exact ⟨j + 1, f - 1, by go_num, by omega, by omega, HK2, HA3, HR3, HC3, HB3⟩
        case measure => simp [intOf]; omega
    · have HW2 := Lib.hid (show l = if tk s k [42] = true then some (0, ⟨#[]⟩, k + 1) else if wordB (s.extract k (nmF s 12 k)) = true then some (0, s.extract k (nmF s 12 k), nmF s 12 k) else none by
        have h1 : kwF s k 5 1 = 0 := by rw [HK.out, show f = 0 by omega]; rfl
        rw [HW.out, h1, if_neg (by simp)])
      clear HW HK
      cases ht : tk s k [42] with
      | true =>
        have HL := Lib.hid (show l = some (0, ⟨#[]⟩, k + 1) by rw [HW2.out, if_pos ht])
        go_wp2_with fail
        refine (take_yes s ⟨#[42]⟩ HS.out (by decide) g k hk false _ HC1.out ht).mono ?_
        rintro e w3 ⟨rfl, hc3, hb3⟩
        have HC3 := Lib.hid (show Cur w3 g s (k + 1) false from hc3)
        have HB3 := Lib.hid (HB1.out.two hb3)
        have HA3 := Lib.hid (HA1.out.but hb3 (fun h => HNE.out.1 h.symm))
        have HR3 := Lib.hid (HR1.out.but hb3 (fun h => HNE.out.2.1 h.symm))
        clear hc3 hb3 HA1 HR1 HC1 HB1 ht
        obtain ⟨a0, a1, a2, a3, a4, a5, ag, -⟩ := HA3.out.six
        obtain ⟨r0, r1, r2, r3, r4, r5, rg, e0, e1, e2, e3, e4, e5⟩ := HR3.out.six
        go_wp2
        rw [set6_fold]
        have hF := HR3.out.put6 (.int .i64 a) (.int .i64 0) (.string ⟨#[]⟩) (.string ⟨#[]⟩) (.string ⟨#[]⟩) (.int .i64 0)
        have HC9 := Lib.hid (cur_six HC3.out HNE.out.2.1 (.int .i64 a) (.int .i64 0) (.string ⟨#[]⟩) (.string ⟨#[]⟩) (.string ⟨#[]⟩) (.int .i64 0))
        have HB9 := Lib.hid (bsix HB3.out HNE.out.2.2.2.2 (.int .i64 a) (.int .i64 0) (.string ⟨#[]⟩) (.string ⟨#[]⟩) (.string ⟨#[]⟩) (.int .i64 0))
        clear a0 a1 a2 a3 a4 a5 ag r0 r1 r2 r3 r4 r5 rg e0 e1 e2 e3 e4 e5
        generalize set6 _ _ _ _ _ _ _ _ = w9 at *
        obtain ⟨z0, z1, z2, z3, z4, z5, -⟩ := hF.six
        refine bodyPost_ret (by simp [results, Tryd.results19, go_sem, z0, z1, z2, z3, z4, z5]; rfl) rfl ?_
        rw [HL.out]
        exact ⟨⟨_, _, rfl, rfl, rfl⟩, HC9.out, HB9.out⟩
      | false =>
        rw [if_neg (by rw [ht]; decide)] at HW2
        go_wp2_with fail
        refine (take_no s ⟨#[42]⟩ HS.out (by decide) g k hk false _ HC1.out ht).mono ?_
        rintro e w3 ⟨rfl, hc3, hb3⟩
        have HC3 := Lib.hid (show Cur w3 g s k false from hc3)
        have HB3 := Lib.hid (HB1.out.two hb3)
        have HA3 := Lib.hid (HA1.out.but hb3 (fun h => HNE.out.1 h.symm))
        have HR3 := Lib.hid (HR1.out.but hb3 (fun h => HNE.out.2.1 h.symm))
        clear hc3 hb3 HA1 HR1 HC1 HB1 ht
        obtain ⟨c0, c1, c2, hg, f1, f2⟩ := HC3.out.at_
        go_wp2_with fail
        clear c0 c1 c2 hg f1 f2
        go_loopw [] (fun wr => ∃ q p : Nat, p + q = k + 12 ∧ k ≤ q ∧ q ≤ s.size ∧ Hid (nmF s 12 k = nmF s p q) ∧ Hid (Own wr A 38 [.int .i64 a, .int .i64 0, .string ⟨#[]⟩, .string ⟨#[]⟩, .string ⟨#[]⟩, .int .i64 0]) ∧ Hid (Own wr R 38 [.int .i64 0, .int .i64 0, .string ⟨#[]⟩, .string ⟨#[]⟩, .string ⟨#[]⟩, .int .i64 0]) ∧ Hid (Cur wr g s q false) ∧ Hid (But (fun j => j = g) w wr)) (fun wr => k + 12 - (intOf ((wr.cell? ⟨g, 1, none⟩).getD (.bool false))).toNat)
        case atStart => exact ⟨k, 12, by omega, Nat.le_refl _, hk, Lib.hid rfl, HA3, HR3, HC3, HB3⟩
        case round =>
          obtain ⟨q, p, hpq, hkq, hqs, HNM, HA4, HR4, HC4, HB4⟩ := hrel
          clear HA3 HR3 HC3 HB3
          obtain ⟨B, hB⟩ : ∃ B, goN s k q = B := ⟨_, rfl⟩
          have HGB := Lib.hid hB
          have HQ1 := Lib.hid HC4.out.at_.2.1
          clear hB
          obtain ⟨c0, c1, c2, hg, f1, f2⟩ := HC4.out.at_
          go_upto_region 10 with fail
          go_cut [63] (fun c wx => c = .bool B ∧ ∃ n, wx = wr.drewN n)
          case first =>
            by_cases a1 : q < s.size
            · have d1 : decide (q < s.size) = true := decide_eq_true a1
              by_cases a2 : q < k + 12
              · have d2 : decide ((q : Int) < (k : Int) + 12) = true := decide_eq_true (by omega)
                have v1 : IntKind.i64.wrap ((q : Int) + 1) = (q : Int) + 1 := by rw [IntKind.wrap_i64]; omega
                have v2 : ((q : Int) + 1).toNat = q + 1 := by omega
                obtain ⟨T, hT⟩ : ∃ T, s.extract q (q + 1) = T := ⟨_, rfl⟩
                have hTs : T.size ≤ 1 := by rw [← hT, ByteArray.size_extract]; omega
                obtain ⟨V, hV⟩ : ∃ V, inW s q = V := ⟨_, rfl⟩
                have HV := Lib.hid hV
                have HWD := Lib.hid (fun W => (rword_any (⟨#[97]⟩ ++ T) (by unfold maxLen; rw [ByteArray.size_append]; show 1 + T.size ≤ _; omega) W).mono fun e w' (h : e = .returned (.bool (wordB (⟨#[97]⟩ ++ T))) ∧ W = w') => (⟨by rw [h.1, ← hV, ← hT]; rfl, h.2.symm⟩ : e = .returned (.bool V) ∧ w' = W))
                clear hV
                cases V with
                | true =>
                  have HF := Lib.hid (show B = true by rw [← HGB.out]; unfold goN; rw [decide_eq_true a1, decide_eq_true a2, HV.out]; rfl)
                  go_quiet (first | (go_at_call 29; with_reducible exact Calls.quiet_of_same (HWD.out _)))
                  go_wp2_with fail
                  go_meet
                  exact ⟨by rw [HF.out], nq, rfl⟩
                | false =>
                  have HF := Lib.hid (show B = false by rw [← HGB.out]; unfold goN; rw [decide_eq_true a1, decide_eq_true a2, HV.out]; rfl)
                  go_quiet (first | (go_at_call 29; with_reducible exact Calls.quiet_of_same (HWD.out _)))
                  go_wp2_with fail
                  go_meet
                  exact ⟨by rw [HF.out], nq, rfl⟩
              · have d2 : decide ((q : Int) < (k : Int) + 12) = false := decide_eq_false (by omega)
                have HF := Lib.hid (show B = false by rw [← HGB.out]; unfold goN; rw [decide_eq_true a1, decide_eq_false a2]; rfl)
                go_quiet (fail)
                go_wp2_with fail
                go_meet
                exact ⟨by rw [HF.out], nq, rfl⟩
            · have d1 : decide (q < s.size) = false := decide_eq_false a1
              have HF := Lib.hid (show B = false by rw [← HGB.out]; unfold goN; rw [decide_eq_false a1]; rfl)
              go_quiet (fail)
              go_wp2_with fail
              go_meet
              exact ⟨by rw [HF.out], nq, rfl⟩
          case rest =>
            obtain ⟨rfl, nr, rfl⟩ := hcut
            have HA5 := Lib.hid (HA4.out.on_drewN nr)
            have HR5 := Lib.hid (HR4.out.on_drewN nr)
            have HC5 := Lib.hid (show Cur (wr.drewN nr) g s q false from HC4.out.on_drewN nr)
            have HB5 := Lib.hid (HB4.out.drewN nr)
            clear HA4 HR4 HC4 HB4 c0 c1 c2 hg f1 f2
            generalize wr.drewN nr = w5 at *
            obtain ⟨c0, c1, c2, hg, f1, f2⟩ := (show Cur w5 g s q false from HC5.out).at_
            cases B with
            | true =>
              have hG := HGB.out
              unfold goN at hG
              simp only [Bool.and_eq_true, decide_eq_true_eq] at hG
              obtain ⟨⟨a1, a2⟩, -⟩ := hG
              have HM := Lib.hid (show nmF s 12 k = nmF s (p - 1) (q + 1) by rw [HNM.out]; exact nm_more HGB.out hpq)
              have v1 : IntKind.i64.wrap ((q : Int) + 1) = (q : Int) + 1 := by rw [IntKind.wrap_i64]; omega
              have HC6 := Lib.hid (show Cur (w5.setCell ⟨g, 1, none⟩ (.int .i64 ((q : Int) + 1))) g s (q + 1) false from Cur.go HC5.out (q + 1))
              have HB6 := Lib.hid (HB5.out.setCell (p := ⟨g, 1, none⟩) (fun _ => rfl) (.int .i64 ((q : Int) + 1)))
              have HA6 := Lib.hid (HA5.out.off (p := ⟨g, 1, none⟩) (fun h => HNE.out.1 h.symm) (.int .i64 ((q : Int) + 1)))
              have HR6 := Lib.hid (HR5.out.off (p := ⟨g, 1, none⟩) (fun h => HNE.out.2.1 h.symm) (.int .i64 ((q : Int) + 1)))
              clear HA5 HR5 HC5 HB5
              go_wp2
              go_roundw
              case rel => exact ⟨q + 1, p - 1, by omega, by omega, by omega, HM, HA6, HR6, HC6, HB6⟩
              case measure => rw [HC6.out.at_.2.1, HQ1.out]; simp [intOf]; omega
            | false =>
              have HE := Lib.hid (show nmF s 12 k = q by rw [HNM.out]; exact nm_stop HGB.out hpq)
              rw [HE.out] at HW2
              obtain ⟨N, hN⟩ : ∃ N, s.extract k q = N := ⟨_, rfl⟩
              rw [hN] at HW2
              have HNS := Lib.hid (show N.size ≤ maxLen by rw [← hN, ByteArray.size_extract]; unfold maxLen; omega)
              obtain ⟨a0, a1, a2, a3, a4, a5, ag, g0, g1, g2, g3, g4, g5⟩ := HA5.out.six
              have hqk : (k : Int) ≤ q := by omega
              go_upto_region 12 with fail
              go_still_tail 11, (by kernel_rfl)
              go_upto_region 13 with fail
              have HA6 := Lib.hid (show Own ((w5.setCell ⟨A, 2, none⟩ (.string N)).drew) A 38 [.int .i64 a, .int .i64 0, .string N, .string ⟨#[]⟩, .string ⟨#[]⟩, .int .i64 0] from (HA5.out.put 2 (.string N)).on_drew)
              have HR6 := Lib.hid (show Own ((w5.setCell ⟨A, 2, none⟩ (.string N)).drew) R 38 [.int .i64 0, .int .i64 0, .string ⟨#[]⟩, .string ⟨#[]⟩, .string ⟨#[]⟩, .int .i64 0] from (HR5.out.off (p := ⟨A, 2, none⟩) (fun h => HNE.out.2.2.1 h.symm) (.string N)).on_drew)
              have HC6 := Lib.hid (show Cur ((w5.setCell ⟨A, 2, none⟩ (.string N)).drew) g s q false from (Own.off HC5.out (p := ⟨A, 2, none⟩) HNE.out.1 (.string N)).on_drew)
              have HB6 := Lib.hid ((HB5.out.setCell (p := ⟨A, 2, none⟩) (fun h => by have := HNE.out; simp at h; omega) (.string N)).drew)
              clear HA5 HR5 HC5 HB5 a0 a1 a2 a3 a4 a5 ag g0 g1 g2 g3 g4 g5 c0 c1 c2 hg f1 f2 hN
              generalize (w5.setCell _ _).drew = w6 at *
              obtain ⟨a0, a1, a2, a3, a4, a5, ag, -⟩ := (show Own w6 A 38 [.int .i64 a, .int .i64 0, .string N, .string ⟨#[]⟩, .string ⟨#[]⟩, .int .i64 0] from HA6.out).six
              obtain ⟨V, hV⟩ : ∃ V, wordB N = V := ⟨_, rfl⟩
              have HV := Lib.hid hV
              have HWD := Lib.hid (fun W => (rword_any N HNS.out W).mono fun e w' (h : e = .returned (.bool (wordB N)) ∧ W = w') => (⟨by rw [h.1, hV], h.2.symm⟩ : e = .returned (.bool V) ∧ w' = W))
              rw [hV] at HW2
              clear hV
              cases V with
              | true =>
                have HL := Lib.hid (show l = some (0, N, q) by rw [HW2.out, if_pos rfl])
                go_wp2_with fail
                refine (HWD.out _).mono ?_
                rintro e w7 ⟨rfl, rfl⟩
                obtain ⟨r0, r1, r2, r3, r4, r5, rg, e0, e1, e2, e3, e4, e5⟩ := HR6.out.six
                go_wp2
                rw [set6_fold]
                have hF := HR6.out.put6 (.int .i64 a) (.int .i64 0) (.string N) (.string ⟨#[]⟩) (.string ⟨#[]⟩) (.int .i64 0)
                have HC9 := Lib.hid (cur_six HC6.out HNE.out.2.1 (.int .i64 a) (.int .i64 0) (.string N) (.string ⟨#[]⟩) (.string ⟨#[]⟩) (.int .i64 0))
                have HB9 := Lib.hid (bsix HB6.out HNE.out.2.2.2.2 (.int .i64 a) (.int .i64 0) (.string N) (.string ⟨#[]⟩) (.string ⟨#[]⟩) (.int .i64 0))
                clear a0 a1 a2 a3 a4 a5 ag r0 r1 r2 r3 r4 r5 rg e0 e1 e2 e3 e4 e5
                generalize set6 _ _ _ _ _ _ _ _ = w9 at *
                obtain ⟨z0, z1, z2, z3, z4, z5, -⟩ := hF.six
                refine bodyPost_ret (by simp [results, Tryd.results19, go_sem, z0, z1, z2, z3, z4, z5]; rfl) rfl ?_
                rw [HL.out]
                exact ⟨⟨_, _, rfl, rfl, rfl⟩, HC9.out, HB9.out⟩
              | false =>
                have HL := Lib.hid (show l = none by rw [HW2.out, if_neg (by decide)])
                obtain ⟨c0, c1, c2, hg, f1, f2⟩ := (show Cur w6 g s q false from HC6.out).at_
                go_wp2_with fail
                refine (HWD.out _).mono ?_
                rintro e w7 ⟨rfl, rfl⟩
                have HC7 := Lib.hid (show Cur ((w7.setCell ⟨g, 1, none⟩ (.int .i64 (k : Int))).setCell ⟨g, 2, none⟩ (.bool true)) g s k true from Cur.bad (Cur.go HC6.out k) true)
                have HB7 := Lib.hid ((HB6.out.setCell (p := ⟨g, 1, none⟩) (fun _ => rfl) (.int .i64 (k : Int))).setCell (p := ⟨g, 2, none⟩) (fun _ => rfl) (.bool true))
                have HA7 := Lib.hid ((HA6.out.off (p := ⟨g, 1, none⟩) (fun h => HNE.out.1 h.symm) (.int .i64 (k : Int))).off (p := ⟨g, 2, none⟩) (fun h => HNE.out.1 h.symm) (.bool true))
                have HR7 := Lib.hid ((HR6.out.off (p := ⟨g, 1, none⟩) (fun h => HNE.out.2.1 h.symm) (.int .i64 (k : Int))).off (p := ⟨g, 2, none⟩) (fun h => HNE.out.2.1 h.symm) (.bool true))
                go_upto_region 15 with fail
                generalize World.setCell (w7.setCell _ _) _ _ = w8 at *
                clear a0 a1 a2 a3 a4 a5 ag c0 c1 c2 hg f1 f2 HC6 HB6 HA6 HR6
                obtain ⟨a0, a1, a2, a3, a4, a5, ag, -⟩ := (show Own w8 A 38 [.int .i64 a, .int .i64 0, .string N, .string ⟨#[]⟩, .string ⟨#[]⟩, .int .i64 0] from HA7.out).six
                obtain ⟨r0, r1, r2, r3, r4, r5, rg, e0, e1, e2, e3, e4, e5⟩ := HR7.out.six
                go_wp2
                rw [set6_fold]
                have hF := HR7.out.put6 (.int .i64 a) (.int .i64 0) (.string N) (.string ⟨#[]⟩) (.string ⟨#[]⟩) (.int .i64 0)
                have HC9 := Lib.hid (cur_six HC7.out HNE.out.2.1 (.int .i64 a) (.int .i64 0) (.string N) (.string ⟨#[]⟩) (.string ⟨#[]⟩) (.int .i64 0))
                have HB9 := Lib.hid (bsix HB7.out HNE.out.2.2.2.2 (.int .i64 a) (.int .i64 0) (.string N) (.string ⟨#[]⟩) (.string ⟨#[]⟩) (.int .i64 0))
                clear a0 a1 a2 a3 a4 a5 ag r0 r1 r2 r3 r4 r5 rg e0 e1 e2 e3 e4 e5
                generalize set6 _ _ _ _ _ _ _ _ = w9 at *
                obtain ⟨z0, z1, z2, z3, z4, z5, -⟩ := hF.six
                refine bodyPost_ret (by simp [results, Tryd.results19, go_sem, z0, z1, z2, z3, z4, z5]; rfl) rfl ?_
                rw [HL.out]
                exact ⟨⟨_, _, rfl, trivial⟩, HC9.out, HB9.out⟩
end Go.Proofs.YtialpofiagiclaaDoor
