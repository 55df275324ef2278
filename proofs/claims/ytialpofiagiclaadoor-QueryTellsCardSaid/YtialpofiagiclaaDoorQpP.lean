/- The reference's Same, over equal queries. -/
import Derived.Test.YtialpofiagiclaaDoorQpO
import Derived.Laws.StructEq
namespace Go.Proofs.YtialpofiagiclaaDoor
set_option linter.unusedVariables false
set_option maxRecDepth 1000000
open Go.RowKit Go.Sort

@[go_sem 2000] theorem eqFault (a b c d a' b' c' d' : Int) (w : World) :
    (Op.equalIn 10000 29 (.agg #[.int .i64 a, .int .i64 b, .int .i64 c, .int .i64 d]) (.agg #[.int .i64 a', .int .i64 b', .int .i64 c', .int .i64 d'])).run Tryd.prog w = .ok (a == a' && b == b' && c == c' && d == d') w := by
  have u3 := Tryd.underlying3
  have a3 := Tryd.isAgg3
  have z3 := Tryd.sizeOf3
  have u8 := Tryd.underlying27
  have a8 := Tryd.isAgg27
  have z8 := Tryd.sizeOf27
  have hS : Tryd.prog.underlying 29 = some (.struct (Tryd.prog.fieldsOf 29)) := by kernel_rfl
  have hp : Tryd.prog.stoodInHeld 29 = false := by kernel_rfl
  rw [show (10000 : Nat) = 9999 + 1 from rfl, run_equalIn_agg w 9999 29 _ _ hS hp]
  simp only [Program.fieldsOf, Tryd.underlying29]
  go_simp
  by_cases h1 : a = a' <;> by_cases h2 : b = b' <;> by_cases h3 : c = c' <;> by_cases h4 : d = d' <;> simp [h1, h2, h3, h4]

theorem beq_str (b b' : ByteArray) : (b.toList == b'.toList) = decide (b = b') := by
  rw [← beq_toListBytes]
  by_cases h : b = b'
  · subst h; rw [beq_toListBytes]; simp
  · rw [beq_toListBytes, decide_eq_false h]
    refine beq_false_of_ne fun e => h ?_
    rw [ByteArray.toList_eq, ByteArray.toList_eq] at e
    obtain ⟨⟨x⟩⟩ := b
    obtain ⟨⟨y⟩⟩ := b'
    simp at e; rw [e]
@[go_sem 2000] theorem eqHp6 (a k n a' k' n' : Int) (b c d b' c' d' : ByteArray) (w : World) :
    (Op.equalIn 10000 38 (.agg #[.int .i64 a, .int .i64 k, .string b, .string c, .string d, .int .i64 n]) (.agg #[.int .i64 a', .int .i64 k', .string b', .string c', .string d', .int .i64 n'])).run Tryd.prog w =
      .ok (a == a' && k == k' && decide (b = b') && decide (c = c') && decide (d = d') && n == n') w := by
  have u3 := Tryd.underlying3
  have a3 := Tryd.isAgg3
  have z3 := Tryd.sizeOf3
  have u9 := Tryd.underlying9
  have a9 := Tryd.isAgg9
  have z9 := Tryd.sizeOf9
  have hS : Tryd.prog.underlying 38 = some (.struct (Tryd.prog.fieldsOf 38)) := by kernel_rfl
  have hp : Tryd.prog.stoodInHeld 38 = false := by kernel_rfl
  rw [show (10000 : Nat) = 9999 + 1 from rfl, run_equalIn_agg w 9999 38 _ _ hS hp]
  simp only [Program.fieldsOf, Tryd.underlying38]
  have e1 := beq_str b b'
  have e2 := beq_str c c'
  have e3 := beq_str d d'
  go_simp
  by_cases h1 : a = a' <;> by_cases h2 : k = k' <;> by_cases h3 : b = b' <;> by_cases h4 : c = c' <;> by_cases h5 : d = d' <;> by_cases h6 : n = n' <;> simp [h1, h2, h3, h4, h5, h6]

set_option maxRecDepth 1000000 in
set_option maxHeartbeats 6400000 in
theorem rsameq_any (P : List (List Hp)) (q1 q2 : Option Addr) (c1 c2 : Nat) (hP : (P.length : Int) ≤ 1000) (hPL : ∀ p ∈ P, (p.length : Int) ≤ 1000) (w : World) (h1 : HasQ w q1 P) (h2 : HasQ w q2 P) :
    Calls Tryd.prog 10 #[.agg #[.slice q1 P.length c1], .agg #[.slice q2 P.length c2]] w fun e w' => e = .returned (.bool true) ∧ Below w.heap.size w w' := by
  have HQ1 := Lib.hid h1
  have HQ2 := Lib.hid h2
  have HPL := Lib.hid hPL
  obtain ⟨m, hm⟩ : ∃ m, P.length = m := ⟨_, rfl⟩
  have HM := Lib.hid hm
  obtain ⟨A, hA⟩ : ∃ A, w.heap.size = A := ⟨_, rfl⟩
  have HAW := Lib.hid hA
  rw [hm] at hP ⊢
  have HB1 := Lib.hid (show Below A w ((w.alloc (.cells #[.slice q1 m c1] 24)).alloc (.cells #[.slice q2 m c2] 24)) from ((Below.refl A w).alloc (by omega) _).alloc (by rw [← hA]; exact ((Below.refl A w).alloc (by omega) _).size) _)
  have HX1 := Lib.hid (show Own ((w.alloc (.cells #[.slice q1 m c1] 24)).alloc (.cells #[.slice q2 m c2] 24)) A 24 [.slice q1 m c1] from (Own.fresh' hA.symm _ _).on_alloc _)
  have HY1 := Lib.hid (show Own ((w.alloc (.cells #[.slice q1 m c1] 24)).alloc (.cells #[.slice q2 m c2] 24)) (A + 1) 24 [.slice q2 m c2] from Own.fresh' (by simp [hA]) _ _)
  clear h1 h2 hPL hm
  go_enter Tryd.func10, Tryd.ntmps10
  go_upto_region 1 with fail
  try rw [hA]
  try simp only [World.size_alloc, hA]
  generalize World.alloc (World.alloc w _) _ = w1 at *
  clear hA
  have x0 : w1.cell? ⟨A, 0, none⟩ = some (.slice q1 m c1) := HX1.out.cell 0
  have xl := HX1.out.lt
  have y0 : w1.cell? ⟨A + 1, 0, none⟩ = some (.slice q2 m c2) := HY1.out.cell 0
  have yl := HY1.out.lt
  go_upto_region 3 with fail
  clear x0 xl y0 yl
  go_wp2_with fail
  go_loopw [5] (fun b5 wr => ∃ k : Nat, b5 = .int .i64 (k : Int) ∧ (k : Int) ≤ m ∧ Hid (Own wr A 24 [.slice q1 m c1]) ∧ Hid (Own wr (A + 1) 24 [.slice q2 m c2]) ∧ Hid (Below A w wr)) (fun b5 _ => m - (intOf b5).toNat)
  case atStart => exact ⟨0, rfl, by omega, HX1, HY1, HB1⟩
  case round =>
    obtain ⟨k, rfl, hk, HX, HY, HB⟩ := hrel
    obtain ⟨wo, rfl⟩ : ∃ z, z = wr := ⟨_, rfl⟩
    clear HX1 HY1 HB1
    have x0 : wo.cell? ⟨A, 0, none⟩ = some (.slice q1 m c1) := HX.out.cell 0
    have xl := HX.out.lt
    have y0 : wo.cell? ⟨A + 1, 0, none⟩ = some (.slice q2 m c2) := HY.out.cell 0
    have yl := HY.out.lt
    by_cases hkm : (k : Int) < m
    · obtain ⟨p, hp⟩ : ∃ p, P[k]? = some p := ⟨_, List.getElem?_eq_getElem (by have := HM.out; omega)⟩
      obtain ⟨g, off, po, pc, rfl, hg, hc, hh⟩ := HQ1.out k p hp
      obtain ⟨g', off', po', pc', rfl, hg', hc', hh'⟩ := HQ2.out k p hp
      have HH := Lib.hid hh
      have HH' := Lib.hid hh'
      have hpl := HPL.out p (List.mem_of_getElem? hp)
      have HCW := Lib.hid hc
      have HGW := Lib.hid hg
      have HCW' := Lib.hid hc'
      have HGW' := Lib.hid hg'
      have HBS := Lib.hid (show Below w.heap.size w wo from by rw [HAW.out]; exact HB.out)
      have hw1 : IntKind.i64.wrap ((k : Int) + 1) = (k : Int) + 1 := by rw [IntKind.wrap_i64]; omega
      have hk0 : 0 ≤ (k : Int) := by omega
      obtain ⟨n2, hn2⟩ : ∃ n, p.length = n := ⟨_, rfl⟩
      have HN2 := Lib.hid hn2
      rw [hn2] at hpl HCW HCW'
      have e1 := keepc HCW.out HBS.out
      have e2 := Nat.lt_of_lt_of_le HGW.out HBS.out.size
      have e3 := keepc HCW'.out HBS.out
      have e4 := Nat.lt_of_lt_of_le HGW'.out HBS.out.size
      clear hh hh' hp hc hc' hg hg' hn2
      go_upto_region 6 with fail
      go_region
      have HXd := Lib.hid HX.out.on_drew
      have HYd := Lib.hid HY.out.on_drew
      have HBd := Lib.hid (show Below A w wo.drew from HB.out.drew)
      clear x0 xl y0 yl e1 e2 e3 e4 HX HY HB HBS
      generalize wo.drew = w2 at *
      go_wp2_with fail
      go_loopw [6] (fun b6 wr => ∃ q : Nat, b6 = .int .i64 (q : Int) ∧ (q : Int) ≤ n2 ∧ Hid (Own wr A 24 [.slice (some ⟨g, off, none⟩) m c1]) ∧ Hid (Own wr (A + 1) 24 [.slice (some ⟨g', off', none⟩) m c2]) ∧ Hid (Below A w wr)) (fun b6 _ => n2 - (intOf b6).toNat)
      case atStart => exact ⟨0, rfl, by omega, HXd, HYd, HBd⟩
      case round =>
        obtain ⟨q, rfl, hq, HX2, HY2, HB2⟩ := hrel
        clear HXd HYd HBd
        have x0 : wr.cell? ⟨A, 0, none⟩ = some (.slice (some ⟨g, off, none⟩) m c1) := HX2.out.cell 0
        have xl := HX2.out.lt
        have y0 : wr.cell? ⟨A + 1, 0, none⟩ = some (.slice (some ⟨g', off', none⟩) m c2) := HY2.out.cell 0
        have yl := HY2.out.lt
        have HBS := Lib.hid (show Below w.heap.size w wr from by rw [HAW.out]; exact HB2.out)
        have e1 := keepc HCW.out HBS.out
        have e2 := Nat.lt_of_lt_of_le HGW.out HBS.out.size
        have e3 := keepc HCW'.out HBS.out
        have e4 := Nat.lt_of_lt_of_le HGW'.out HBS.out.size
        by_cases hqn : (q : Int) < n2
        · obtain ⟨x, hx⟩ : ∃ x, p[q]? = some x := ⟨_, List.getElem?_eq_getElem (by have := HN2.out; omega)⟩
          obtain ⟨g2, of2, rfl, hg2, a0, a1, a2, a3, a4, a5⟩ := HH.out q x hx
          obtain ⟨g3, of3, rfl, hg3, b0, b1, b2, b3, b4, b5⟩ := HH'.out q x hx
          have d0 := keepc a0 HBS.out
          have d1 := keepc a1 HBS.out
          have d2 := keepc a2 HBS.out
          have d3 := keepc a3 HBS.out
          have d4 := keepc a4 HBS.out
          have d5 := keepc a5 HBS.out
          have f0 := keepc b0 HBS.out
          have f1 := keepc b1 HBS.out
          have f2 := keepc b2 HBS.out
          have f3 := keepc b3 HBS.out
          have f4 := keepc b4 HBS.out
          have f5 := keepc b5 HBS.out
          have hg2w := Nat.lt_of_lt_of_le hg2 HBS.out.size
          have hg3w := Nat.lt_of_lt_of_le hg3 HBS.out.size
          have hw2 : IntKind.i64.wrap ((q : Int) + 1) = (q : Int) + 1 := by rw [IntKind.wrap_i64]; omega
          have hq0 : 0 ≤ (q : Int) := by omega
          clear hx a0 a1 a2 a3 a4 a5 b0 b1 b2 b3 b4 b5 hg2 hg3
          go_upto_region 11 with fail
          go_region
          have HXd := Lib.hid HX2.out.on_drew
          have HYd := Lib.hid HY2.out.on_drew
          have HBd := Lib.hid (show Below A w wr.drew from HB2.out.drew)
          clear x0 xl y0 yl e1 e2 e3 e4 d0 d1 d2 d3 d4 d5 f0 f1 f2 f3 f4 f5 hg2w hg3w HX2 HY2 HB2 HBS
          generalize wr.drew = w3 at *
          go_wp2
          go_roundw
          case rel => exact ⟨q + 1, by go_num, by omega, HXd, HYd, HBd⟩
          case measure => simp [intOf]; omega
        · obtain rfl : q = n2 := by omega
          go_wp2
          go_roundw
          case rel => exact ⟨k + 1, by go_num, by omega, HX2, HY2, HB2⟩
          case measure => simp [intOf]; omega
    · obtain rfl : k = m := by omega
      go_wp2
      go_ret
      exact ⟨rfl, by rw [HAW.out]; exact HB.out⟩
end Go.Proofs.YtialpofiagiclaaDoor
