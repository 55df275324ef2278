/- The walk of Add, (*eyot/nest.Nest). -/
import Derived.Test.YtgpglmponbipbacNestAdd
import Derived.BigRegion
import Derived.Deep.DeepCutAuto
import Derived.Deep.Cut
import Derived.Deep.CutRange
namespace Go.Proofs.Ytgpglmponbipbac
set_option linter.unusedVariables false
open Go.RowKit Go.Sort

theorem grow_grow {ty : TypeId} {w wr w6 : World} {p : Nat} {U T : Nat → Prop} {L : List Nd} {top : Int} {v : Value} (h : Nr ty w6 p (Grow (Grow U w wr) wr w6) L top v T) (h1 : w.heap.size ≤ wr.heap.size) (h2 : wr.heap.size ≤ w6.heap.size) : Nr ty w6 p (Grow U w w6) L top v T := by
  refine ⟨h.own, h.win, h.np, fun g hg => ?_, fun g hg => ?_, h.ups⟩
  · rcases h.terr g hg with (h3 | h3) | h3
    · exact .inl h3
    · exact .inr ⟨h3.1, by omega⟩
    · exact .inr ⟨by omega, h3.2⟩
  · rcases hg with hg | hg
    · exact h.lt g (.inl (.inl hg))
    · exact hg.2
set_option maxRecDepth 1000000 in
set_option maxHeartbeats 12800000 in
theorem nadd_any (w : World) (p : Nat) (U R : Nat → Prop) (L P : List Nd) (top : Int) (ao : Option Addr) (cap : Nat) (hn : (L.length : Int) ≤ 1000) (hm : (P.length : Int) ≤ 1000) (hR : ∀ g, g < w.heap.size → R g → ¬ U g) (hP : HasS R w ao P) (h : Nest 56 w p U L top) :
    Calls Try.prog 21 #[.pointer (some ⟨p, 0, none⟩), .slice ao P.length cap] w
      fun e w' => e = .returned (.tuple #[]) ∧ But U w w' ∧ Nest 56 w' p (Grow U w w') (addL L top P) top := by
  obtain ⟨i0, hi0, hz0, hz1, hz2⟩ := info_parts info_leaf
  have IP := Lib.hid (And.intro hi0 (And.intro hz0 (And.intro hz1 hz2)))
  clear hi0 hz0 hz1 hz2
  have H0 : Hid (Nest 56 w p (Grow U w w) (addTo L top P 0) top) := Lib.hid (by
    obtain ⟨v, T, h⟩ := h
    exact ⟨v, T, h.own, h.win, h.np, fun g hg => .inl (h.terr g hg), fun g hg => by rcases hg with hg | hg; exact h.lt g hg; omega, h.ups⟩)
  have HUlt := Lib.hid h.lt
  obtain ⟨v, T, h⟩ := h
  have hp := h.own.lt
  have HUp := Lib.hid (h.terr p (.inl rfl))
  obtain ⟨c0, c1, f0, f1⟩ := h.own.two
  obtain ⟨ao0, cap0, rfl, _, _, _⟩ := h.win.form
  have HPP := Lib.hid hP
  have HRU := Lib.hid hR
  clear h hP hR
  obtain ⟨k, hk⟩ : ∃ k, L.length = k := ⟨_, rfl⟩
  have HK := Lib.hid hk
  obtain ⟨m, hmm⟩ : ∃ m, P.length = m := ⟨_, rfl⟩
  have HM := Lib.hid hmm
  rw [hk] at c0 hn
  rw [hmm] at hm ⊢
  clear hk hmm
  go_enter Try.func21, Try.ntmps21
  go_wp2_with fail
  clear c0 c1 f0 f1
  go_loopw [14] (fun bi wr => ∃ i : Nat, bi = .int .i64 (i : Int) ∧ (i : Int) ≤ m ∧ Hid (Nest 56 wr p (Grow U w wr) (addTo L top P i) top) ∧ Hid (But U w wr)) (fun bi _ => m - (intOf bi).toNat)
  case atStart => exact ⟨0, rfl, by omega, H0, Lib.hid (But.refl _ _)⟩
  case round =>
    obtain ⟨i, rfl, hi2, HN, HBi⟩ := hrel
    clear H0
    by_cases hi : (i : Int) < m
    · obtain ⟨x, hx⟩ : ∃ x, P[i]? = some x := ⟨_, List.getElem?_eq_getElem (by have := HM.out; omega)⟩
      obtain ⟨gx, offx, rfl, _, _, a0, a1, a2, a3, a4⟩ := (HPP.out.keep HBi.out HRU.out) i x hx
      obtain ⟨v1, T1, hNr⟩ := HN.out
      obtain ⟨ao1, cap1, rfl, hcap1, _, _⟩ := hNr.win.form
      obtain ⟨c0, c1, f0, f1⟩ := hNr.own.two
      have hpw := hNr.own.lt
      have HNr := Lib.hid hNr
      have HX := Lib.hid hx
      obtain ⟨q, hq⟩ : ∃ q, (addTo L top P i).length = q := ⟨_, rfl⟩
      have HQ := Lib.hid hq
      have hqk : q = k + i := by have h1 := HK.out; have h2 := HM.out; have := addTo_len (L := L) (top := top) (P := P) i (by omega); omega
      have hqb : (q : Int) ≤ 2000 := by omega
      have HQK := Lib.hid hqk
      clear hNr hx hq hqk
      clear HN
      by_cases hu0 : 0 ≤ x.up
      · by_cases hu1 : x.up < (i : Int)
        · have hu3 := hu1
          go_upto_region 7 with fail
          have hW2 : But (fun _ => False) wr (wr.alloc (.cells #[.int .i64 x.kd, .string x.nm, .int .i64 x.fr, .int .i64 x.tt, .int .i64 (x.up + (k : Int))] 53)) := (But.refl _ _).alloc _
          have hX2 : Own (wr.alloc (.cells #[.int .i64 x.kd, .string x.nm, .int .i64 x.fr, .int .i64 x.tt, .int .i64 (x.up + (k : Int))] 53)) wr.heap.size 53 [.int .i64 x.kd, .string x.nm, .int .i64 x.fr, .int .i64 x.tt, .int .i64 (x.up + (k : Int))] := Own.fresh wr _ [.int .i64 x.kd, .string x.nm, .int .i64 x.fr, .int .i64 x.tt, .int .i64 (x.up + (k : Int))]
          clear a0 a1 a2 a3 a4
          generalize wr.alloc (.cells #[.int .i64 x.kd, .string x.nm, .int .i64 x.fr, .int .i64 x.tt, .int .i64 (x.up + (k : Int))] 53) = W2 at *
          have H3 := Lib.hid (HNr.out.keep hW2 (fun _ _ h => h))
          have HBW := Lib.hid hW2
          clear hW2 c0 c1 f0 f1
          obtain ⟨c0, c1, f0, f1⟩ := H3.out.own.two
          have x0 : W2.cell? ⟨wr.heap.size, 0, none⟩ = some (.int .i64 x.kd) := hX2.cell 0
          have x1 : W2.cell? ⟨wr.heap.size, 1, none⟩ = some (.string x.nm) := hX2.cell 1
          have x2 : W2.cell? ⟨wr.heap.size, 2, none⟩ = some (.int .i64 x.fr) := hX2.cell 2
          have x3 : W2.cell? ⟨wr.heap.size, 3, none⟩ = some (.int .i64 x.tt) := hX2.cell 3
          have x4 : W2.cell? ⟨wr.heap.size, 4, none⟩ = some (.int .i64 (x.up + (k : Int))) := hX2.cell 4
          have HO : Hid (Own W2 p 56 [.slice ao1 q cap1, .int .i64 top]) := Lib.hid (by have := H3.out.own; rw [HQ.out] at this; exact this)
          have HW : Hid (Win T1 53 5 W2 (.slice ao1 q cap1) q (rowL (addTo L top P i))) := Lib.hid (by have := H3.out.win; rw [HQ.out] at this; exact this)
          rw [HQ.out] at c0
          have c0a : (W2.alloc (.cells #[.int .i64 x.kd, .string x.nm, .int .i64 x.fr, .int .i64 x.tt, .int .i64 (x.up + (k : Int))] 53)).cell? ⟨p, 0, none⟩ = some (.slice ao1 q cap1) := (HO.out.on_alloc _).cell 0
          have K1 : q + 1 ≤ maxLen := by unfold maxLen; omega
          have K2 : (q + 1) * 48 ≤ 140737488355328 := by omega
          have FN := Lib.hid (fresh_news W2 53 [.int .i64 x.kd, .string x.nm, .int .i64 x.fr, .int .i64 x.tt, .int .i64 (x.up + (k : Int))])
          have NP := Lib.hid HNr.out.np
          clear hX2
          go_region_law ((refine step_append_win rfl _ _ 23 rfl T1 53 _ _ 5 48 Try.underlying23 IP.out.1 IP.out.2.1 IP.out.2.2.1 IP.out.2.2.2 rfl (by decide) _ q (rowL (addTo L top P i)) rfl (HW.out.below ((Below.refl _ _).alloc (Nat.le_refl _) _).drew) ⟨W2.heap.size, 0, none⟩ 1 1 [.int .i64 x.kd, .string x.nm, .int .i64 x.fr, .int .i64 x.tt, .int .i64 (x.up + (k : Int))] rfl rfl FN.out (by intro u hu; simp at hu; rcases hu with rfl | rfl | rfl | rfl | rfl <;> rfl) K1 K2 ?_); intro v' w' hw hb; obtain ⟨g, off, cap', rfl, hg, hle, hlt⟩ := hw.has (by omega); have hO := Lib.hid (((HO.out.on_alloc _).on_drew).but hb NP.out); obtain ⟨d0, d1, e0, e1⟩ := hO.out.two; have hw2 := Lib.hid hw; have hb2 := Lib.hid hb; clear hw hb)
          all_goals
            obtain ⟨r1, r2⟩ := HNr.out.grown (x := ⟨x.kd, x.nm, x.fr, x.tt, (x.up + (k : Int))⟩) HQ.out ((HBW.out.alloc _).drew) hw2.out hb2.out rfl (by have h1 := HNr.out.ups.2; rw [HQ.out] at h1 ⊢; exact ⟨by show -1 ≤ x.up + (k : Int); omega, by have := HQK.out; show x.up + (k : Int) < (q : Int); omega⟩)
            have hadd := addTo_succ (L := L) (top := top) HX.out
            rw [show addF L.length top i x = ⟨x.kd, x.nm, x.fr, x.tt, (x.up + (k : Int))⟩ from by unfold addF; rw [if_pos ⟨hu0, hu1⟩, HK.out]] at hadd
            rw [← hadd] at r2
            have R1 := Lib.hid (HBi.out.trans r1 (fun g hg hh => by rcases hh with hh | hh; exact hh; omega))
            have R2 := Lib.hid (grow_grow r2 HBi.out.size r1.size)
            clear r1 r2 hadd hw2 hb2 hO d0 d1 e0 e1 c0 c1 f0 f1 c0a x0 x1 x2 x3 x4 HO HW FN H3 HBW HNr HBi
            go_wp2
            go_roundw
            case rel => exact ⟨i + 1, by go_num, by omega, Lib.hid ⟨_, _, R2.out⟩, R1⟩
            case measure => simp [intOf]; omega
        · have hu2 : decide (x.up < (i : Int)) = false := by simpa using hu1
          go_upto_region 7 with fail
          have hW2 : But (fun _ => False) wr (wr.alloc (.cells #[.int .i64 x.kd, .string x.nm, .int .i64 x.fr, .int .i64 x.tt, .int .i64 top] 53)) := (But.refl _ _).alloc _
          have hX2 : Own (wr.alloc (.cells #[.int .i64 x.kd, .string x.nm, .int .i64 x.fr, .int .i64 x.tt, .int .i64 top] 53)) wr.heap.size 53 [.int .i64 x.kd, .string x.nm, .int .i64 x.fr, .int .i64 x.tt, .int .i64 top] := Own.fresh wr _ [.int .i64 x.kd, .string x.nm, .int .i64 x.fr, .int .i64 x.tt, .int .i64 top]
          clear a0 a1 a2 a3 a4
          generalize wr.alloc (.cells #[.int .i64 x.kd, .string x.nm, .int .i64 x.fr, .int .i64 x.tt, .int .i64 top] 53) = W2 at *
          have H3 := Lib.hid (HNr.out.keep hW2 (fun _ _ h => h))
          have HBW := Lib.hid hW2
          clear hW2 c0 c1 f0 f1
          obtain ⟨c0, c1, f0, f1⟩ := H3.out.own.two
          have x0 : W2.cell? ⟨wr.heap.size, 0, none⟩ = some (.int .i64 x.kd) := hX2.cell 0
          have x1 : W2.cell? ⟨wr.heap.size, 1, none⟩ = some (.string x.nm) := hX2.cell 1
          have x2 : W2.cell? ⟨wr.heap.size, 2, none⟩ = some (.int .i64 x.fr) := hX2.cell 2
          have x3 : W2.cell? ⟨wr.heap.size, 3, none⟩ = some (.int .i64 x.tt) := hX2.cell 3
          have x4 : W2.cell? ⟨wr.heap.size, 4, none⟩ = some (.int .i64 top) := hX2.cell 4
          have HO : Hid (Own W2 p 56 [.slice ao1 q cap1, .int .i64 top]) := Lib.hid (by have := H3.out.own; rw [HQ.out] at this; exact this)
          have HW : Hid (Win T1 53 5 W2 (.slice ao1 q cap1) q (rowL (addTo L top P i))) := Lib.hid (by have := H3.out.win; rw [HQ.out] at this; exact this)
          rw [HQ.out] at c0
          have c0a : (W2.alloc (.cells #[.int .i64 x.kd, .string x.nm, .int .i64 x.fr, .int .i64 x.tt, .int .i64 top] 53)).cell? ⟨p, 0, none⟩ = some (.slice ao1 q cap1) := (HO.out.on_alloc _).cell 0
          have K1 : q + 1 ≤ maxLen := by unfold maxLen; omega
          have K2 : (q + 1) * 48 ≤ 140737488355328 := by omega
          have FN := Lib.hid (fresh_news W2 53 [.int .i64 x.kd, .string x.nm, .int .i64 x.fr, .int .i64 x.tt, .int .i64 top])
          have NP := Lib.hid HNr.out.np
          clear hX2
          go_region_law ((refine step_append_win rfl _ _ 23 rfl T1 53 _ _ 5 48 Try.underlying23 IP.out.1 IP.out.2.1 IP.out.2.2.1 IP.out.2.2.2 rfl (by decide) _ q (rowL (addTo L top P i)) rfl (HW.out.below ((Below.refl _ _).alloc (Nat.le_refl _) _).drew) ⟨W2.heap.size, 0, none⟩ 1 1 [.int .i64 x.kd, .string x.nm, .int .i64 x.fr, .int .i64 x.tt, .int .i64 top] rfl rfl FN.out (by intro u hu; simp at hu; rcases hu with rfl | rfl | rfl | rfl | rfl <;> rfl) K1 K2 ?_); intro v' w' hw hb; obtain ⟨g, off, cap', rfl, hg, hle, hlt⟩ := hw.has (by omega); have hO := Lib.hid (((HO.out.on_alloc _).on_drew).but hb NP.out); obtain ⟨d0, d1, e0, e1⟩ := hO.out.two; have hw2 := Lib.hid hw; have hb2 := Lib.hid hb; clear hw hb)
          all_goals
            obtain ⟨r1, r2⟩ := HNr.out.grown (x := ⟨x.kd, x.nm, x.fr, x.tt, top⟩) HQ.out ((HBW.out.alloc _).drew) hw2.out hb2.out rfl (by have h1 := HNr.out.ups.2; rw [HQ.out] at h1 ⊢; exact h1)
            have hadd := addTo_succ (L := L) (top := top) HX.out
            rw [show addF L.length top i x = ⟨x.kd, x.nm, x.fr, x.tt, top⟩ from by unfold addF; rw [if_neg (by omega)]] at hadd
            rw [← hadd] at r2
            have R1 := Lib.hid (HBi.out.trans r1 (fun g hg hh => by rcases hh with hh | hh; exact hh; omega))
            have R2 := Lib.hid (grow_grow r2 HBi.out.size r1.size)
            clear r1 r2 hadd hw2 hb2 hO d0 d1 e0 e1 c0 c1 f0 f1 c0a x0 x1 x2 x3 x4 HO HW FN H3 HBW HNr HBi
            go_wp2
            go_roundw
            case rel => exact ⟨i + 1, by go_num, by omega, Lib.hid ⟨_, _, R2.out⟩, R1⟩
            case measure => simp [intOf]; omega
      · have hu2 : decide (0 ≤ x.up) = false := by simpa using hu0
        go_upto_region 7 with fail
        have hW2 : But (fun _ => False) wr (wr.alloc (.cells #[.int .i64 x.kd, .string x.nm, .int .i64 x.fr, .int .i64 x.tt, .int .i64 top] 53)) := (But.refl _ _).alloc _
        have hX2 : Own (wr.alloc (.cells #[.int .i64 x.kd, .string x.nm, .int .i64 x.fr, .int .i64 x.tt, .int .i64 top] 53)) wr.heap.size 53 [.int .i64 x.kd, .string x.nm, .int .i64 x.fr, .int .i64 x.tt, .int .i64 top] := Own.fresh wr _ [.int .i64 x.kd, .string x.nm, .int .i64 x.fr, .int .i64 x.tt, .int .i64 top]
        clear a0 a1 a2 a3 a4
        generalize wr.alloc (.cells #[.int .i64 x.kd, .string x.nm, .int .i64 x.fr, .int .i64 x.tt, .int .i64 top] 53) = W2 at *
        have H3 := Lib.hid (HNr.out.keep hW2 (fun _ _ h => h))
        have HBW := Lib.hid hW2
        clear hW2 c0 c1 f0 f1
        obtain ⟨c0, c1, f0, f1⟩ := H3.out.own.two
        have x0 : W2.cell? ⟨wr.heap.size, 0, none⟩ = some (.int .i64 x.kd) := hX2.cell 0
        have x1 : W2.cell? ⟨wr.heap.size, 1, none⟩ = some (.string x.nm) := hX2.cell 1
        have x2 : W2.cell? ⟨wr.heap.size, 2, none⟩ = some (.int .i64 x.fr) := hX2.cell 2
        have x3 : W2.cell? ⟨wr.heap.size, 3, none⟩ = some (.int .i64 x.tt) := hX2.cell 3
        have x4 : W2.cell? ⟨wr.heap.size, 4, none⟩ = some (.int .i64 top) := hX2.cell 4
        have HO : Hid (Own W2 p 56 [.slice ao1 q cap1, .int .i64 top]) := Lib.hid (by have := H3.out.own; rw [HQ.out] at this; exact this)
        have HW : Hid (Win T1 53 5 W2 (.slice ao1 q cap1) q (rowL (addTo L top P i))) := Lib.hid (by have := H3.out.win; rw [HQ.out] at this; exact this)
        rw [HQ.out] at c0
        have c0a : (W2.alloc (.cells #[.int .i64 x.kd, .string x.nm, .int .i64 x.fr, .int .i64 x.tt, .int .i64 top] 53)).cell? ⟨p, 0, none⟩ = some (.slice ao1 q cap1) := (HO.out.on_alloc _).cell 0
        have K1 : q + 1 ≤ maxLen := by unfold maxLen; omega
        have K2 : (q + 1) * 48 ≤ 140737488355328 := by omega
        have FN := Lib.hid (fresh_news W2 53 [.int .i64 x.kd, .string x.nm, .int .i64 x.fr, .int .i64 x.tt, .int .i64 top])
        have NP := Lib.hid HNr.out.np
        clear hX2
        go_region_law ((refine step_append_win rfl _ _ 23 rfl T1 53 _ _ 5 48 Try.underlying23 IP.out.1 IP.out.2.1 IP.out.2.2.1 IP.out.2.2.2 rfl (by decide) _ q (rowL (addTo L top P i)) rfl (HW.out.below ((Below.refl _ _).alloc (Nat.le_refl _) _).drew) ⟨W2.heap.size, 0, none⟩ 1 1 [.int .i64 x.kd, .string x.nm, .int .i64 x.fr, .int .i64 x.tt, .int .i64 top] rfl rfl FN.out (by intro u hu; simp at hu; rcases hu with rfl | rfl | rfl | rfl | rfl <;> rfl) K1 K2 ?_); intro v' w' hw hb; obtain ⟨g, off, cap', rfl, hg, hle, hlt⟩ := hw.has (by omega); have hO := Lib.hid (((HO.out.on_alloc _).on_drew).but hb NP.out); obtain ⟨d0, d1, e0, e1⟩ := hO.out.two; have hw2 := Lib.hid hw; have hb2 := Lib.hid hb; clear hw hb)
        all_goals
          obtain ⟨r1, r2⟩ := HNr.out.grown (x := ⟨x.kd, x.nm, x.fr, x.tt, top⟩) HQ.out ((HBW.out.alloc _).drew) hw2.out hb2.out rfl (by have h1 := HNr.out.ups.2; rw [HQ.out] at h1 ⊢; exact h1)
          have hadd := addTo_succ (L := L) (top := top) HX.out
          rw [show addF L.length top i x = ⟨x.kd, x.nm, x.fr, x.tt, top⟩ from by unfold addF; rw [if_neg (by omega)]] at hadd
          rw [← hadd] at r2
          have R1 := Lib.hid (HBi.out.trans r1 (fun g hg hh => by rcases hh with hh | hh; exact hh; omega))
          have R2 := Lib.hid (grow_grow r2 HBi.out.size r1.size)
          clear r1 r2 hadd hw2 hb2 hO d0 d1 e0 e1 c0 c1 f0 f1 c0a x0 x1 x2 x3 x4 HO HW FN H3 HBW HNr HBi
          go_wp2
          go_roundw
          case rel => exact ⟨i + 1, by go_num, by omega, Lib.hid ⟨_, _, R2.out⟩, R1⟩
          case measure => simp [intOf]; omega
    · have him : i = m := by omega
      subst him
      go_wp2
      go_end0
      unfold addL
      rw [HM.out]
      exact ⟨rfl, HBi.out, HN.out⟩

end Go.Proofs.Ytgpglmponbipbac
