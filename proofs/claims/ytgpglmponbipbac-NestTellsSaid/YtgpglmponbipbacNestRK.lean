/- The walk of Back, the reference's nest, where the mark may be one. -/
import Derived.Test.YtgpglmponbipbacNestRP
namespace Go.Proofs.Ytgpglmponbipbac
set_option linter.unusedVariables false
open Go.RowKit Go.Sort

theorem HasS.take {R : Nat → Prop} {w : World} {ao : Option Addr} {L : List Nd} (l : Nat) (h : HasS R w ao L) : HasS R w ao (L.take l) := fun k x hk => h k x (by
  rw [List.getElem?_take] at hk
  split at hk
  · exact hk
  · cases hk)

theorem rback_end {ty : TypeId} {w w1 W w' : World} {p l : Nat} {U T : Nat → Prop} {L : List Nd} {top t : Int} {v : Value} {vo : Option Addr} {vc : Nat} (H : Nr ty w1 p U L top v T) (h1 : Below w.heap.size w w1) (hW : But (fun _ => False) w1 W)
    (hw : Win (fun g => w1.heap.size ≤ g ∨ W.heap.size ≤ g) 53 5 w' (.slice vo l vc) l (rowL (L.take l))) (hb : But (fun b => w1.heap.size ≤ b) W w') (hl : l ≤ L.length) (h3 : -1 ≤ t) (h4 : t < (l : Int)) :
    But U w ((w'.setCell ⟨p, 0, none⟩ (.slice vo l vc)).setCell ⟨p, 1, none⟩ (.int .i64 t)) ∧
      Nest ty ((w'.setCell ⟨p, 0, none⟩ (.slice vo l vc)).setCell ⟨p, 1, none⟩ (.int .i64 t)) p (Grow U w ((w'.setCell ⟨p, 0, none⟩ (.slice vo l vc)).setCell ⟨p, 1, none⟩ (.int .i64 t))) (L.take l) t := by
  have hp := H.own.lt
  have hs1 := h1.size
  have B : But (fun b => w1.heap.size ≤ b) w1 w' := hW.trans' hb
  have hs2 := B.size
  have hsz : ((w'.setCell ⟨p, 0, none⟩ (.slice vo l vc)).setCell ⟨p, 1, none⟩ (.int .i64 t)).heap.size = w'.heap.size := by simp [World.setCell]
  have BU : But U w w' := (But.of_below (S := U) h1).trans (B.mono (T := U) (fun g hg hh => by omega)) (fun _ _ h => h)
  have BB := (BU.setCell (p := ⟨p, 0, none⟩) (fun _ => H.terr p (.inl rfl)) (.slice vo l vc)).setCell (p := ⟨p, 1, none⟩) (fun _ => H.terr p (.inl rfl)) (.int .i64 t)
  have hlen : (L.take l).length = l := by rw [List.length_take]; omega
  refine ⟨BB, .slice vo l vc, fun g => w1.heap.size ≤ g ∧ g < w'.heap.size, ((H.own.but B (by show ¬ w1.heap.size ≤ p; omega)).put 0 _).put 1 _, ?_, fun hg => by have := hg.1; omega, fun g hg => ?_, fun g hg => ?_, H.ups.cut ⟨h3, h4⟩ hl⟩
  · rw [hlen]
    have hw2 := hw.mono (T := fun g => w1.heap.size ≤ g ∧ g < w'.heap.size) (fun g hl hg => ⟨by have := hW.size; rcases hg with hg | hg <;> omega, hl⟩)
    exact (hw2.keep (But.put w' p 0 _) (fun g _ hg e => by have := hg.1; have e2 : g = p := e; omega)).keep (But.put _ p 1 _) (fun g _ hg e => by have := hg.1; have e2 : g = p := e; omega)
  · rcases hg with hg | hg
    · exact .inl (H.terr g (.inl hg))
    · exact .inr ⟨by have := hg.1; omega, by rw [hsz]; exact hg.2⟩
  · rw [hsz]
    rcases hg with hg | hg
    · have := H.lt g hg; omega
    · have := hg.2; rw [hsz] at this; exact this

set_option maxRecDepth 1000000 in
set_option maxHeartbeats 6400000 in
theorem rback_yes (w : World) (p : Nat) (U : Nat → Prop) (L : List Nd) (top t : Int) (l : Nat) (hn : (L.length : Int) ≤ 1000) (h2 : (l : Int) ≤ (L.length : Int)) (h3 : -1 ≤ t) (h4 : t < (l : Int)) (h : Nest 58 w p U L top) :
    Calls Try.prog 17 #[.pointer (some ⟨p, 0, none⟩), .agg #[.int .i64 (l : Int), .int .i64 t]] w fun e w' => e = .returned (.tuple #[]) ∧ But U w w' ∧ Nest 58 w' p (Grow U w w') (L.take l) t := by
  have hp : p < w.heap.size := by obtain ⟨v, T, h⟩ := h; exact h.own.lt
  obtain ⟨i0, hi0, hz0, hz1, hz2⟩ := info_parts info_leaf
  have IP := Lib.hid (And.intro hi0 (And.intro hz0 (And.intro hz1 hz2)))
  clear hi0 hz0 hz1 hz2
  have HN := Lib.hid h
  have HR := Lib.hid (Own.fresh w 34 [.int .i64 (l : Int), .int .i64 t])
  have HB : Below w.heap.size w (w.alloc (.cells #[.int .i64 (l : Int), .int .i64 t] 34)) := (Below.refl _ _).alloc (Nat.le_refl _) _
  have HLL := Lib.hid h2
  clear h
  go_enter Try.func17, Try.ntmps17
  go_wp2_with fail
  refine (rmay_yes _ p U L top l t (by omega) HLL.out h3 h4 (HN.out.below HB)).mono ?_
  rintro e w1 ⟨rfl, hb1⟩
  have hR := HR.out.under hb1 HR.out.lt
  have hB := keepb HB hb1
  obtain ⟨v, T, hN⟩ := HN.out.below hB
  obtain ⟨ao, cap, rfl, hcap, hnone, -⟩ := hN.win.form
  obtain ⟨ao', cap', e', -, hS⟩ := hN.win.nodes
  simp only [Value.slice.injEq] at e'
  obtain ⟨rfl, -, rfl⟩ := e'
  have HS := Lib.hid (hS.take l)
  have HRR := Lib.hid hR
  have H := Lib.hid hN
  have HB1 := Lib.hid hB
  obtain ⟨k, hk⟩ : ∃ k, L.length = k := ⟨_, rfl⟩
  have HK := Lib.hid hk
  have HO : Hid (Own w1 p 58 [.slice ao k cap, .int .i64 top]) := Lib.hid (by have := hN.own; rw [hk] at this; exact this)
  obtain ⟨c0, c1, f0, f1⟩ := HO.out.two
  obtain ⟨r0, r1, z0, z1⟩ := hR.two
  rw [hk] at hn h2 hcap hnone
  have hlen : (L.take l).length = l := by rw [List.length_take, hk]; omega
  have hlc : l ≤ cap := by omega
  have hpl := HO.out.lt
  have hml := hR.lt
  have NP := Lib.hid (show ¬ w1.heap.size ≤ p by omega)
  have NM := Lib.hid (show ¬ w1.heap.size ≤ w.heap.size by omega)
  have HEN := Lib.hid hlen
  clear hk hN hR hB hb1 HB hS HR hlen
  cases ao with
  | none =>
    obtain ⟨rfl, rfl⟩ := hnone rfl
    have hl0 : l = 0 := by omega
    subst hl0
    have HE := Lib.hid (show Win (fun b => w1.heap.size ≤ b) 53 5 (w1.alloc (.cells #[] 53)) (.slice (some ⟨w1.heap.size, 0, none⟩) 0 0) 0 [] from Win.of_owns (World.ownsRow_made (base := w1.heap.size) (size := 5) w1 #[] 0 (Nat.le_refl _) (by unfold maxLen; omega) rfl) (fun g hg _ => hg))
    have c0a : (w1.alloc (.cells #[] 53)).cell? ⟨p, 0, none⟩ = some (.slice none 0 0) := (HO.out.on_alloc _).cell 0
    have r0a : (w1.alloc (.cells #[] 53)).cell? ⟨w.heap.size, 0, none⟩ = some (.int .i64 ((0 : Nat) : Int)) := (HRR.out.on_alloc _).cell 0
    obtain ⟨x0, x1, y0, y1⟩ := (HO.out.on_alloc (.cells #[] 53)).two
    obtain ⟨x2, x3, y2, y3⟩ := (HRR.out.on_alloc (.cells #[] 53)).two
    go_wp2_with fail
    go_region_law (fail)
    all_goals
      go_wp2
      go_end0
      have hh := rback_end H.out HB1.out ((But.refl (fun _ => False) w1).alloc (.cells #[] 53)) (HE.out.mono (fun g _ hg => .inl hg)) (But.refl _ _) (Nat.zero_le _) h3 h4
      rw [World.setCell_alloc_past _ _ _ _ hpl, World.setCell_alloc_past _ _ _ _ (by simpa [World.setCell] using hpl)] at hh
      exact ⟨rfl, hh.1.drew, hh.2.keep (S := fun _ => False) (But.drew (But.refl _ _)) (fun _ _ h => h)⟩
  | some a =>
    have HE := Lib.hid (show Win (fun b => w1.heap.size ≤ b) 53 5 (w1.alloc (.cells #[] 53)) (.slice (some ⟨w1.heap.size, 0, none⟩) 0 0) 0 [] from Win.of_owns (World.ownsRow_made (base := w1.heap.size) (size := 5) w1 #[] 0 (Nat.le_refl _) (by unfold maxLen; omega) rfl) (fun g hg _ => hg))
    have HC := Lib.hid (fun (w' : World) (hb : Below w1.heap.size w1 w') => (HS.out.below hb).cells)
    have HRL := Lib.hid (show (rowL (L.take l)).length = l * 5 by rw [rowL_len, HEN.out])
    have K1 : 0 + l ≤ maxLen := by unfold maxLen; omega
    have K2 : (0 + l) * 48 ≤ 140737488355328 := by omega
    have c0a : (w1.alloc (.cells #[] 53)).cell? ⟨p, 0, none⟩ = some (.slice (some a) k cap) := (HO.out.on_alloc _).cell 0
    have r0a : (w1.alloc (.cells #[] 53)).cell? ⟨w.heap.size, 0, none⟩ = some (.int .i64 (l : Int)) := (HRR.out.on_alloc _).cell 0
    go_wp2_with fail
    go_region_law ((refine step_append_win rfl _ _ 23 rfl (fun b => w1.heap.size ≤ b) 53 _ _ 5 48 Try.underlying23 IP.out.1 IP.out.2.1 IP.out.2.2.1 IP.out.2.2.2 rfl (by decide) _ 0 [] rfl (HE.out.below ((Below.refl _ _).drew)) a l cap (rowL (L.take l)) rfl HRL.out (HC.out _ (((Below.refl _ _).alloc (Nat.le_refl _) _).drew)) (rowL_cells _) K1 K2 ?_); intro v' w' hw hb; obtain ⟨vo, vc, rfl, -, -, -⟩ := hw.form; have hO := Lib.hid (((HO.out.on_alloc _).on_drew).but hb NP.out); have hM := Lib.hid (((HRR.out.on_alloc _).on_drew).but hb NM.out); obtain ⟨d0, d1, e0, e1⟩ := hO.out.two; obtain ⟨m0, m1, -, -⟩ := hM.out.two; have hw2 := Lib.hid hw; have hb2 := Lib.hid hb; clear hw hb)
    all_goals
      go_wp2
      go_end0
      exact ⟨rfl, rback_end H.out HB1.out (((But.refl _ _).alloc _).drew) (by have h9 := hw2.out; rw [Nat.zero_add, List.nil_append] at h9; exact h9) hb2.out (by have := HK.out; omega) h3 h4⟩
end Go.Proofs.Ytgpglmponbipbac
