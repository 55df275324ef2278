/- The reference's Put of a new memory. -/
import Derived.Test.YtgpglmponbipbabMemoRPut2
namespace Go.Proofs.Ytgpglmponbipbab
set_option linter.unusedVariables false
open Go.RowKit Go.Sort

theorem info_mem : (Try.prog.info? 30).map (fun i => (i.zero, i.size, i.bytes)) = some (some (.agg #[.int .i64 0, .int .i64 0, .bool false, .int .i64 0, .int .i64 0, .slice none 0 0]), 6, 64) := by kernel_rfl

theorem putL_room {most : Int} {L : List Mm} {x : Mm} (h : hasL L x.ins x.at_ = false) (hr : (L.length : Int) < most) : putL most L x = L ++ [x] := by
  unfold putL; rw [if_neg (by simp [h]), if_pos hr]
theorem putL_full {most : Int} {L : List Mm} {x : Mm} (h : hasL L x.ins x.at_ = false) (hf : (L.length : Int) ≤ max most 0) (hr : ¬ (L.length : Int) < most) : putL most L x = (L ++ [x]).tail := by
  unfold putL; rw [if_neg (by simp [h]), if_neg hr]
  cases L with
  | nil => rw [if_neg (by simp at hr; omega)]; rfl
  | cons y L => rw [if_pos (by simp at hf hr; omega)]; rfl
theorem rowM_tail (L : List Mm) (hL : L ≠ []) : rowM L.tail = (rowM L).drop 6 := by
  cases L with
  | nil => exact absurd rfl hL
  | cons y L => rfl
theorem putL_apart {most : Int} {L : List Mm} {x : Mm} (h : Apart L) : Apart (putL most L x) := by
  unfold putL
  split
  · exact repL_apart x h
  · rename_i hx
    have hx : hasL L x.ins x.at_ = false := by simpa using hx
    split
    · exact apart_snoc h hx
    · split
      · cases L with
        | nil => exact List.pairwise_singleton _ _
        | cons y L =>
          refine apart_snoc (apart_tail h) ?_
          show (L.find? (same x.ins x.at_)).isSome = false
          rw [find_tail h, hasL_none hx]
          split <;> rfl
      · exact List.Pairwise.nil
theorem putL_few {most : Int} {L : List Mm} {x : Mm} (h : (L.length : Int) ≤ max most 0) : ((putL most L x).length : Int) ≤ max most 0 := by
  unfold putL
  split
  · rw [repL_len]; exact h
  · split
    · simp; omega
    · split
      · simp; omega
      · simp; omega
theorem rput_end {w w5 : World} {p N : Nat} {U T S : Nat → Prop} {most : Int} {L : List Mm} {v v' : Value} {x : Mm} (h : RefRep w p U most L v T) (hb : But U w w5) (hO : Own w5 p 47 [.int .i64 most, v'])
    (hS : ∀ k, S k → (T k ∨ w.heap.size ≤ k) ∧ k < N ∧ k ≠ p) (hN : N = w5.heap.size) (hw : Win S 30 6 w5 v' (putL most L x).length (rowM (putL most L x))) :
    But U w w5 ∧ ∃ v' T', RefRep w5 p (fun g => U g ∨ w.heap.size ≤ g ∧ g < w5.heap.size) most (putL most L x) v' T' := by
  subst hN
  refine ⟨hb, v', S, hO, hw, fun hp => (hS p hp).2.2 rfl, ?_, ?_, putL_apart h.apart, putL_few h.few⟩
  · rintro g (e | e)
    · exact .inl (h.terr g (.inl e))
    · obtain ⟨h1 | h1, h2, _⟩ := hS g e
      · exact .inl (h.terr g (.inr h1))
      · exact .inr ⟨h1, h2⟩
  · rintro g (e | e)
    · exact Nat.lt_of_lt_of_le (h.lt g e) hb.size
    · exact e.2

set_option maxHeartbeats 6400000 in
theorem rput_new (w : World) (p : Nat) (U T : Nat → Prop) (most : Int) (L : List Mm) (v : Value) (x : Mm) (hn : (L.length : Int) ≤ 1000) (hx : hasL L x.ins x.at_ = false) (h : RefRep w p U most L v T) :
    Calls Try.prog 10 #[.pointer (some ⟨p, 0, none⟩), x.val] w
      fun e w' => e = .returned (.tuple #[]) ∧ But U w w' ∧ ∃ v' T', RefRep w' p (fun g => U g ∨ w.heap.size ≤ g ∧ g < w'.heap.size) most (putL most L x) v' T' := by
  obtain ⟨i0, hi, hz0, hz1, hz2⟩ := info_parts info_mem
  have IP := Lib.hid (And.intro hi (And.intro hz0 (And.intro hz1 hz2)))
  clear hi hz0 hz1 hz2
  have hpw := h.own.lt
  have h2 := h.keep (S := fun _ => False) ((But.refl _ w).alloc (.cells #[.int .i64 x.ins, .int .i64 x.at_, .bool x.ok, .int .i64 x.en, .int .i64 x.far, .slice x.po x.part.length x.pc] 30)) (fun _ _ h => h)
  have hR := Own.fresh w 30 [.int .i64 x.ins, .int .i64 x.at_, .bool x.ok, .int .i64 x.en, .int .i64 x.far, .slice x.po x.part.length x.pc]
  have hB : Below w.heap.size w (w.alloc (.cells #[.int .i64 x.ins, .int .i64 x.at_, .bool x.ok, .int .i64 x.en, .int .i64 x.far, .slice x.po x.part.length x.pc] 30)) := (Below.refl _ _).alloc (Nat.le_refl _) _
  have H := Lib.hid h
  have H2 := Lib.hid h2
  have HX := Lib.hid hx
  clear h h2 hx
  unfold Mm.val
  go_enter Try.func10, Try.ntmps10
  go_wp2_with fail
  refine (find_none _ p U T most L v x.ins x.at_ hn HX.out H2.out).mono ?_
  rintro e w1 ⟨rfl, m, rfl⟩
  have H3 := Lib.hid (H2.out.keep (S := fun _ => False) ((But.refl _ _).drewN m) (fun _ _ h => h))
  have HR := Lib.hid (hR.on_drewN m)
  have hB := below_drewN hB m
  clear H2 hR
  generalize (w.alloc (.cells #[.int .i64 x.ins, .int .i64 x.at_, .bool x.ok, .int .i64 x.en, .int .i64 x.far, .slice x.po x.part.length x.pc] 30)).drewN m = W at *
  obtain ⟨c0, c1, f0, f1⟩ := H3.out.own.two
  obtain ⟨ao, cap, rfl, hcap, _⟩ := H3.out.win.mem
  have r0 := HR.out.cell 0
  have r1 := HR.out.cell 1
  have r2 := HR.out.cell 2
  have r3 := HR.out.cell 3
  have r4 := HR.out.cell 4
  have r5 := HR.out.cell 5
  obtain ⟨n, hnn⟩ : ∃ n, L.length = n := ⟨_, rfl⟩
  have HN := Lib.hid hnn
  rw [hnn] at c1 hn hcap
  clear hnn
  have HO : Hid (Own W p 47 [.int .i64 most, .slice ao n cap]) := Lib.hid (by have := H3.out.own; rw [HN.out] at this; exact this)
  have HW : Hid (Win T 30 6 W (.slice ao n cap) n (rowM L)) := Lib.hid (by have := H3.out.win; rw [HN.out] at this; exact this)
  have c1a : (W.alloc (.cells #[.int .i64 x.ins, .int .i64 x.at_, .bool x.ok, .int .i64 x.en, .int .i64 x.far, .slice x.po x.part.length x.pc] 30)).cell? ⟨p, 1, none⟩ = some (.slice ao n cap) := (HO.out.on_alloc _).cell 1
  have K1 : n + 1 ≤ maxLen := by unfold maxLen; omega
  have K2 : (n + 1) * 64 ≤ 140737488355328 := by omega
  have FN := Lib.hid (fresh_news W 30 x.row)
  have NP := Lib.hid H.out.np
  go_wp2
  go_region_law ((refine step_append_win rfl _ _ 22 rfl T 30 _ _ 6 64 Try.underlying22 IP.out.1 IP.out.2.1 IP.out.2.2.1 IP.out.2.2.2 rfl (by decide) _ n (rowM L) rfl (HW.out.below ((Below.refl _ _).alloc (Nat.le_refl _) _).drew) ⟨W.heap.size, 0, none⟩ 1 1 x.row rfl rfl FN.out (by intro u hu; simp [Mm.row] at hu; rcases hu with rfl | rfl | rfl | rfl | rfl | rfl <;> rfl) K1 K2 ?_); intro v' w' hw hb; obtain ⟨g, off, cap', rfl, hg, hle, hlt⟩ := hw.has (by omega); have hO := Lib.hid (((HO.out.on_alloc _).on_drew).but hb NP.out); obtain ⟨d0, d1, e0, e1⟩ := hO.out.two; have hw2 := Lib.hid hw; have hb2 := Lib.hid hb; clear hw hb)
  all_goals
    go_wp2
    have hO5 := Lib.hid (hO.out.put 1 (.slice (some ⟨g, off, none⟩) (n + 1) cap'))
    have hW5 := Lib.hid ((hw2.out.mono (T := fun k => (T k ∨ w.heap.size ≤ k) ∧ k < w'.heap.size ∧ k ≠ p) (fun k hl hk => ⟨hk.imp id (fun h => by have := hB.size; have h' : (W.alloc (.cells #[.int .i64 x.ins, .int .i64 x.at_, .bool x.ok, .int .i64 x.en, .int .i64 x.far, .slice x.po x.part.length x.pc] 30)).heap.size ≤ k := h; rw [World.size_alloc] at h'; omega), hl, fun e => by
      subst e
      rcases hk with hk | hk
      · exact NP.out hk
      · have h' : (W.alloc (.cells #[.int .i64 x.ins, .int .i64 x.at_, .bool x.ok, .int .i64 x.en, .int .i64 x.far, .slice x.po x.part.length x.pc] 30)).heap.size ≤ k := hk
        rw [World.size_alloc] at h'; have := hB.size; omega⟩)).keep (But.put w' p 1 (.slice (some ⟨g, off, none⟩) (n + 1) cap')) (fun k _ hk e => hk.2.2 e))
    have hB5 := Lib.hid ((((But.of_below (S := U) hB).alloc _).drew.trans hb2.out (fun k _ hk => H.out.terr k (.inr hk))).setCell (p := ⟨p, 1, none⟩) (fun _ => H.out.terr p (.inl rfl)) (.slice (some ⟨g, off, none⟩) (n + 1) cap'))
    have hsz5 : w'.heap.size = (w'.setCell ⟨p, 1, none⟩ (.slice (some ⟨g, off, none⟩) (n + 1) cap')).heap.size := by simp [World.setCell]
    clear hO hw2 hb2 d0 d1 e0 e1 r0 r1 r2 r3 r4 r5 c0 c1 f0 f1 c1a HO HW FN hlt
    obtain ⟨N, hN⟩ : ∃ N, w'.heap.size = N := ⟨_, rfl⟩
    rw [hN] at hW5 hsz5
    generalize w'.setCell ⟨p, 1, none⟩ (.slice (some ⟨g, off, none⟩) (n + 1) cap') = w5 at *
    clear hN
    obtain ⟨d0, d1, e0, e1⟩ := hO5.out.two
    obtain ⟨q, hq⟩ : ∃ q : Int, max most 0 = q := ⟨_, rfl⟩
    have hfew := H.out.few
    rw [HN.out, hq] at hfew
    have HQ := Lib.hid hq
  all_goals
    by_cases hr : (n : Int) < most
    · have hq2 : (n : Int) + 1 ≤ q := by omega
      have hq3 : decide (q < (n : Int) + 1) = false := by simp; omega
      clear HQ
      go_wp2_with fail
      go_quiet (fail)
      go_wp2_with fail
      go_end0
      have e0 := putL_room HX.out (by rw [HN.out]; exact hr)
      refine ⟨rfl, rput_end (S := fun k => (T k ∨ w.heap.size ≤ k) ∧ k < N ∧ k ≠ p) H.out (hB5.out.drewN _) (hO5.out.on_drewN _) (fun k hk => hk) hsz5 ?_⟩
      rw [e0, List.length_append, HN.out, rowM_append, rowM_one]
      exact hW5.out.below (below_drewN (Below.refl _ _) _)
    · have hq2 : q < (n : Int) + 1 := by omega
      have hq3 : decide (q < (n : Int) + 1) = true := by simp; omega
      have e0 := putL_full HX.out H.out.few (by rw [HN.out]; exact hr)
      have E0 := Lib.hid e0
      have hwl := Lib.hid (show (L ++ [x]).length = n + 1 by simp [HN.out])
      have hwt := Lib.hid (rowM_tail (L ++ [x]) (by simp))
      have hwr : Hid (Win (fun k => (T k ∨ w.heap.size ≤ k) ∧ k < N ∧ k ≠ p) 30 6 w5 (.slice (some ⟨g, off, none⟩) (n + 1) cap') (n + 1) (rowM (L ++ [x]))) := Lib.hid (by rw [rowM_append, rowM_one]; exact hW5.out)
      clear HQ hW5 e0
      by_cases hc1 : cap' = 1
      · subst hc1
        obtain ⟨hn0, hwz⟩ := hwr.out.tail_one
        have HWZ := Lib.hid hwz
        subst hn0
        clear hwz
        go_wp2_with fail
        go_quiet (fail)
        all_goals go_wp2_with fail
        all_goals
          go_end0
          refine ⟨rfl, rput_end (S := fun k => (T k ∨ w.heap.size ≤ k) ∧ k < N ∧ k ≠ p) H.out ((hB5.out.drewN _).setCell (p := ⟨p, 1, none⟩) (fun _ => H.out.terr p (.inl rfl)) _) ((hO5.out.on_drewN _).put 1 _) (fun k hk => hk) (by simp [World.setCell, hsz5]) ?_⟩
          rw [E0.out, hwt.out, List.length_tail, hwl.out]
          exact ((HWZ.out.below (below_drewN (Below.refl _ _) _))).keep (But.put _ p 1 _) (fun k _ hk e => hk.2.2 e)
      · have HWT := Lib.hid (hwr.out.tail hc1)
        go_wp2_with fail
        go_quiet (fail)
        all_goals go_wp2_with fail
        all_goals
          go_end0
          refine ⟨rfl, rput_end (S := fun k => (T k ∨ w.heap.size ≤ k) ∧ k < N ∧ k ≠ p) H.out ((hB5.out.drewN _).setCell (p := ⟨p, 1, none⟩) (fun _ => H.out.terr p (.inl rfl)) _) ((hO5.out.on_drewN _).put 1 _) (fun k hk => hk) (by simp [World.setCell, hsz5]) ?_⟩
          rw [E0.out, hwt.out, List.length_tail, hwl.out]
          exact ((HWT.out.below (below_drewN (Below.refl _ _) _))).keep (But.put _ p 1 _) (fun k _ hk e => hk.2.2 e)
end Go.Proofs.Ytgpglmponbipbab
