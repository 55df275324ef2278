/- The reference's Put. -/
import Derived.Test.YtgpglmponbipbabMemoRPut
namespace Go.Proofs.Ytgpglmponbipbab
set_option linter.unusedVariables false
open Go.RowKit Go.Sort

set_option maxHeartbeats 1600000 in
theorem rput_known (w : World) (p : Nat) (U T : Nat → Prop) (most : Int) (L : List Mm) (v : Value) (x : Mm) (hn : (L.length : Int) ≤ 1000) (hx : hasL L x.ins x.at_ = true) (h : RefRep w p U most L v T) :
    Calls Try.prog 10 #[.pointer (some ⟨p, 0, none⟩), x.val] w
      fun e w' => e = .returned (.tuple #[]) ∧ But U w w' ∧ RefRep w' p U most (putL most L x) v T := by
  have hpw := h.own.lt
  obtain ⟨i, y, hi, hxa, hxb, hf, hbe⟩ := first_is L x.ins x.at_ hx
  have e0 : putL most L x = L.set i x := by unfold putL; rw [if_pos hx, rep_set L i x y h.apart hi hxa hxb]
  rw [e0]
  have hil : i < L.length := (List.getElem?_eq_some_iff.1 hi).1
  have h2 := h.keep (S := fun _ => False) ((But.refl _ w).alloc (.cells #[.int .i64 x.ins, .int .i64 x.at_, .bool x.ok, .int .i64 x.en, .int .i64 x.far, .slice x.po x.part.length x.pc] 30)) (fun _ _ h => h)
  have hR := Own.fresh w 30 [.int .i64 x.ins, .int .i64 x.at_, .bool x.ok, .int .i64 x.en, .int .i64 x.far, .slice x.po x.part.length x.pc]
  have hB : Below w.heap.size w (w.alloc (.cells #[.int .i64 x.ins, .int .i64 x.at_, .bool x.ok, .int .i64 x.en, .int .i64 x.far, .slice x.po x.part.length x.pc] 30)) := (Below.refl _ _).alloc (Nat.le_refl _) _
  have H := Lib.hid h
  have HF := Lib.hid (And.intro hi (And.intro hxa (And.intro hxb hbe)))
  have H2 := Lib.hid h2
  clear h h2 hi hxa hxb hbe hf e0 hx
  unfold Mm.val
  go_enter Try.func10, Try.ntmps10
  go_wp2_with fail
  refine (find_some _ p U T most L v x.ins x.at_ i y hn HF.out.1 HF.out.2.1 HF.out.2.2.1 HF.out.2.2.2 H2.out).mono ?_
  rintro e w1 ⟨rfl, m, rfl⟩
  have H3 := Lib.hid (H2.out.keep (S := fun _ => False) ((But.refl _ _).drewN m) (fun _ _ h => h))
  have HR := Lib.hid (hR.on_drewN m)
  have hB := below_drewN hB m
  clear H2 hR
  generalize (w.alloc (.cells #[.int .i64 x.ins, .int .i64 x.at_, .bool x.ok, .int .i64 x.en, .int .i64 x.far, .slice x.po x.part.length x.pc] 30)).drewN m = W at *
  obtain ⟨c0, c1, f0, f1⟩ := H3.out.own.two
  obtain ⟨ao, cap, rfl, hcap, hm⟩ := H3.out.win.mem
  obtain ⟨g, off, rfl, hgT, hgl, d0, d1, d2, d3, d4, d5, ht⟩ := hm i y HF.out.1
  have t0 := ht (off + i * 6)
  have t1 := ht (off + i * 6 + 1)
  have t2 := ht (off + i * 6 + 2)
  have t3 := ht (off + i * 6 + 3)
  have t4 := ht (off + i * 6 + 4)
  have t5 := ht (off + i * 6 + 5)
  have r0 := HR.out.cell 0
  have r1 := HR.out.cell 1
  have r2 := HR.out.cell 2
  have r3 := HR.out.cell 3
  have r4 := HR.out.cell 4
  have r5 := HR.out.cell 5
  clear hm ht hcap
  obtain ⟨n, hnn⟩ : ∃ n, L.length = n := ⟨_, rfl⟩
  have HN := Lib.hid hnn
  rw [hnn] at c1 hil hn
  clear hnn
  go_wp2
  go_still_tail 7, (by kernel_rfl)
  go_wp2
  refine bodyPost_ret (results_none rfl _ _ _) rfl ?_
  have hw := ((((((H3.out.win.set (i * 6) (.int .i64 x.ins) (by have := HN.out; omega)).set (i * 6 + 1) (.int .i64 x.at_) (by have := HN.out; omega)).set (i * 6 + 2) (.bool x.ok) (by have := HN.out; omega)).set (i * 6 + 3) (.int .i64 x.en) (by have := HN.out; omega)).set (i * 6 + 4) (.int .i64 x.far) (by have := HN.out; omega)).set (i * 6 + 5) (.slice x.po x.part.length x.pc) (by have := HN.out; omega))
  rw [rowM_set L i x (by have := HN.out; omega)] at hw
  have hgp : p ≠ g := fun e => H.out.np (e ▸ hgT)
  have hO := (((((((H3.out.own.off (p := ⟨g, off + i * 6, none⟩) hgp (.int .i64 x.ins)).off (p := ⟨g, off + (i * 6 + 1), none⟩) hgp (.int .i64 x.at_)).off (p := ⟨g, off + (i * 6 + 2), none⟩) hgp (.bool x.ok)).off (p := ⟨g, off + (i * 6 + 3), none⟩) hgp (.int .i64 x.en)).off (p := ⟨g, off + (i * 6 + 4), none⟩) hgp (.int .i64 x.far)).off (p := ⟨g, off + (i * 6 + 5), none⟩) hgp (.slice x.po x.part.length x.pc)))
  have hU : U g := H.out.terr g (.inr hgT)
  have hb := ((((((But.refl U W).setCell (p := ⟨g, off + i * 6, none⟩) (fun _ => hU) (.int .i64 x.ins)).setCell (p := ⟨g, off + (i * 6 + 1), none⟩) (fun _ => hU) (.int .i64 x.at_)).setCell (p := ⟨g, off + (i * 6 + 2), none⟩) (fun _ => hU) (.bool x.ok)).setCell (p := ⟨g, off + (i * 6 + 3), none⟩) (fun _ => hU) (.int .i64 x.en)).setCell (p := ⟨g, off + (i * 6 + 4), none⟩) (fun _ => hU) (.int .i64 x.far)).setCell (p := ⟨g, off + (i * 6 + 5), none⟩) (fun _ => hU) (.slice x.po x.part.length x.pc)
  refine ⟨rfl, ((But.of_below (S := U) hB).trans hb (fun _ _ h => h)).drew, ?_⟩
  refine RefRep.keep (S := fun _ => False) (w := _) ⟨hO, ?_, H.out.np, H.out.terr, fun g hg => Nat.lt_of_lt_of_le (H.out.lt g hg) (Nat.le_trans hB.size hb.size), ?_, by rw [List.length_set]; exact H.out.few⟩ ((But.refl _ _).drew) (fun _ _ h => h)
  · rw [List.length_set]; exact hw
  · rw [← rep_set L i x y H.out.apart HF.out.1 HF.out.2.1 HF.out.2.2.1]; exact repL_apart x H.out.apart
end Go.Proofs.Ytgpglmponbipbab
