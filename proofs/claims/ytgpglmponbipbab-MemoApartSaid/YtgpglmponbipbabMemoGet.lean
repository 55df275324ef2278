/- The walks of Get, Len and New of the program's memo; Put as one contract. -/
import Derived.Test.YtgpglmponbipbabMemoNew
namespace Go.Proofs.Ytgpglmponbipbab
set_option linter.unusedVariables false
open Go.RowKit Go.Sort

theorem MemoRep.mono {w : World} {p : Nat} {U V : Nat → Prop} {most : Int} {L : List Mm} (h : MemoRep w p U most L) (hU : ∀ g, U g → V g) (hV : ∀ g, V g → g < w.heap.size) : MemoRep w p V most L := by
  obtain ⟨mb, T, e, ov, f, ks, r⟩ := h
  exact ⟨mb, T, e, ov, f, ks, r.inner, r.ring, r.slots.mono (fun g _ hg => ⟨hU g hg.1, hg.2⟩), r.apart, r.wfs, fun g hg => hU g (r.terr g hg), hV⟩
theorem MemoRep.few {w : World} {p : Nat} {U : Nat → Prop} {most : Int} {L : List Mm} (h : MemoRep w p U most L) : (L.length : Int) ≤ max most 0 := by
  obtain ⟨mb, T, e, ov, f, ks, r⟩ := h
  exact r.ring.2.1

theorem put_any (w : World) (p : Nat) (U : Nat → Prop) (most : Int) (L : List Mm) (x : Mm) (hn : (L.length : Int) ≤ 1000) (wi : Wf x.ins) (wa : Wf x.at_) (hpl : (x.part.length : Int) ≤ 1000) (R : Nat → Prop) (hRU : ∀ g, g < w.heap.size → R g → ¬ U g) (hp : HasS R w x.po x.part) (h : MemoRep w p U most L) :
    Calls Try.prog 9 #[.pointer (some ⟨p, 0, none⟩), x.val] w
      fun e' w' => e' = .returned (.tuple #[]) ∧ But U w w' ∧ MemoRep w' p (fun g => U g ∨ w.heap.size ≤ g ∧ g < w'.heap.size) most (putL most L x) := by
  by_cases h1 : 1 ≤ most
  · cases hx : hasL L x.ins x.at_ with
    | true => exact put_known w p U most L x h1 hn hx wi wa hpl R hp h
    | false => exact put_new w p U most L x h1 hn hx wi wa hpl R hRU hp h
  · have hf := h.few
    have hL : L = [] := List.eq_nil_of_length_eq_zero (by omega)
    subst hL
    refine (put_none w p U most [] (by omega) h x.ins x.at_ x.en x.far x.ok x.po x.part.length x.pc).mono ?_
    rintro e' w' ⟨rfl, hb⟩
    refine ⟨rfl, But.of_below hb, ?_⟩
    have e0 : putL most [] x = [] := by unfold putL hasL; rw [if_neg (by simp), if_neg (by simp; omega), if_neg h1]
    rw [e0]
    exact (h.below hb).mono (fun g hg => .inl hg) (fun g hg => by
      rcases hg with hg | hg
      · exact Nat.lt_of_lt_of_le (h.lt g hg) hb.size
      · exact hg.2)

set_option maxHeartbeats 1600000 in
theorem get_any (w : World) (p : Nat) (U : Nat → Prop) (most : Int) (L : List Mm) (a b : Int) (wi : Wf a) (wa : Wf b) (h : MemoRep w p U most L) :
    Calls Try.prog 11 #[.pointer (some ⟨p, 0, none⟩), .int .i64 a, .int .i64 b] w
      fun e' w' => ∃ v, e' = .returned (.tuple #[v, .bool (hasL L a b)]) ∧ Pay (fun g => w.heap.size ≤ g) w' v (getL L a b) ∧ Below w.heap.size w w' := by
  obtain ⟨mb, T, e1, ov, f, ks, hr⟩ := h
  obtain ⟨c0, c1, c2, c3, f0, f1, f2, f3⟩ := hr.inner.own.four
  have hpw := hr.inner.own.lt
  have hsm := hr.slots.some wi wa
  obtain ⟨qo, qc, hval, hq, hlen⟩ : ∃ qo qc, (f a b).getD (.agg #[.int .i64 0, .int .i64 0, .bool false, .int .i64 0, .int .i64 0, .slice none 0 0]) = .agg #[.int .i64 (getL L a b).ins, .int .i64 (getL L a b).at_, .bool (getL L a b).ok, .int .i64 (getL L a b).en, .int .i64 (getL L a b).far, .slice qo (getL L a b).part.length qc] ∧
      HasS (fun _ => True) w qo (getL L a b).part ∧ ((getL L a b).part.length : Int) ≤ 1000 := by
    unfold getL
    cases hfi : L.find? (same a b) with
    | none => rw [(hr.slots a b wi wa).1 hfi]; exact ⟨none, 0, rfl, HasS.nil _ _ _, by decide⟩
    | some y =>
      obtain ⟨v, hv, qo, qc, rfl, hq⟩ := (hr.slots a b wi wa).2 y hfi
      rw [hv]
      exact ⟨qo, qc, rfl, hq.mono (fun _ _ _ => trivial), (hr.wfs y (List.mem_of_find?_eq_some hfi)).2.2⟩
  have hlook := fun (W : World) (hW : But (fun _ => False) w W) => look_run (hr.inner.map.keep hW (fun h => h)) wi wa
  rw [hval, hsm] at hlook
  have HQ := Lib.hid hq
  clear hr hval hq hsm
  generalize getL L a b = z at *
  generalize hasL L a b = k at *
  have hl := hlook (w.alloc (.cells #[.int .i64 0, .int .i64 0, .bool false, .int .i64 0, .int .i64 0, .slice none 0 0] 30)) ((But.refl _ _).alloc _)
  clear hlook
  go_enter Try.func11, Try.ntmps11
  go_wp2_with fail
  have HR0 : Own ((w.alloc (.cells #[.int .i64 0, .int .i64 0, .bool false, .int .i64 0, .int .i64 0, .slice none 0 0] 30)).alloc (.cells #[.int .i64 z.ins, .int .i64 z.at_, .bool z.ok, .int .i64 z.en, .int .i64 z.far, .slice qo z.part.length qc] 30)) w.heap.size 30 [.int .i64 0, .int .i64 0, .bool false, .int .i64 0, .int .i64 0, .slice none 0 0] := (Own.fresh w _ [.int .i64 0, .int .i64 0, .bool false, .int .i64 0, .int .i64 0, .slice none 0 0]).on_alloc _
  have HX0 : Own ((w.alloc (.cells #[.int .i64 0, .int .i64 0, .bool false, .int .i64 0, .int .i64 0, .slice none 0 0] 30)).alloc (.cells #[.int .i64 z.ins, .int .i64 z.at_, .bool z.ok, .int .i64 z.en, .int .i64 z.far, .slice qo z.part.length qc] 30)) (w.heap.size + 1) 30 [.int .i64 z.ins, .int .i64 z.at_, .bool z.ok, .int .i64 z.en, .int .i64 z.far, .slice qo z.part.length qc] := Own.fresh' (by simp) _ [.int .i64 z.ins, .int .i64 z.at_, .bool z.ok, .int .i64 z.en, .int .i64 z.far, .slice qo z.part.length qc]
  have hB : Below w.heap.size w ((w.alloc (.cells #[.int .i64 0, .int .i64 0, .bool false, .int .i64 0, .int .i64 0, .slice none 0 0] 30)).alloc (.cells #[.int .i64 z.ins, .int .i64 z.at_, .bool z.ok, .int .i64 z.en, .int .i64 z.far, .slice qo z.part.length qc] 30)) := ((Below.refl _ _).alloc (Nat.le_refl _) _).alloc (by simp) _
  generalize (w.alloc (.cells #[.int .i64 0, .int .i64 0, .bool false, .int .i64 0, .int .i64 0, .slice none 0 0] 30)).alloc (.cells #[.int .i64 z.ins, .int .i64 z.at_, .bool z.ok, .int .i64 z.en, .int .i64 z.far, .slice qo z.part.length qc] 30) = W at *
  clear hl c0 c1 c2 c3 f0 f1 f2 f3
  refine (clone_any z.part qo qc (fun _ => True) hlen W (HQ.out.below hB)).mono ?_
  rintro e w3 ⟨v, rfl, hw, hb⟩
  obtain ⟨ao, cap, rfl, -, hs⟩ := hw.nodes
  have HS := Lib.hid hs
  have hX := HX0.under hb HX0.lt
  have hR := HR0.under hb HR0.lt
  have HB := Lib.hid (keepb hB hb)
  have HX := Lib.hid hX
  have HR := Lib.hid hR
  have hWl := HX0.lt
  clear hw hs hb hB HX0 HR0 HQ
  have x0 := hX.cell 0
  have x1 := hX.cell 1
  have x2 := hX.cell 2
  have x3 := hX.cell 3
  have x4 := hX.cell 4
  have x5 := hX.cell 5
  have t5 := hX.thaw 5
  have r0 := hR.cell 0
  have r1 := hR.cell 1
  have r2 := hR.cell 2
  have r3 := hR.cell 3
  have r4 := hR.cell 4
  have r5 := hR.cell 5
  have s0 := hR.thaw 0
  have s1 := hR.thaw 1
  have s2 := hR.thaw 2
  have s3 := hR.thaw 3
  have s4 := hR.thaw 4
  have s5 := hR.thaw 5
  clear hX hR
  go_wp2
  have hF : Own (((((((w3.setCell ⟨w.heap.size + 1, 5, none⟩ (.slice ao z.part.length cap)).setCell ⟨w.heap.size, 0, none⟩ (.int .i64 z.ins)).setCell ⟨w.heap.size, 1, none⟩ (.int .i64 z.at_)).setCell ⟨w.heap.size, 2, none⟩ (.bool z.ok)).setCell ⟨w.heap.size, 3, none⟩ (.int .i64 z.en)).setCell ⟨w.heap.size, 4, none⟩ (.int .i64 z.far)).setCell ⟨w.heap.size, 5, none⟩ (.slice ao z.part.length cap)) w.heap.size 30 [.int .i64 z.ins, .int .i64 z.at_, .bool z.ok, .int .i64 z.en, .int .i64 z.far, .slice ao z.part.length cap] := ((((((HR.out.off (p := ⟨w.heap.size + 1, 5, none⟩) (by simp) _).put 0 _).put 1 _).put 2 _).put 3 _).put 4 _).put 5 _
  have hb5 : But (fun g => g = w.heap.size ∨ g = w.heap.size + 1) w3 (((((((w3.setCell ⟨w.heap.size + 1, 5, none⟩ (.slice ao z.part.length cap)).setCell ⟨w.heap.size, 0, none⟩ (.int .i64 z.ins)).setCell ⟨w.heap.size, 1, none⟩ (.int .i64 z.at_)).setCell ⟨w.heap.size, 2, none⟩ (.bool z.ok)).setCell ⟨w.heap.size, 3, none⟩ (.int .i64 z.en)).setCell ⟨w.heap.size, 4, none⟩ (.int .i64 z.far)).setCell ⟨w.heap.size, 5, none⟩ (.slice ao z.part.length cap)) := (((((((But.refl _ _).setCell (p := ⟨w.heap.size + 1, 5, none⟩) (fun _ => .inr rfl) _).setCell (p := ⟨w.heap.size, 0, none⟩) (fun _ => .inl rfl) _).setCell (p := ⟨w.heap.size, 1, none⟩) (fun _ => .inl rfl) _).setCell (p := ⟨w.heap.size, 2, none⟩) (fun _ => .inl rfl) _).setCell (p := ⟨w.heap.size, 3, none⟩) (fun _ => .inl rfl) _).setCell (p := ⟨w.heap.size, 4, none⟩) (fun _ => .inl rfl) _).setCell (p := ⟨w.heap.size, 5, none⟩) (fun _ => .inl rfl) _
  generalize (((((((w3.setCell ⟨w.heap.size + 1, 5, none⟩ (.slice ao z.part.length cap)).setCell ⟨w.heap.size, 0, none⟩ (.int .i64 z.ins)).setCell ⟨w.heap.size, 1, none⟩ (.int .i64 z.at_)).setCell ⟨w.heap.size, 2, none⟩ (.bool z.ok)).setCell ⟨w.heap.size, 3, none⟩ (.int .i64 z.en)).setCell ⟨w.heap.size, 4, none⟩ (.int .i64 z.far)).setCell ⟨w.heap.size, 5, none⟩ (.slice ao z.part.length cap)) = w5 at *
  have y0 := hF.cell 0
  have y1 := hF.cell 1
  have y2 := hF.cell 2
  have y3 := hF.cell 3
  have y4 := hF.cell 4
  have y5 := hF.cell 5
  refine bodyPost_ret (v := .tuple #[.agg #[.int .i64 z.ins, .int .i64 z.at_, .bool z.ok, .int .i64 z.en, .int .i64 z.far, .slice ao z.part.length cap], .bool k]) ?_ rfl ⟨_, rfl, ⟨ao, cap, rfl, ?_⟩, ?_⟩
  · simp at y0 y1 y2 y3 y4 y5
    simp [results, Try.results11, go_sem, y0, y1, y2, y3, y4, y5]
  · exact (HS.out.keep hb5 (fun g _ hg e => by have hg' : W.heap.size ≤ g := hg; omega)).mono (fun g _ hg => by have hg' : W.heap.size ≤ g := hg; omega)
  · exact HB.out.trans (hb5.below (B := w.heap.size) (by have := HB.out.size; omega) (fun g hg => by omega))
end Go.Proofs.Ytgpglmponbipbab
