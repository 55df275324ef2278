/- The walk of Put where the memory is a new one. -/
import Derived.Test.YtgpglmponbipbabMemoPut
namespace Go.Proofs.Ytgpglmponbipbab
set_option linter.unusedVariables false
open Go.RowKit Go.Sort

theorem Rep.keep {w w' : World} {p mb e : Nat} {U T S : Nat → Prop} {most : Int} {L : List Mm} {ov : Value} {f : Int → Int → Option Value} {ks : List (Int × Int)} (h : Rep w p U most L mb T e ov f ks) (hb : But S w w') (hd : ∀ g, U g → ¬ S g) : Rep w' p U most L mb T e ov f ks :=
  ⟨h.inner.but hb (fun g hg => hd g (h.terr g hg)), h.ring, h.slots.keep hb (fun g _ hg => hd g hg.1), h.apart, h.wfs, h.terr, fun g hg => Nat.lt_of_lt_of_le (h.lt g hg) hb.size⟩

set_option maxHeartbeats 1600000 in
theorem put_new (w : World) (p : Nat) (U : Nat → Prop) (most : Int) (L : List Mm) (x : Mm) (h1 : 1 ≤ most) (hn : (L.length : Int) ≤ 1000) (hx : hasL L x.ins x.at_ = false) (wi : Wf x.ins) (wa : Wf x.at_) (hpl : (x.part.length : Int) ≤ 1000) (R : Nat → Prop) (hRU : ∀ g, g < w.heap.size → R g → ¬ U g) (hp : HasS R w x.po x.part) (h : MemoRep w p U most L) :
    Calls Try.prog 9 #[.pointer (some ⟨p, 0, none⟩), x.val] w
      fun e' w' => e' = .returned (.tuple #[]) ∧ But U w w' ∧ MemoRep w' p (fun g => U g ∨ w.heap.size ≤ g ∧ g < w'.heap.size) most (putL most L x) := by
  obtain ⟨mb, T, e1, ov, f, ks, hr⟩ := h
  obtain ⟨c0, c1, c2, c3, f0, f1, f2, f3⟩ := hr.inner.own.four
  have hpw := hr.inner.own.lt
  have hv := (hr.slots x.ins x.at_ wi wa).1 (hasL_none hx)
  have hlook := fun (W : World) (hW : But (fun _ => False) w W) => look_run (hr.inner.map.keep hW (fun h => h)) wi wa
  rw [hv] at hlook
  have HL := Lib.hid hlook
  have H := Lib.hid hr
  have HP := Lib.hid hp
  have H2 := Lib.hid (And.intro hx hv)
  have HRU := Lib.hid hRU
  clear hr hp hlook hx hv hRU
  unfold Mm.val
  go_enter Try.func9, Try.ntmps9
  go_wp2_with fail
  have hW0 : Below w.heap.size w ((w.alloc (.cells #[.int .i64 x.ins, .int .i64 x.at_, .bool x.ok, .int .i64 x.en, .int .i64 x.far, .slice x.po x.part.length x.pc] 30)).alloc (.cells #[.int .i64 x.ins, .int .i64 x.at_] 49)) := ((Below.refl _ _).alloc (Nat.le_refl _) _).alloc (by simp) _
  have hX0 : Own ((w.alloc (.cells #[.int .i64 x.ins, .int .i64 x.at_, .bool x.ok, .int .i64 x.en, .int .i64 x.far, .slice x.po x.part.length x.pc] 30)).alloc (.cells #[.int .i64 x.ins, .int .i64 x.at_] 49)) w.heap.size 30 [.int .i64 x.ins, .int .i64 x.at_, .bool x.ok, .int .i64 x.en, .int .i64 x.far, .slice x.po x.part.length x.pc] := (Own.fresh w _ [.int .i64 x.ins, .int .i64 x.at_, .bool x.ok, .int .i64 x.en, .int .i64 x.far, .slice x.po x.part.length x.pc]).on_alloc _
  have hK0 : Own ((w.alloc (.cells #[.int .i64 x.ins, .int .i64 x.at_, .bool x.ok, .int .i64 x.en, .int .i64 x.far, .slice x.po x.part.length x.pc] 30)).alloc (.cells #[.int .i64 x.ins, .int .i64 x.at_] 49)) (w.heap.size + 1) 49 [.int .i64 x.ins, .int .i64 x.at_] := Own.fresh' (by simp) _ [.int .i64 x.ins, .int .i64 x.at_]
  generalize (w.alloc (.cells #[.int .i64 x.ins, .int .i64 x.at_, .bool x.ok, .int .i64 x.en, .int .i64 x.far, .slice x.po x.part.length x.pc] 30)).alloc (.cells #[.int .i64 x.ins, .int .i64 x.at_] 49) = W at *
  have hW1 : But (fun _ => False) w W := But.of_below hW0
  have HO := Lib.hid (H.out.inner.own.but hW1 (fun h => h))
  clear c0 c1 c2 c3 f0 f1 f2 f3
  obtain ⟨c0, c1, c2, c3, f0, f1, f2, f3⟩ := HO.out.four
  have k0 : W.cell? ⟨w.heap.size + 1, 0, none⟩ = some (.int .i64 x.ins) := hK0.cell 0
  have k1 : W.cell? ⟨w.heap.size + 1, 1, none⟩ = some (.int .i64 x.at_) := hK0.cell 1
  have hl := HL.out W.drew hW1.drew
  have hl2 := HL.out (W.alloc (.cells #[.int .i64 0, .int .i64 0, .bool false, .int .i64 0, .int .i64 0, .slice none 0 0] 30)).drew (hW1.alloc _).drew
  have d1 : (W.alloc (.cells #[.int .i64 0, .int .i64 0, .bool false, .int .i64 0, .int .i64 0, .slice none 0 0] 30)).cell? ⟨p, 1, none⟩ = some (.map (some mb)) := (HO.out.on_alloc _).cell 1
  have l0 : (W.alloc (.cells #[.int .i64 0, .int .i64 0, .bool false, .int .i64 0, .int .i64 0, .slice none 0 0] 30)).cell? ⟨w.heap.size + 1, 0, none⟩ = some (.int .i64 x.ins) := (hK0.on_alloc _).cell 0
  have l1 : (W.alloc (.cells #[.int .i64 0, .int .i64 0, .bool false, .int .i64 0, .int .i64 0, .slice none 0 0] 30)).cell? ⟨w.heap.size + 1, 1, none⟩ = some (.int .i64 x.at_) := (hK0.on_alloc _).cell 1
  have HX := Lib.hid hX0
  have HK := Lib.hid hK0
  have HB := Lib.hid hW1
  have hWs := hW0.size
  clear HL hX0 hK0 hW1
  go_region
  all_goals
    have hW2 : But (fun _ => False) W ((W.alloc (.cells #[.int .i64 0, .int .i64 0, .bool false, .int .i64 0, .int .i64 0, .slice none 0 0] 30)).drew) := ((But.refl _ _).alloc _).drew
    generalize (W.alloc (.cells #[.int .i64 0, .int .i64 0, .bool false, .int .i64 0, .int .i64 0, .slice none 0 0] 30)).drew = W2 at *
    have HO2 := Lib.hid (HO.out.but hW2 (fun h => h))
    have HX2 := Lib.hid (HX.out.but hW2 (fun h => h))
    have HK2 := Lib.hid (HK.out.but hW2 (fun h => h))
    have HB2 := Lib.hid (HB.out.trans hW2 (fun _ _ h => h))
    have k0 : W2.cell? ⟨w.heap.size + 1, 0, none⟩ = some (.int .i64 x.ins) := HK2.out.cell 0
    have k1 : W2.cell? ⟨w.heap.size + 1, 1, none⟩ = some (.int .i64 x.at_) := HK2.out.cell 1
    clear c0 c1 c2 c3 f0 f1 f2 f3 l0 l1 hl hl2 d1 hW2 HO HX HK HB
    have HR2 := Lib.hid (H.out.keep HB2.out (fun _ _ h => h))
    go_wp2_with fail
    refine (line_any W2 p mb U T most e1 ov f ks L x hn h1 H2.out.1 HR2.out).mono ?_
    rintro e' w6 ⟨rfl, hb6, e2, ov2, T2, f2, ks2, hin, hring, hsl, hap, hno, hfr⟩
    have HI := Lib.hid (And.intro hin (And.intro hring (And.intro hsl (And.intro hap (And.intro hno hfr)))))
    have hUl := H.out.lt
    have hT := H.out.terr
    have HX6 := Lib.hid (HX2.out.but hb6 (fun hg => by have := hUl _ (hT _ hg); omega))
    have HK6 := Lib.hid (HK2.out.but hb6 (fun hg => by have := hUl _ (hT _ hg); omega))
    have hp6 := Lib.hid ((HP.out.keep HB2.out (fun _ _ _ h => h)).keep hb6 (fun g hg hR ht => by
      have := hUl _ (hT _ ht)
      exact HRU.out g this hR (hT _ ht)))
    have HB6 := Lib.hid (HB2.out.trans' hb6)
    have hs6 := hb6.size
    have hs2 := HB2.out.size
    have hll : ((lineL most L).length : Int) ≤ 1000 := by unfold lineL; split; exact hn; rw [List.length_tail]; omega
    have x5 : w6.cell? ⟨w.heap.size, 5, none⟩ = some (.slice x.po x.part.length x.pc) := HX6.out.cell 5
    clear hin hring hsl hap hno hfr hb6 hUl hT k0 k1
    go_wp2_with fail
    refine (clone_any x.part x.po x.pc R hpl w6 hp6.out).mono ?_
    rintro e w3 ⟨v, rfl, hw, hb⟩
    obtain ⟨ao, cap, rfl, -, hs⟩ := hw.nodes
    have HS := Lib.hid hs
    have HB3 := Lib.hid hb
    have HB4 := Lib.hid (HB6.out.then_below hb)
    have HX3 := Lib.hid (HX6.out.under hb HX6.out.lt)
    have HK3 := Lib.hid (HK6.out.under hb HK6.out.lt)
    have HN3 := Lib.hid (HI.out.1.but (S := fun _ => False) (But.of_below hb) (fun _ _ h => h))
    have HS3 := Lib.hid (HI.out.2.2.1.keep (S := fun _ => False) (But.of_below hb) (fun _ _ _ h => h))
    have hT2 := Lib.hid HI.out.1.lt
    have hs3 := hb.size
    clear hw hs hb hp6
    have x5 := HX3.out.cell 5
    have z5 := HX3.out.thaw 5
    go_wp2
    have hb4 : But (fun g => g = w.heap.size) w3 (w3.setCell ⟨w.heap.size, 5, none⟩ (.slice ao x.part.length cap)) := But.put _ _ _ _
    have HX4 := Lib.hid (HX3.out.put 5 (.slice ao x.part.length cap))
    have hps := H.out.inner.map.lt
    have HN4 := Lib.hid (HN3.out.but hb4 (fun g hg e => by
      rcases hg with e' | e' | e'
      · omega
      · omega
      · rcases HI.out.2.2.2.2.2 g e' with e'' | e''
        · have := H.out.inner.lt g e''; omega
        · have := HX2.out.lt; omega))
    have HS5 := Lib.hid (HS3.out.keep hb4 (fun g hg hu e => by have := H.out.lt g hu.1; omega))
    have HK4 := Lib.hid (HK3.out.but hb4 (by omega))
    have HB5 := Lib.hid (HB4.out.setCell (p := ⟨w.heap.size, 5, none⟩) (fun h => absurd h (Nat.lt_irrefl _)) (.slice ao x.part.length cap))
    have HS4 := Lib.hid (HS.out.keep hb4 (fun g _ hg e => by have := HX6.out.lt; have hg' : w6.heap.size ≤ g := hg; omega))
    clear hb4 x5 z5 HX3 HK3
    generalize w3.setCell ⟨w.heap.size, 5, none⟩ (.slice ao x.part.length cap) = w4 at *
    obtain ⟨c0, c1, c2, c3, g0, g1, g2, g3⟩ := HN4.out.own.four
    have k0 : w4.cell? ⟨w.heap.size + 1, 0, none⟩ = some (.int .i64 x.ins) := HK4.out.cell 0
    have k1 : w4.cell? ⟨w.heap.size + 1, 1, none⟩ = some (.int .i64 x.at_) := HK4.out.cell 1
    have x0 := HX4.out.cell 0
    have x1 := HX4.out.cell 1
    have x2 := HX4.out.cell 2
    have x3 := HX4.out.cell 3
    have x4 := HX4.out.cell 4
    have x5 := HX4.out.cell 5
    go_still_tail 6, (by kernel_rfl)
    refine wpList_store _ rfl _ _ _ rfl mb (lineL most L).length f2 rfl (HN4.out.map.keep (S := fun _ => False) ((But.refl _ _).drew) (fun h => h)) (by unfold maxLen; omega) x.ins x.at_ wi wa rfl _ rfl ?_
    intro w5 hm hb5
    have HM5 := Lib.hid hm
    have HB7 := Lib.hid ((But.refl (fun g => g = mb) w4).drew.trans hb5 (fun _ _ h => h))
    clear hm hb5
    go_wp2
    go_end0
    refine ⟨rfl, ?_⟩
    have e0 := putL_new H2.out.1 h1
    have hfn : (f2 x.ins x.at_).isSome = false := by rw [HI.out.2.2.1.some wi wa]; exact HI.out.2.2.2.2.1
    have hln : (if (f2 x.ins x.at_).isSome then (lineL most L).length else (lineL most L).length + 1) = (lineL most L ++ [x]).length := by rw [hfn]; simp
    rw [e0]
    have hm := HM5.out
    rw [hln] at hm
    refine put_end H.out HB5.out HN4.out HS5.out (fun g hg => (HI.out.2.2.2.2.2 g hg).imp id (fun h => Nat.le_trans hs2 h))
      ⟨ao, cap, rfl, HS4.out.mono fun g _ hg => ⟨?_, fun e => ?_⟩⟩ (find_snoc HI.out.2.2.2.2.1) (apart_snoc HI.out.2.2.2.1 HI.out.2.2.2.2.1) ?_ HI.out.2.1 hm HB7.out
    · have hg' : w6.heap.size ≤ g := hg; omega
    · have hg' : w6.heap.size ≤ g := hg; have := hT2.out g e; omega
    · intro z hz
      rcases List.mem_append.1 hz with hz | hz
      · have : z ∈ L := by unfold lineL at hz; split at hz; exact hz; exact List.mem_of_mem_tail hz
        exact H.out.wfs z this
      · have : z = x := by simpa using hz
        subst this; exact ⟨wi, wa, hpl⟩
end Go.Proofs.Ytgpglmponbipbab
