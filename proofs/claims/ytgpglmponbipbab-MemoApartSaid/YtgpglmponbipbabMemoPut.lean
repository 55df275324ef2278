/- The program's memo as a list of memories; the walk of Put. -/
import Derived.Test.YtgpglmponbipbabMm
import Derived.BigRegion
namespace Go.Proofs.Ytgpglmponbipbab
set_option linter.unusedVariables false
open Go.RowKit Go.Sort

def Wfs (L : List Mm) : Prop := ∀ x ∈ L, Wf x.ins ∧ Wf x.at_ ∧ (x.part.length : Int) ≤ 1000
/-- The memo at block p, in its own blocks U, is the list L. -/
structure Rep (w : World) (p : Nat) (U : Nat → Prop) (most : Int) (L : List Mm) (mb : Nat) (T : Nat → Prop) (e : Nat) (ov : Value) (f : Int → Int → Option Value) (ks : List (Int × Int)) : Prop where
  inner : Inner w p mb T most e ov L.length f ks
  ring : Ring most e L ks
  slots : Slots (fun g => U g ∧ ¬ Terr p mb T g) w f L
  apart : Apart L
  wfs : Wfs L
  terr : ∀ g, Terr p mb T g → U g
  lt : ∀ g, U g → g < w.heap.size
def MemoRep (w : World) (p : Nat) (U : Nat → Prop) (most : Int) (L : List Mm) : Prop := ∃ mb T e ov f ks, Rep w p U most L mb T e ov f ks
theorem MemoRep.keep {w w' : World} {p : Nat} {U S : Nat → Prop} {most : Int} {L : List Mm} (h : MemoRep w p U most L) (hb : But S w w') (hd : ∀ g, U g → ¬ S g) : MemoRep w' p U most L := by
  obtain ⟨mb, T, e, ov, f, ks, ⟨a1, a2, a3, a4, a5, a6⟩, b, c, d, e1, f1, g1⟩ := h
  exact ⟨mb, T, e, ov, f, ks, ⟨a1.but hb (hd p (f1 p (.inl rfl))), a2.keep hb (hd mb (f1 mb (.inr (.inl rfl)))), a3.keep hb (fun g _ hg => hd g (f1 g (.inr (.inr hg)))), a4, a5, fun g hg => Nat.lt_of_lt_of_le (a6 g hg) hb.size⟩, b,
    c.keep hb (fun g _ hg => hd g hg.1), d, e1, f1, fun g hg => Nat.lt_of_lt_of_le (g1 g hg) hb.size⟩
theorem MemoRep.below {w w' : World} {p : Nat} {U : Nat → Prop} {most : Int} {L : List Mm} (h : MemoRep w p U most L) (hb : Below w.heap.size w w') : MemoRep w' p U most L := h.keep (S := fun _ => False) (But.of_below hb) (fun _ _ h => h)
theorem MemoRep.lt {w : World} {p : Nat} {U : Nat → Prop} {most : Int} {L : List Mm} (h : MemoRep w p U most L) : ∀ g, U g → g < w.heap.size := by
  obtain ⟨mb, T, e, ov, f, ks, r⟩ := h; exact r.lt

def lineL (most : Int) (L : List Mm) : List Mm := if (L.length : Int) < most then L else L.tail
theorem putL_new {most : Int} {L : List Mm} {x : Mm} (h : hasL L x.ins x.at_ = false) (h1 : 1 ≤ most) : putL most L x = lineL most L ++ [x] := by
  unfold putL lineL
  rw [if_neg (by simp [h])]
  split
  · rfl
  · first | rfl | rw [if_pos h1]

theorem line_any (w : World) (p mb : Nat) (U T : Nat → Prop) (most : Int) (e : Nat) (ov : Value) (f : Int → Int → Option Value) (ks : List (Int × Int)) (L : List Mm) (x : Mm) (hn : (L.length : Int) ≤ 1000) (h1 : 1 ≤ most) (hx : hasL L x.ins x.at_ = false) (h : Rep w p U most L mb T e ov f ks) :
    Calls Try.prog 16 #[.pointer (some ⟨p, 0, none⟩), .agg #[.int .i64 x.ins, .int .i64 x.at_]] w
      fun e' w' => e' = .returned (.tuple #[]) ∧ But (Terr p mb T) w w' ∧ ∃ e1 ov1 T1 f1 ks1, Inner w' p mb T1 most (e1 : Nat) ov1 (lineL most L).length f1 ks1 ∧ Ring most e1 (lineL most L ++ [x]) ks1 ∧
        Slots (fun g => U g ∧ ¬ Terr p mb T g) w' f1 (lineL most L) ∧ Apart (lineL most L) ∧ hasL (lineL most L) x.ins x.at_ = false ∧ ∀ g, T1 g → T g ∨ w.heap.size ≤ g := by
  by_cases hr : (L.length : Int) < most
  · have e0 : lineL most L = L := by unfold lineL; rw [if_pos hr]
    rw [e0]
    have hkl := h.ring.1
    refine (line_room w p mb T most e ov L.length f ks x.ins x.at_ (by omega) (by omega) h.inner).mono ?_
    rintro e' w' ⟨rfl, hb, ov', T', hi, ht⟩
    exact ⟨rfl, hb, e, ov', T', f, _, hi, h.ring.room x hr, h.slots.keep hb (fun g _ hg => hg.2), h.apart, hx, ht⟩
  · cases L with
    | nil => simp at hr; omega
    | cons y L =>
      have e0 : lineL most (y :: L) = L := by unfold lineL; rw [if_neg hr]; rfl
      rw [e0]
      have hring := h.ring
      obtain ⟨r1, r2, r3, r4, r5⟩ := hring
      have hm : most = (L.length : Int) + 1 := by simp only [List.length_cons] at hr r2; omega
      subst hm
      have he := r4 (by simp)
      simp only [List.length_cons] at r1 he hn
      have hy := h.wfs y (by simp)
      have r6 := r5 0 y rfl
      simp only [List.length_cons, Nat.add_zero] at r6
      rw [Nat.mod_eq_of_lt he] at r6
      have hs : (f y.ins y.at_).isSome = true := by rw [h.slots.some hy.1 hy.2.1]; simp [hasL, same]
      refine (line_full w p mb T e ov f ks x.ins x.at_ y.ins y.at_ L.length r1 (by omega) (by omega) r6 hy.1 hy.2.1 hs h.inner).mono ?_
      rintro e' w' ⟨rfl, hb, hi⟩
      refine ⟨rfl, hb, (e + 1) % (L.length + 1), ov, T, delF f y.ins y.at_, _, hi, h.ring.full x hr, (h.slots.del h.apart).keep hb (fun g _ hg => hg.2), apart_tail h.apart, ?_, fun g hg => .inl hg⟩
      have := hasL_none hx
      unfold hasL
      rw [find_tail h.apart, this]
      split <;> rfl

theorem look_run {w : World} {mb n : Nat} {f : Int → Int → Option Value} (h : MapIs w mb n f) {a b : Int} (ha : Wf a) (hb : Wf b) :
    (Instr.lookup 42 (.map (some mb)) (.agg #[.int .i64 a, .int .i64 b]) true).run Try.prog w = .ok (.tuple #[(f a b).getD (.agg #[.int .i64 0, .int .i64 0, .bool false, .int .i64 0, .int .i64 0, .slice none 0 0]), .bool (f a b).isSome]) w := by
  obtain ⟨D, hD, hs, hf⟩ := h
  obtain ⟨h1, h2⟩ := hf a b ha hb
  obtain ⟨v, ps, hrun, hv⟩ := hD.look_ok place_law Try.underlying42 (zero_mem w) (R := heldR) (zd := .held _) (zp := []) rfl (key_is ha hb)
  rw [h2] at hv
  simp only [heldR, Option.some.injEq, Prod.mk.injEq, DataW.held.injEq] at hv
  rw [hrun, hv.1, h1]

theorem put_end {w w4 w5 : World} {p mb n e0 e1 : Nat} {U T T1 : Nat → Prop} {most : Int} {ov ov1 val : Value} {f f1 : Int → Int → Option Value} {ks ks1 : List (Int × Int)} {L M L' : List Mm} {x : Mm}
    (h : Rep w p U most L mb T e0 ov f ks) (hb4 : But (Terr p mb T) w w4) (hi : Inner w4 p mb T1 most e1 ov1 n f1 ks1) (hs : Slots (fun g => U g ∧ ¬ Terr p mb T g) w4 f1 M) (ht : ∀ g, T1 g → T g ∨ w.heap.size ≤ g)
    (hv : Pay (fun g => w.heap.size ≤ g ∧ ¬ T1 g) w4 val x) (hf : ∀ a b, L'.find? (same a b) = if a = x.ins ∧ b = x.at_ then some x else M.find? (same a b)) (ha : Apart L') (hw : Wfs L') (hr : Ring most e1 L' ks1)
    (hm : MapIs w5 mb L'.length (putF f1 x.ins x.at_ val)) (hb5 : But (fun g => g = mb) w4 w5) :
    But U w w5 ∧ MemoRep w5 p (fun g => U g ∨ w.heap.size ≤ g ∧ g < w5.heap.size) most L' := by
  have hp := h.inner.own.lt
  have hmb := h.inner.map.lt
  have B : But (Terr p mb T) w w5 := hb4.trans hb5 (fun g _ hg => .inr (.inl hg))
  refine ⟨B.mono fun g _ hg => h.terr g hg, mb, T1, e1, ov1, _, ks1, ⟨hi.own.but hb5 (fun e => hi.ne e.symm), hm, hi.win.keep hb5 (fun g _ hg e => hi.nm (e ▸ hg)), hi.np, hi.nm, fun g hg => Nat.lt_of_lt_of_le (hi.lt g hg) hb5.size⟩, hr, ?_, ha, hw, ?_, ?_⟩
  · refine Slots.put (L := M) ?_ hf ?_
    · refine (hs.keep hb5 (fun g _ hg e => hg.2 (.inr (.inl e)))).mono (fun g _ hg => ⟨.inl hg.1, ?_⟩)
      rintro (e | e | e)
      · exact hg.2 (.inl e)
      · exact hg.2 (.inr (.inl e))
      · rcases ht g e with e | e
        · exact hg.2 (.inr (.inr e))
        · have := h.lt g hg.1; omega
    · refine (hv.keep hb5 (fun g _ hg e => by subst e; omega)).mono (fun g hl hg => ⟨.inr ⟨hg.1, hl⟩, ?_⟩)
      rintro (e | e | e)
      · subst e; omega
      · subst e; omega
      · exact hg.2 e
  · rintro g (e | e | e)
    · exact .inl (h.terr g (.inl e))
    · exact .inl (h.terr g (.inr (.inl e)))
    · rcases ht g e with e' | e'
      · exact .inl (h.terr g (.inr (.inr e')))
      · exact .inr ⟨e', Nat.lt_of_lt_of_le (hi.lt g e) hb5.size⟩
  · rintro g (e | e)
    · exact Nat.lt_of_lt_of_le (h.lt g e) B.size
    · exact e.2
theorem Inner.but {w w' : World} {p mb n : Nat} {T S : Nat → Prop} {most e : Int} {ov : Value} {f : Int → Int → Option Value} {ks : List (Int × Int)} (h : Inner w p mb T most e ov n f ks) (hb : But S w w') (hd : ∀ g, Terr p mb T g → ¬ S g) : Inner w' p mb T most e ov n f ks :=
  ⟨h.own.but hb (hd p (.inl rfl)), h.map.keep hb (hd mb (.inr (.inl rfl))), h.win.keep hb (fun g _ hg => hd g (.inr (.inr hg))), h.np, h.nm, fun g hg => Nat.lt_of_lt_of_le (h.lt g hg) hb.size⟩

set_option maxHeartbeats 1600000 in
theorem put_none (w : World) (p : Nat) (U : Nat → Prop) (most : Int) (L : List Mm) (h1 : most < 1) (h : MemoRep w p U most L) (i a e r : Int) (k : Bool) (po : Option Addr) (n c : Nat) :
    Calls Try.prog 9 #[.pointer (some ⟨p, 0, none⟩), .agg #[.int .i64 i, .int .i64 a, .bool k, .int .i64 e, .int .i64 r, .slice po n c]] w
      fun e' w' => e' = .returned (.tuple #[]) ∧ Below w.heap.size w w' := by
  obtain ⟨mb, T, e1, ov, f, ks, hr⟩ := h
  obtain ⟨c0, c1, c2, c3, f0, f1, f2, f3⟩ := hr.inner.own.four
  have hpw := hr.inner.own.lt
  have H := Lib.hid hr
  clear hr
  go_enter Try.func9, Try.ntmps9
  go_wp2
  refine bodyPost_ret (results_none rfl _ _ _) rfl ?_
  exact ⟨rfl, (Below.refl _ _).alloc (Nat.le_refl _) _⟩

set_option maxHeartbeats 1600000 in
theorem put_known (w : World) (p : Nat) (U : Nat → Prop) (most : Int) (L : List Mm) (x : Mm) (h1 : 1 ≤ most) (hn : (L.length : Int) ≤ 1000) (hx : hasL L x.ins x.at_ = true) (wi : Wf x.ins) (wa : Wf x.at_) (hpl : (x.part.length : Int) ≤ 1000) (R : Nat → Prop) (hp : HasS R w x.po x.part) (h : MemoRep w p U most L) :
    Calls Try.prog 9 #[.pointer (some ⟨p, 0, none⟩), x.val] w
      fun e' w' => e' = .returned (.tuple #[]) ∧ But U w w' ∧ MemoRep w' p (fun g => U g ∨ w.heap.size ≤ g ∧ g < w'.heap.size) most (putL most L x) := by
  obtain ⟨mb, T, e1, ov, f, ks, hr⟩ := h
  obtain ⟨c0, c1, c2, c3, f0, f1, f2, f3⟩ := hr.inner.own.four
  have hpw := hr.inner.own.lt
  obtain ⟨y, hy⟩ : ∃ y, L.find? (same x.ins x.at_) = some y := Option.isSome_iff_exists.1 hx
  obtain ⟨v, hv, qo, qc, rfl, hq⟩ := (hr.slots x.ins x.at_ wi wa).2 y hy
  have hlook := fun (W : World) (hW : But (fun _ => False) w W) => look_run (hr.inner.map.keep hW (fun h => h)) wi wa
  rw [hv] at hlook
  have HL := Lib.hid hlook
  have H := Lib.hid hr
  have HP := Lib.hid hp
  have H2 := Lib.hid (And.intro hx (And.intro hy hv))
  clear hr hp hlook hx hy hv hq
  unfold Mm.val
  go_enter Try.func9, Try.ntmps9
  go_wp2_with fail
  have hW0 : Below w.heap.size w ((w.alloc (.cells #[.int .i64 x.ins, .int .i64 x.at_, .bool x.ok, .int .i64 x.en, .int .i64 x.far, .slice x.po x.part.length x.pc] 30)).alloc (.cells #[.int .i64 x.ins, .int .i64 x.at_] 49)) := ((Below.refl _ _).alloc (Nat.le_refl _) _).alloc (by simp) _
  have hX0 : Own ((w.alloc (.cells #[.int .i64 x.ins, .int .i64 x.at_, .bool x.ok, .int .i64 x.en, .int .i64 x.far, .slice x.po x.part.length x.pc] 30)).alloc (.cells #[.int .i64 x.ins, .int .i64 x.at_] 49)) w.heap.size 30 [.int .i64 x.ins, .int .i64 x.at_, .bool x.ok, .int .i64 x.en, .int .i64 x.far, .slice x.po x.part.length x.pc] := (Own.fresh w _ [.int .i64 x.ins, .int .i64 x.at_, .bool x.ok, .int .i64 x.en, .int .i64 x.far, .slice x.po x.part.length x.pc]).on_alloc _
  have hK0 : Own ((w.alloc (.cells #[.int .i64 x.ins, .int .i64 x.at_, .bool x.ok, .int .i64 x.en, .int .i64 x.far, .slice x.po x.part.length x.pc] 30)).alloc (.cells #[.int .i64 x.ins, .int .i64 x.at_] 49)) (w.heap.size + 1) 49 [.int .i64 x.ins, .int .i64 x.at_] := Own.fresh' (by simp) _ [.int .i64 x.ins, .int .i64 x.at_]
  generalize (w.alloc (.cells #[.int .i64 x.ins, .int .i64 x.at_, .bool x.ok, .int .i64 x.en, .int .i64 x.far, .slice x.po x.part.length x.pc] 30)).alloc (.cells #[.int .i64 x.ins, .int .i64 x.at_] 49) = W at *
  have hW1 : But (fun _ => False) w W := But.of_below hW0
  have HO := Lib.hid (H.out.inner.own.but hW1 (fun h => h))
  clear c0 c1 c2 c3 f0 f1 f2 f3
  obtain ⟨c0, c1, c2, c3, f0, f1, f2, f3⟩ := HO.out.four
  have k0 : W.cell? ⟨w.heap.size + 1, 0, none⟩ = some (.int .i64 x.ins) := hK0.cell 0
  have k1 : W.cell? ⟨w.heap.size + 1, 1, none⟩ = some (.int .i64 x.at_) := hK0.cell 1
  have hl := HL.out W.drew hW1.drew
  have hl2 := HL.out (W.alloc (.cells #[.int .i64 0, .int .i64 0, .bool false, .int .i64 0, .int .i64 0, .slice none 0 0] 30)).drew (hW1.alloc _).drew
  have d1 : (W.alloc (.cells #[.int .i64 0, .int .i64 0, .bool false, .int .i64 0, .int .i64 0, .slice none 0 0] 30)).cell? ⟨p, 1, none⟩ = some (.map (some mb)) := (HO.out.on_alloc _).cell 1
  have l0 : (W.alloc (.cells #[.int .i64 0, .int .i64 0, .bool false, .int .i64 0, .int .i64 0, .slice none 0 0] 30)).cell? ⟨w.heap.size + 1, 0, none⟩ = some (.int .i64 x.ins) := (hK0.on_alloc _).cell 0
  have l1 : (W.alloc (.cells #[.int .i64 0, .int .i64 0, .bool false, .int .i64 0, .int .i64 0, .slice none 0 0] 30)).cell? ⟨w.heap.size + 1, 1, none⟩ = some (.int .i64 x.at_) := (hK0.on_alloc _).cell 1
  have HX := Lib.hid hX0
  have HK := Lib.hid hK0
  have HB := Lib.hid hW1
  have hWs := hW0.size
  clear HL hX0 hK0 hW1
  go_region
  all_goals
    have hW2 : But (fun _ => False) W ((W.alloc (.cells #[.int .i64 y.ins, .int .i64 y.at_, .bool y.ok, .int .i64 y.en, .int .i64 y.far, .slice qo y.part.length qc] 30)).drew) := ((But.refl _ _).alloc _).drew
    generalize (W.alloc (.cells #[.int .i64 y.ins, .int .i64 y.at_, .bool y.ok, .int .i64 y.en, .int .i64 y.far, .slice qo y.part.length qc] 30)).drew = W2 at *
    have HO2 := Lib.hid (HO.out.but hW2 (fun h => h))
    have HX2 := Lib.hid (HX.out.but hW2 (fun h => h))
    have HK2 := Lib.hid (HK.out.but hW2 (fun h => h))
    have HB2 := Lib.hid (HB.out.trans hW2 (fun _ _ h => h))
    have x5 : W2.cell? ⟨w.heap.size, 5, none⟩ = some (.slice x.po x.part.length x.pc) := HX2.out.cell 5
    clear c0 c1 c2 c3 f0 f1 f2 f3 k0 k1 l0 l1 hl hl2 d1 hW2 HO HX HK HB
    have hp2 := Lib.hid (HP.out.keep HB2.out (fun _ _ _ h => h))
    go_wp2_with fail
    refine (clone_any x.part x.po x.pc R hpl W2 hp2.out).mono ?_
    rintro e w3 ⟨v, rfl, hw, hb⟩
    obtain ⟨ao, cap, rfl, -, hs⟩ := hw.nodes
    have HS := Lib.hid hs
    have HB3 := Lib.hid hb
    have HB4 := Lib.hid (HB2.out.then_below hb)
    have HX3 := Lib.hid (HX2.out.under hb HX2.out.lt)
    have HK3 := Lib.hid (HK2.out.under hb HK2.out.lt)
    clear hw hs hb hp2
    have x5 := HX3.out.cell 5
    have z5 := HX3.out.thaw 5
    go_wp2
    have hb4 : But (fun g => g = w.heap.size) w3 (w3.setCell ⟨w.heap.size, 5, none⟩ (.slice ao x.part.length cap)) := But.put _ _ _ _
    have HX4 := Lib.hid (HX3.out.put 5 (.slice ao x.part.length cap))
    have hin := H.out.inner.but (HB4.out) (fun _ _ h => h)
    have hps := H.out.inner.map.lt
    have HN4 := Lib.hid (hin.but hb4 (fun g hg e => by
      rcases hg with e' | e' | e'
      · omega
      · omega
      · have := H.out.inner.lt g e'; omega))
    have HK4 := Lib.hid (HK3.out.but hb4 (by omega))
    have HB5 := Lib.hid (HB4.out.setCell (p := ⟨w.heap.size, 5, none⟩) (fun h => absurd h (Nat.lt_irrefl _)) (.slice ao x.part.length cap))
    have HS4 := Lib.hid (HS.out.keep hb4 (fun g _ hg e => by have := HX2.out.lt; have hg' : W2.heap.size ≤ g := hg; omega))
    clear hb4 hin x5 z5 HX3 HK3
    generalize w3.setCell ⟨w.heap.size, 5, none⟩ (.slice ao x.part.length cap) = w4 at *
    obtain ⟨c0, c1, c2, c3, f0, f1, f2, f3⟩ := HN4.out.own.four
    have k0 : w4.cell? ⟨w.heap.size + 1, 0, none⟩ = some (.int .i64 x.ins) := HK4.out.cell 0
    have k1 : w4.cell? ⟨w.heap.size + 1, 1, none⟩ = some (.int .i64 x.at_) := HK4.out.cell 1
    have x0 := HX4.out.cell 0
    have x1 := HX4.out.cell 1
    have x2 := HX4.out.cell 2
    have x3 := HX4.out.cell 3
    have x4 := HX4.out.cell 4
    have x5 := HX4.out.cell 5
    go_still_tail 6, (by kernel_rfl)
    refine wpList_store _ rfl _ _ _ rfl mb L.length f rfl (HN4.out.map.keep (S := fun _ => False) ((But.refl _ _).drew) (fun h => h)) (by unfold maxLen; omega) x.ins x.at_ wi wa rfl _ rfl ?_
    intro w5 hm hb5
    have HM5 := Lib.hid hm
    have HB6 := Lib.hid ((But.refl (fun g => g = mb) w4).drew.trans hb5 (fun _ _ h => h))
    clear hm hb5
    go_wp2
    go_end0
    refine ⟨rfl, ?_⟩
    have e0 : putL most L x = repL L x := by unfold putL; rw [if_pos H2.out.1]
    have hln : (if (f x.ins x.at_).isSome then L.length else L.length + 1) = (repL L x).length := by rw [H2.out.2.2, repL_len]; rfl
    rw [e0]
    have hm := HM5.out
    rw [hln] at hm
    refine put_end H.out (HB5.out.mono fun _ _ h => h.elim) HN4.out (H.out.slots.keep HB5.out fun _ _ _ h => h) (fun g hg => .inl hg)
      ⟨ao, cap, rfl, HS4.out.mono fun g _ hg => ⟨?_, fun e => ?_⟩⟩ (find_rep H2.out.1) (repL_apart x H.out.apart) ?_ (H.out.ring.rep x) hm HB6.out
    · have := HB2.out.size; have hg' : W2.heap.size ≤ g := hg; omega
    · have := HB2.out.size; have hg' : W2.heap.size ≤ g := hg; have := H.out.inner.lt g e; omega
    · intro z hz
      rcases repL_mem hz with rfl | hz
      · exact ⟨wi, wa, hpl⟩
      · exact H.out.wfs z hz
end Go.Proofs.Ytgpglmponbipbab
