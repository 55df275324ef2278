/- The walk of Memo.line where the memo is full. -/
import Derived.Test.YtgpglmponbipbabMemoLine
import Derived.IntWalk
namespace Go.Proofs.Ytgpglmponbipbab
set_option linter.unusedVariables false
open Go.RowKit Go.Sort

theorem full_end {w W w1 w2 : World} {p mb : Nat} {T : Nat → Prop} {most e : Int} {ov : Value} {n m k : Nat} {f f' : Int → Int → Option Value} {ks ks' : List (Int × Int)}
    (h : Inner w p mb T most e ov n f ks) (hk : ks.length = k + 1) (hW0 : Below w.heap.size w W) (hB1 : But (fun g => g = mb) W w1) (hB2 : But T w1 w2)
    (hO : Own w2 p 45 [.int .i64 most, .map (some mb), ov, .int .i64 e]) (hW : Win T 49 2 w2 ov (k + 1) (rowK ks')) (hM : MapIs w1 mb m f') (u : Int) :
    But (Terr p mb T) w (w2.drew.setCell ⟨p, 3, none⟩ (.int .i64 u)) ∧ Inner (w2.drew.setCell ⟨p, 3, none⟩ (.int .i64 u)) p mb T most u ov m f' ks' := by
  have hl : ks'.length = k + 1 := by have := hW.1; rw [rowK_len] at this; omega
  have B : But (Terr p mb T) w w2 := ((But.of_below hW0).trans hB1 (fun g _ hg => .inr (.inl hg))).trans hB2 (fun g _ hg => .inr (.inr hg))
  refine ⟨(B.drew).setCell (fun _ => .inl rfl) _, ?_, ?_, ?_, h.np, h.nm, fun g hg => Nat.lt_of_lt_of_le (h.lt g hg) (by have := B.size; simpa [World.setCell] using this)⟩
  · exact hO.on_drew.put 3 _
  · exact ((hM.keep hB2 h.nm).keep (S := fun _ => False) (But.drew (But.refl _ _)) (fun h => h)).keep (But.put w2.drew p 3 _) h.ne
  · rw [hl]
    exact (hW.keep (T := fun _ => False) (But.drew (But.refl _ _)) (fun _ _ _ h => h)).keep (But.put w2.drew p 3 _) (fun g _ hg e => h.np (e ▸ hg))

set_option maxHeartbeats 1600000 in
theorem line_full (w : World) (p mb : Nat) (T : Nat → Prop) (e : Nat) (ov : Value) (f : Int → Int → Option Value) (ks : List (Int × Int)) (a b c d : Int) (k : Nat) (hk : ks.length = k + 1) (hn : (k : Int) ≤ 1000) (he : (e : Int) < k + 1) (hkk : ks[e]? = some (c, d)) (hc : Wf c) (hd : Wf d) (hcd : (f c d).isSome = true)
    (h : Inner w p mb T ((k : Int) + 1) e ov (k + 1) f ks) :
    Calls Try.prog 16 #[.pointer (some ⟨p, 0, none⟩), .agg #[.int .i64 a, .int .i64 b]] w
      fun e' w' => e' = .returned (.tuple #[]) ∧ But (Terr p mb T) w w' ∧ Inner w' p mb T ((k : Int) + 1) (((e + 1) % (k + 1) : Nat) : Int) ov k (delF f c d) (ks.set e (a, b)) := by
  obtain ⟨c0, c1, c2, c3, f0, f1, f2, f3⟩ := h.own.four
  obtain ⟨g, off, cap, rfl, hg, hcap, hgl⟩ := h.win.has (by omega)
  have H := Lib.hid h
  have hp := h.own.lt
  clear h
  have HK := Lib.hid hk
  rw [hk] at c2 hcap
  clear hk
  go_enter Try.func16, Try.ntmps16
  go_wp2_with fail
  go_quiet (fail)
  go_wp2_with fail
  have hW0 : Below w.heap.size w ((w.alloc (.cells #[.int .i64 a, .int .i64 b] 49)).drewN nq) := below_drewN ((Below.refl _ _).alloc (Nat.le_refl _) _) _
  have hX0 : Own ((w.alloc (.cells #[.int .i64 a, .int .i64 b] 49)).drewN nq) w.heap.size 49 [.int .i64 a, .int .i64 b] := (Own.fresh w _ [.int .i64 a, .int .i64 b]).on_drewN nq
  generalize (w.alloc (.cells #[.int .i64 a, .int .i64 b] 49)).drewN nq = W at *
  have HO : Hid (Own W p 45 [.int .i64 ((k : Int) + 1), .map (some mb), .slice (some ⟨g, off, none⟩) (k + 1) cap, .int .i64 e]) := Lib.hid (by have := H.out.own.under hW0 hp; rw [HK.out] at this; exact this)
  have HW : Hid (Win T 49 2 W (.slice (some ⟨g, off, none⟩) (k + 1) cap) (k + 1) (rowK ks)) := Lib.hid (by have := H.out.win.below hW0; rw [HK.out] at this; exact this)
  have HM : Hid (MapIs W mb (k + 1) f) := Lib.hid (H.out.map.keep (S := fun _ => False) (But.of_below hW0) (fun h => h))
  obtain ⟨c0, c1, c2, c3, f0, f1, f2, f3⟩ := HO.out.four
  obtain ⟨x0, x1⟩ := rowK_get ks e (c, d) hkk
  have k0 : W.cell? ⟨g, off + e * 2, none⟩ = some (.int .i64 c) := (HW.out.cellAt (e * 2) (by omega)).trans x0
  have k1 : W.cell? ⟨g, off + e * 2 + 1, none⟩ = some (.int .i64 d) := (HW.out.cellAt (e * 2 + 1) (by omega)).trans x1
  clear x0 x1
  go_still_tail 14, (by kernel_rfl)
  refine wpList_del _ rfl _ _ rfl mb k f rfl (HM.out.keep (S := fun _ => False) ((But.refl _ W).drew) (fun h => h)) c d hc hd rfl hcd ?_
  intro w1 hM1 hb1
  have HM1 := Lib.hid hM1
  have hB1 : But (fun g => g = mb) W w1 := (But.refl _ W).drew.trans hb1 (fun _ _ h => h)
  have hmp := H.out.ne
  have NT := Lib.hid (And.intro H.out.np H.out.nm)
  have HO1 : Hid (Own w1 p 45 [.int .i64 ((k : Int) + 1), .map (some mb), .slice (some ⟨g, off, none⟩) (k + 1) cap, .int .i64 e]) := Lib.hid (HO.out.but hB1 (fun h => hmp h.symm))
  have HW1 : Hid (Win T 49 2 w1 (.slice (some ⟨g, off, none⟩) (k + 1) cap) (k + 1) (rowK ks)) := Lib.hid (HW.out.keep hB1 (fun g _ hg h => NT.out.2 (h ▸ hg)))
  have hX1 := hX0.but hB1 (by have := H.out.map.lt; omega)
  have HB1 := Lib.hid hB1
  clear c0 c1 c2 c3 f0 f1 f2 f3 k0 k1 hM1 hb1 hB1 hX0 hmp
  obtain ⟨c0, c1, c2, c3, f0, f1, f2, f3⟩ := HO1.out.four
  have x0 : w1.cell? ⟨w.heap.size, 0, none⟩ = some (.int .i64 a) := hX1.cell 0
  have x1 : w1.cell? ⟨w.heap.size, 1, none⟩ = some (.int .i64 b) := hX1.cell 1
  have y0 := HW1.out.cellAt (e * 2) (by omega)
  have y1 := HW1.out.cellAt (e * 2 + 1) (by omega)
  obtain ⟨z0, z1⟩ := rowK_get ks e (c, d) hkk
  rw [z0] at y0
  rw [z1, ← Nat.add_assoc] at y1
  have g0 := HW1.out.thawAt (by omega) (off + e * 2)
  have g1 := HW1.out.thawAt (by omega) (off + e * 2 + 1)
  clear z0 z1 hX1
  go_wp2
  go_still_tail 10, (by kernel_rfl)
  go_wp2
  have hgp : p ≠ g := fun h => NT.out.1 (h ▸ hg)
  have hgm : mb ≠ g := fun h => NT.out.2 (h ▸ hg)
  have HO2 : Hid (Own (((w1.setCell ⟨g, off + e * 2, none⟩ (.int .i64 a)).setCell ⟨g, off + e * 2 + 1, none⟩ (.int .i64 b)).drew) p 45 [.int .i64 ((k : Int) + 1), .map (some mb), .slice (some ⟨g, off, none⟩) (k + 1) cap, .int .i64 e]) := Lib.hid (((HO1.out.off (p := ⟨g, off + e * 2, none⟩) hgp _).off (p := ⟨g, off + e * 2 + 1, none⟩) hgp _).on_drew)
  have HW2 : Hid (Win T 49 2 (((w1.setCell ⟨g, off + e * 2, none⟩ (.int .i64 a)).setCell ⟨g, off + e * 2 + 1, none⟩ (.int .i64 b)).drew) (.slice (some ⟨g, off, none⟩) (k + 1) cap) (k + 1) (rowK (ks.set e (a, b)))) := Lib.hid (by
    have := (HW1.out.set (e * 2) (.int .i64 a) (by omega)).set (e * 2 + 1) (.int .i64 b) (by omega)
    rw [rowK_set ks e (a, b), ← Nat.add_assoc] at this
    exact this)
  have hB2 : But T w1 (((w1.setCell ⟨g, off + e * 2, none⟩ (.int .i64 a)).setCell ⟨g, off + e * 2 + 1, none⟩ (.int .i64 b)).drew) := ((((But.refl T w1).setCell (p := ⟨g, off + e * 2, none⟩) (fun _ => hg) _).setCell (p := ⟨g, off + e * 2 + 1, none⟩) (fun _ => hg) _)).drew
  have HB2 := Lib.hid hB2
  clear c0 c1 c2 c3 f0 f1 f2 f3 x0 x1 y0 y1 g0 g1 HO1 HW1 hB2
  generalize ((w1.setCell ⟨g, off + e * 2, none⟩ (.int .i64 a)).setCell ⟨g, off + e * 2 + 1, none⟩ (.int .i64 b)).drew = w2 at *
  obtain ⟨c0, c1, c2, c3, f0, f1, f2, f3⟩ := HO2.out.four
  have hE : (e + 1) % (k + 1) < 2000 := by have := Nat.mod_lt (e + 1) (show k + 1 > 0 by omega); omega
  have s2 : ¬ ((k : Int) + 1 = 0) := by omega
  have HE := Lib.hid (show ((e : Int) + 1) % ((k : Int) + 1) = (((e + 1) % (k + 1) : Nat) : Int) by simp)
  go_still_tail 13, (by kernel_rfl)
  go_wp2
  go_end0
  have h := H.out
  rw [HK.out] at h ⊢
  rw [HE.out]
  exact ⟨rfl, full_end h HK.out hW0 HB1.out HB2.out HO2.out HW2.out HM1.out _⟩
end Go.Proofs.Ytgpglmponbipbab
