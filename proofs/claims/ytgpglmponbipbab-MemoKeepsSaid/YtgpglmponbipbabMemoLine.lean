/- The walk of Memo.line. -/
import Derived.Test.YtgpglmponbipbabMapIs
import Derived.Test.YtgpglmponbipbabNd
import Derived.Test.YtgpglmponbipbabSteps
namespace Go.Proofs.Ytgpglmponbipbab
set_option linter.unusedVariables false
open Go.RowKit Go.Sort

theorem info_place : (Try.prog.info? 49).map (fun i => (i.zero, i.size, i.bytes)) = some (some (.agg #[.int .i64 0, .int .i64 0]), 2, 16) := by kernel_rfl
def rowK (ks : List (Int × Int)) : List Value := ks.flatMap fun k => [.int .i64 k.1, .int .i64 k.2]
theorem rowK_len (ks : List (Int × Int)) : (rowK ks).length = ks.length * 2 := by
  induction ks with
  | nil => rfl
  | cons x L ih => show (_ ++ rowK L).length = _; rw [List.length_append, ih]; simp; omega
theorem rowK_snoc (ks : List (Int × Int)) (k : Int × Int) : rowK ks ++ [.int .i64 k.1, .int .i64 k.2] = rowK (ks ++ [k]) := by simp [rowK]
theorem rowK_get : ∀ (ks : List (Int × Int)) (i : Nat) (k : Int × Int), ks[i]? = some k → (rowK ks)[i * 2]? = some (.int .i64 k.1) ∧ (rowK ks)[i * 2 + 1]? = some (.int .i64 k.2)
  | y :: L, 0, x, h => by simp at h; subst h; exact ⟨rfl, rfl⟩
  | y :: L, i + 1, x, h => by
    obtain ⟨a, b⟩ := rowK_get L i x (by simpa using h)
    have e : rowK (y :: L) = [.int .i64 y.1, .int .i64 y.2] ++ rowK L := rfl
    rw [e, List.getElem?_append_right (by simp; omega), List.getElem?_append_right (by simp; omega)]
    simp only [List.length_cons, List.length_nil]
    rw [show (i + 1) * 2 - (0 + 1 + 1) = i * 2 by omega, show (i + 1) * 2 + 1 - (0 + 1 + 1) = i * 2 + 1 by omega]
    exact ⟨a, b⟩
theorem rowK_set : ∀ (ks : List (Int × Int)) (i : Nat) (k : Int × Int), ((rowK ks).set (i * 2) (.int .i64 k.1)).set (i * 2 + 1) (.int .i64 k.2) = rowK (ks.set i k)
  | [], i, x => by simp [rowK]
  | y :: L, 0, x => by simp [rowK]
  | y :: L, i + 1, x => by
    have e : rowK (y :: L) = .int .i64 y.1 :: .int .i64 y.2 :: rowK L := rfl
    rw [e, show (i + 1) * 2 + 1 = (i * 2 + 1) + 1 + 1 by omega, show (i + 1) * 2 = i * 2 + 1 + 1 by omega, List.set_cons_succ, List.set_cons_succ, List.set_cons_succ, List.set_cons_succ, rowK_set L i x]
    rfl

/-- The program's memo: its own four cells, its map, its line. -/
structure Inner (w : World) (p mb : Nat) (T : Nat → Prop) (most e : Int) (ov : Value) (n : Nat) (f : Int → Int → Option Value) (ks : List (Int × Int)) : Prop where
  own : Own w p 45 [.int .i64 most, .map (some mb), ov, .int .i64 e]
  map : MapIs w mb n f
  win : Win T 49 2 w ov ks.length (rowK ks)
  np : ¬ T p
  nm : ¬ T mb
  lt : ∀ g, T g → g < w.heap.size
theorem Inner.ne {w : World} {p mb n : Nat} {T : Nat → Prop} {most e : Int} {ov : Value} {f : Int → Int → Option Value} {ks : List (Int × Int)} (h : Inner w p mb T most e ov n f ks) : mb ≠ p := by
  intro he
  have h1 := h.own
  rw [← he] at h1
  exact h.map.not_cells h1
/-- What it may write. -/
def Terr (p mb : Nat) (T : Nat → Prop) (g : Nat) : Prop := g = p ∨ g = mb ∨ T g

theorem line_room_end {w W W1 w' : World} {p mb : Nat} {T : Nat → Prop} {most e : Int} {ov v' : Value} {n k : Nat} {f : Int → Int → Option Value} {ks : List (Int × Int)} {a b : Int}
    (h : Inner w p mb T most e ov n f ks) (hW0 : Below w.heap.size w W) (hW1 : But (fun _ => False) W W1) (hk : ks.length = k) (hw : Win (fun g => T g ∨ W1.heap.size ≤ g) 49 2 w' v' (k + 1) (rowK ks ++ [.int .i64 a, .int .i64 b])) (hb : But T W1 w') :
    But (Terr p mb T) w (w'.setCell ⟨p, 2, none⟩ v') ∧ ∃ ov' T', Inner (w'.setCell ⟨p, 2, none⟩ v') p mb T' most e ov' n f (ks ++ [(a, b)]) ∧ ∀ g, T' g → T g ∨ w.heap.size ≤ g := by
  have hs := Nat.le_trans hW0.size hW1.size
  have hp := h.own.lt
  have hm := h.map.lt
  have hne := h.ne
  have B1 : But (fun _ => False) w W1 := (But.of_below hW0).trans hW1 (fun _ _ h => h)
  have B2 : But T w w' := B1.trans' hb
  have O2 := ((h.own.but B2 h.np).put 2 v')
  have M2 := (h.map.keep B2 h.nm).keep (S := fun g => g = p) (But.put w' p 2 v') (by omega)
  refine ⟨(B2.mono fun g _ hg => .inr (.inr hg)).setCell (fun _ => .inl rfl) v', v', fun g => (T g ∨ W1.heap.size ≤ g) ∧ g < w'.heap.size, ⟨O2, M2, ?_, ?_, ?_, fun g hg => by simpa [World.setCell] using hg.2⟩, fun g hg => ?_⟩
  · rw [rowK_snoc _ (a, b)] at hw
    rw [show (ks ++ [(a, b)]).length = k + 1 by simp [hk]]
    exact (hw.mono (T := fun g => (T g ∨ W1.heap.size ≤ g) ∧ g < w'.heap.size) (fun g hl hg => ⟨hg, hl⟩)).keep (T := fun g => g = p) (But.put w' p 2 v') (fun g _ hg e => by
      subst e
      rcases hg.1 with hg | hg
      · exact h.np hg
      · omega)
  · rintro ⟨hg | hg, _⟩
    · exact h.np hg
    · omega
  · rintro ⟨hg | hg, _⟩
    · exact h.nm hg
    · omega
  · rcases hg.1 with hg | hg
    · exact .inl hg
    · exact .inr (by omega)

set_option maxHeartbeats 1600000 in
theorem line_room (w : World) (p mb : Nat) (T : Nat → Prop) (most e : Int) (ov : Value) (n : Nat) (f : Int → Int → Option Value) (ks : List (Int × Int)) (a b : Int) (hn : (ks.length : Int) ≤ 1000) (hr : (ks.length : Int) < most) (h : Inner w p mb T most e ov n f ks) :
    Calls Try.prog 16 #[.pointer (some ⟨p, 0, none⟩), .agg #[.int .i64 a, .int .i64 b]] w
      fun e' w' => e' = .returned (.tuple #[]) ∧ But (Terr p mb T) w w' ∧ ∃ ov' T', Inner w' p mb T' most e ov' n f (ks ++ [(a, b)]) ∧ ∀ g, T' g → T g ∨ w.heap.size ≤ g := by
  obtain ⟨i0, hi, hz0, hz1, hz2⟩ := info_parts info_place
  have IP := Lib.hid (And.intro hi (And.intro hz0 (And.intro hz1 hz2)))
  obtain ⟨c0, c1, c2, c3, f0, f1, f2, f3⟩ := h.own.four
  obtain ⟨ao, cap, rfl, hcap, _, _⟩ := h.win.form
  have H := Lib.hid h
  have hp := h.own.lt
  clear h
  obtain ⟨k, hk⟩ : ∃ k, ks.length = k := ⟨_, rfl⟩
  have HK := Lib.hid hk
  have HR : Hid ((rowK ks).length = k * 2) := by rw [← hk]; exact rowK_len ks
  rw [hk] at c2 hn hr hcap
  clear hk
  go_enter Try.func16, Try.ntmps16
  go_wp2_with fail
  go_quiet (fail)
  go_wp2_with fail
  have hW0 : Below w.heap.size w ((w.alloc (.cells #[.int .i64 a, .int .i64 b] 49)).drewN nq) := below_drewN ((Below.refl _ _).alloc (Nat.le_refl _) _) _
  have b0 : ((w.alloc (.cells #[.int .i64 a, .int .i64 b] 49)).drewN nq).cell? ⟨w.heap.size, 0, none⟩ = some (.int .i64 a) := (Own.fresh w _ [.int .i64 a, .int .i64 b]).cell 0
  have b1 : ((w.alloc (.cells #[.int .i64 a, .int .i64 b] 49)).drewN nq).cell? ⟨w.heap.size, 1, none⟩ = some (.int .i64 b) := (Own.fresh w _ [.int .i64 a, .int .i64 b]).cell 1
  generalize (w.alloc (.cells #[.int .i64 a, .int .i64 b] 49)).drewN nq = W at *
  obtain ⟨c0, c1, c2, c3, f0, f1, f2, f3⟩ : W.cell? ⟨p, 0, none⟩ = some (.int .i64 most) ∧ W.cell? ⟨p, 1, none⟩ = some (.map (some mb)) ∧ W.cell? ⟨p, 2, none⟩ = some (.slice ao k cap) ∧ W.cell? ⟨p, 3, none⟩ = some (.int .i64 e) ∧
    W.frozen? ⟨p, 0, none⟩ = false ∧ W.frozen? ⟨p, 1, none⟩ = false ∧ W.frozen? ⟨p, 2, none⟩ = false ∧ W.frozen? ⟨p, 3, none⟩ = false := by
    have := (H.out.own.under hW0 hp).four
    rw [HK.out] at this
    exact this
  have HO : Hid (Own W p 45 [.int .i64 most, .map (some mb), .slice ao k cap, .int .i64 e]) := Lib.hid (by have := H.out.own.under hW0 hp; rw [HK.out] at this; exact this)
  have HW : Hid (Win T 49 2 W (.slice ao k cap) k (rowK ks)) := Lib.hid (by have := H.out.win.below hW0; rw [HK.out] at this; exact this)
  have HM : Hid (MapIs W mb n f) := Lib.hid (H.out.map.keep (S := fun _ => False) (But.of_below hW0) (fun h => h))
  have hsz := hW0.size
  have K1 : k + 1 ≤ maxLen := by unfold maxLen; omega
  have K2 : (k + 1) * 16 ≤ 140737488355328 := by omega
  have FN := Lib.hid (fresh_news W 49 [.int .i64 a, .int .i64 b])
  have c2a : (W.alloc (.cells #[.int .i64 a, .int .i64 b] 49)).cell? ⟨p, 2, none⟩ = some (.slice ao k cap) := (HO.out.on_alloc _).cell 2
  have NP := Lib.hid H.out.np
  have NM := Lib.hid H.out.nm
  clear hi hz0 hz1 hz2
  go_region_law ((refine step_append_win rfl _ _ 43 rfl T 49 _ _ 2 16 Try.underlying43 IP.out.1 IP.out.2.1 IP.out.2.2.1 IP.out.2.2.2 rfl (by decide) _ k (rowK ks) rfl (HW.out.below ((Below.refl _ _).alloc (Nat.le_refl _) _).drew) ⟨W.heap.size, 0, none⟩ 1 1 [.int .i64 a, .int .i64 b] rfl rfl FN.out (by intro u hu; simp at hu; rcases hu with rfl | rfl <;> rfl) K1 K2 ?_); intro v' w' hw hb; obtain ⟨g, off, cap', rfl, hg, hle, hlt⟩ := hw.has (by omega); have hO := Lib.hid (((HO.out.on_alloc _).on_drew).but hb NP.out); obtain ⟨d0, d1, d2, d3, e0, e1, e2, e3⟩ := hO.out.four; have hw2 := Lib.hid hw; have hb2 := Lib.hid hb; clear hw hb)
  all_goals
    go_wp2
    refine bodyPost_ret (results_none rfl _ _ _) rfl ?_
    exact ⟨rfl, line_room_end H.out hW0 ((But.refl _ _).alloc _).drew HK.out hw2.out hb2.out⟩

end Go.Proofs.Ytgpglmponbipbab
