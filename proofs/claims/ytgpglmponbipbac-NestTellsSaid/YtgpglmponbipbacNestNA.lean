/- The walks of Leaf and Open, (*eyot/nest.Nest). -/
import Derived.Test.YtgpglmponbipbacNestRep
namespace Go.Proofs.Ytgpglmponbipbac
set_option linter.unusedVariables false
open Go.RowKit Go.Sort

set_option maxHeartbeats 3200000 in
theorem nleaf_any (w : World) (p : Nat) (U : Nat → Prop) (L : List Nd) (top : Int) (kind fr tt : Int) (hn : (L.length : Int) ≤ 1000) (h : Nest 56 w p U L top) :
    Calls Try.prog 9 #[.pointer (some ⟨p, 0, none⟩), .int .i64 kind, .int .i64 fr, .int .i64 tt] w
      fun e w' => e = .returned (.tuple #[]) ∧ But U w w' ∧ Nest 56 w' p (Grow U w w') (L ++ [⟨kind, ⟨#[]⟩, fr, tt, top⟩]) top := by
  obtain ⟨v, T, h⟩ := h
  obtain ⟨i0, hi, hz0, hz1, hz2⟩ := info_parts info_leaf
  have IP := Lib.hid (And.intro hi (And.intro hz0 (And.intro hz1 hz2)))
  clear hi hz0 hz1 hz2
  obtain ⟨c0, c1, f0, f1⟩ := h.own.two
  obtain ⟨ao, cap, rfl, hcap, _, _⟩ := h.win.form
  have H := Lib.hid h
  have hp := h.own.lt
  clear h
  obtain ⟨k, hk⟩ : ∃ k, L.length = k := ⟨_, rfl⟩
  have HK := Lib.hid hk
  rw [hk] at c0 hn hcap
  clear hk
  have HO : Hid (Own w p 56 [.slice ao k cap, .int .i64 top]) := Lib.hid (by have := H.out.own; rw [HK.out] at this; exact this)
  have HW : Hid (Win T 53 5 w (.slice ao k cap) k (rowL L)) := Lib.hid (by have := H.out.win; rw [HK.out] at this; exact this)
  have c0a : (w.alloc (.cells #[.int .i64 kind, .string ⟨#[]⟩, .int .i64 fr, .int .i64 tt, .int .i64 top] 53)).cell? ⟨p, 0, none⟩ = some (.slice ao k cap) := (HO.out.on_alloc _).cell 0
  have K1 : k + 1 ≤ maxLen := by unfold maxLen; omega
  have K2 : (k + 1) * 48 ≤ 140737488355328 := by omega
  have FN := Lib.hid (fresh_news w 53 [.int .i64 kind, .string ⟨#[]⟩, .int .i64 fr, .int .i64 tt, .int .i64 top])
  have NP := Lib.hid H.out.np
  go_enter Try.func9, Try.ntmps9
  go_wp2_with fail
  go_region_law ((refine step_append_win rfl _ _ 23 rfl T 53 _ _ 5 48 Try.underlying23 IP.out.1 IP.out.2.1 IP.out.2.2.1 IP.out.2.2.2 rfl (by decide) _ k (rowL L) rfl (HW.out.below ((Below.refl _ _).alloc (Nat.le_refl _) _).drew) ⟨w.heap.size, 0, none⟩ 1 1 [.int .i64 kind, .string ⟨#[]⟩, .int .i64 fr, .int .i64 tt, .int .i64 top] rfl rfl FN.out (by intro u hu; simp at hu; rcases hu with rfl | rfl | rfl | rfl | rfl <;> rfl) K1 K2 ?_); intro v' w' hw hb; obtain ⟨g, off, cap', rfl, hg, hle, hlt⟩ := hw.has (by omega); have hO := Lib.hid (((HO.out.on_alloc _).on_drew).but hb NP.out); obtain ⟨d0, d1, e0, e1⟩ := hO.out.two; have hw2 := Lib.hid hw; have hb2 := Lib.hid hb; clear hw hb)
  all_goals
    go_wp2
    go_end0
    obtain ⟨r1, r2⟩ := H.out.grown (x := ⟨kind, ⟨#[]⟩, fr, tt, top⟩) HK.out ((But.refl _ _).alloc _).drew hw2.out hb2.out rfl ⟨H.out.ups.2.1, H.out.ups.2.2⟩
    exact ⟨rfl, r1, _, _, r2⟩

set_option maxHeartbeats 3200000 in
theorem nopen_any (w : World) (p : Nat) (U : Nat → Prop) (L : List Nd) (top : Int) (kind : Int) (nm : ByteArray) (fr : Int) (hn : (L.length : Int) ≤ 1000) (h : Nest 56 w p U L top) :
    Calls Try.prog 11 #[.pointer (some ⟨p, 0, none⟩), .int .i64 kind, .string nm, .int .i64 fr] w
      fun e w' => e = .returned (.tuple #[]) ∧ But U w w' ∧ Nest 56 w' p (Grow U w w') (L ++ [⟨kind, nm, fr, fr, top⟩]) (L.length : Int) := by
  obtain ⟨v, T, h⟩ := h
  obtain ⟨i0, hi, hz0, hz1, hz2⟩ := info_parts info_leaf
  have IP := Lib.hid (And.intro hi (And.intro hz0 (And.intro hz1 hz2)))
  clear hi hz0 hz1 hz2
  obtain ⟨c0, c1, f0, f1⟩ := h.own.two
  obtain ⟨ao, cap, rfl, hcap, _, _⟩ := h.win.form
  have H := Lib.hid h
  have hp := h.own.lt
  clear h
  obtain ⟨k, hk⟩ : ∃ k, L.length = k := ⟨_, rfl⟩
  have HK := Lib.hid hk
  rw [hk] at c0 hn hcap
  clear hk
  have HO : Hid (Own w p 56 [.slice ao k cap, .int .i64 top]) := Lib.hid (by have := H.out.own; rw [HK.out] at this; exact this)
  have HW : Hid (Win T 53 5 w (.slice ao k cap) k (rowL L)) := Lib.hid (by have := H.out.win; rw [HK.out] at this; exact this)
  have c0a : (w.alloc (.cells #[.int .i64 kind, .string nm, .int .i64 fr, .int .i64 fr, .int .i64 top] 53)).cell? ⟨p, 0, none⟩ = some (.slice ao k cap) := (HO.out.on_alloc _).cell 0
  have K1 : k + 1 ≤ maxLen := by unfold maxLen; omega
  have K2 : (k + 1) * 48 ≤ 140737488355328 := by omega
  have FN := Lib.hid (fresh_news w 53 [.int .i64 kind, .string nm, .int .i64 fr, .int .i64 fr, .int .i64 top])
  have NP := Lib.hid H.out.np
  go_enter Try.func11, Try.ntmps11
  go_wp2_with fail
  go_region_law ((refine step_append_win rfl _ _ 23 rfl T 53 _ _ 5 48 Try.underlying23 IP.out.1 IP.out.2.1 IP.out.2.2.1 IP.out.2.2.2 rfl (by decide) _ k (rowL L) rfl (HW.out.below ((Below.refl _ _).alloc (Nat.le_refl _) _).drew) ⟨w.heap.size, 0, none⟩ 1 1 [.int .i64 kind, .string nm, .int .i64 fr, .int .i64 fr, .int .i64 top] rfl rfl FN.out (by intro u hu; simp at hu; rcases hu with rfl | rfl | rfl | rfl | rfl <;> rfl) K1 K2 ?_); intro v' w' hw hb; obtain ⟨g, off, cap', rfl, hg, hle, hlt⟩ := hw.has (by omega); have hO := Lib.hid (((HO.out.on_alloc _).on_drew).but hb NP.out); obtain ⟨d0, d1, e0, e1⟩ := hO.out.two; have hw2 := Lib.hid hw; have hb2 := Lib.hid hb; clear hw hb)
  all_goals
    obtain ⟨r1, r2⟩ := H.out.grown (x := ⟨kind, nm, fr, fr, top⟩) HK.out ((But.refl _ _).alloc _).drew hw2.out hb2.out rfl ⟨H.out.ups.2.1, H.out.ups.2.2⟩
    have R1 := Lib.hid r1
    have R2 := Lib.hid r2
    clear r1 r2
    go_wp2
    go_end0
    have hlk := HK.out
    rw [hlk]
    refine ⟨rfl, R1.out.setCell (p := ⟨p, 1, none⟩) (fun _ => H.out.terr p (.inl rfl)) _, _, _, R2.out.own.put 1 _, R2.out.win.keep (But.put _ p 1 _) (fun g _ hg e => R2.out.np (e ▸ hg)), R2.out.np, fun g hg => ?_, fun g hg => ?_, ?_⟩
    · rcases R2.out.terr g hg with h | h
      · exact .inl h
      · exact .inr (by simpa [World.setCell] using h)
    · rcases hg with h | h
      · exact Nat.lt_of_lt_of_le (H.out.lt g h) (by have := R1.out.size; simpa [World.setCell] using this)
      · exact h.2
    · exact H.out.ups.snoc ⟨H.out.ups.2.1, H.out.ups.2.2⟩ ⟨by omega, by omega⟩

end Go.Proofs.Ytgpglmponbipbac
