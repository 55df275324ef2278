/- The fixed run of layer 20. -/
import Derived.Test.YtgpglmponbipbabMemoLaw
namespace Go.Proofs.Ytgpglmponbipbab
set_option linter.unusedVariables false
open Go.RowKit Go.Sort

def a1 : Mm := ⟨1, 0, true, 3, 0, none, 0, []⟩
def a2 : Mm := ⟨2, 0, false, 0, 0, none, 0, []⟩
def a3 : Mm := ⟨1, 0, false, 5, 0, none, 0, []⟩
def a4 : Mm := ⟨3, 4, false, 0, 0, none, 0, []⟩
theorem wf_small {a : Int} (h : 0 ≤ a ∧ a ≤ 100) : Wf a := WalkArith.wf_i64 (by omega)

/-- A memo whose blocks lie from N on, and off X. -/
def Sess (N : Nat) (X : Nat → Prop) (w : World) (p : Nat) (most : Int) (L : List Mm) : Prop := ∃ U, MemoRep w p U most L ∧ (∀ g, U g → N ≤ g) ∧ (∀ g, U g → ¬ X g) ∧ (∀ g, X g → g < w.heap.size) ∧ N ≤ w.heap.size
theorem sess_put {N : Nat} {X : Nat → Prop} {w : World} {p : Nat} {most : Int} {L : List Mm} (h : Sess N X w p most L) (x : Mm) (hn : (L.length : Int) ≤ 1000) (wi : Wf x.ins) (wa : Wf x.at_) (hx : x.part = []) :
    Calls Try.prog 9 #[.pointer (some ⟨p, 0, none⟩), x.val] w fun e w' => e = .returned (.tuple #[]) ∧ Below N w w' ∧ But (fun g => ¬ X g) w w' ∧ Sess N X w' p most (putL most L x) := by
  obtain ⟨U, hr, h1, h2, h3, h4⟩ := h
  refine (put_any w p U most L x hn wi wa (by rw [hx]; decide) (fun _ => False) (fun _ _ h => h.elim) (by rw [hx]; exact HasS.nil _ _ _) hr).mono ?_
  rintro e w' ⟨rfl, hb, hr'⟩
  refine ⟨rfl, hb.below h4 h1, hb.mono fun g _ hg => h2 g hg, _, hr', grow_ge h1 h4, fun g hg hX => ?_, fun g hg => Nat.lt_of_lt_of_le (h3 g hg) hb.size, Nat.le_trans h4 hb.size⟩
  rcases hg with hg | hg
  · exact h2 g hg hX
  · have := h3 g hX; omega
theorem Sess.below {N : Nat} {X : Nat → Prop} {w w' : World} {p : Nat} {most : Int} {L : List Mm} (h : Sess N X w p most L) (hb : Below w.heap.size w w') : Sess N X w' p most L := by
  obtain ⟨U, hr, h1, h2, h3, h4⟩ := h
  exact ⟨U, hr.below hb, h1, h2, fun g hg => Nat.lt_of_lt_of_le (h3 g hg) hb.size, Nat.le_trans h4 hb.size⟩
theorem Sess.off {N b : Nat} {X : Nat → Prop} {w w' : World} {p : Nat} {most : Int} {L : List Mm} (h : Sess N X w p most L) (hb : Below w.heap.size w w') (h0 : w.heap.size ≤ b) (h5 : b < w'.heap.size) : Sess N (fun g => g = b) w' p most L := by
  obtain ⟨U, hr, h1, h2, h3, h4⟩ := h
  refine ⟨U, hr.below hb, h1, fun g hg e => ?_, fun g hg => by omega, Nat.le_trans h4 hb.size⟩
  have := hr.lt g hg; omega
theorem sess_get {N : Nat} {X : Nat → Prop} {w : World} {p : Nat} {most : Int} {L : List Mm} (h : Sess N X w p most L) (a b : Int) (wi : Wf a) (wa : Wf b) (z : Mm) (k : Bool) (hz : getL L a b = z) (hk : hasL L a b = k) :
    Calls Try.prog 11 #[.pointer (some ⟨p, 0, none⟩), .int .i64 a, .int .i64 b] w
      fun e w' => ∃ po pc, e = .returned (.tuple #[.agg #[.int .i64 z.ins, .int .i64 z.at_, .bool z.ok, .int .i64 z.en, .int .i64 z.far, .slice po z.part.length pc], .bool k]) ∧ Below w.heap.size w w' := by
  obtain ⟨U, hr, h1, h2, h3, h4⟩ := h
  subst hz hk
  refine (get_any w p U most L a b wi wa hr).mono ?_
  rintro e w' ⟨v, rfl, ⟨po, pc, rfl, _⟩, hb⟩
  exact ⟨po, pc, rfl, hb⟩
theorem sess_len {N : Nat} {X : Nat → Prop} {w : World} {p : Nat} {most : Int} {L : List Mm} (h : Sess N X w p most L) :
    Calls Try.prog 14 #[.pointer (some ⟨p, 0, none⟩)] w fun e w' => e = .returned (.int .i64 (L.length : Int)) ∧ w' = w := by
  obtain ⟨U, hr, h1, h2, h3, h4⟩ := h
  exact len_any w p U most L hr
theorem sess_new (w : World) (N : Nat) (hN : N ≤ w.heap.size) (most : Int) :
    Calls Try.prog 7 #[.int .i64 most] w fun e w' => ∃ p, e = .returned (.pointer (some ⟨p, 0, none⟩)) ∧ Below w.heap.size w w' ∧ Sess N (fun _ => False) w' p most [] := by
  refine (new_any w most).mono ?_
  rintro e w' ⟨p, rfl, hb, hr⟩
  exact ⟨p, rfl, hb, _, hr, fun g hg => by omega, fun _ _ h => h, fun _ h => h.elim, Nat.le_trans hN hb.size⟩

set_option maxHeartbeats 12800000 in
theorem awake_any (w : World) : Calls Try.prog 6 #[] w fun e w' => e = .returned (.bool true) ∧ Below w.heap.size w w' := by
  obtain ⟨N, hNN⟩ : ∃ N, w.heap.size = N := ⟨_, rfl⟩
  have hN : N ≤ w.heap.size := by omega
  have hB : Below N w w := Below.refl _ _
  rw [hNN]
  clear hNN
  go_enter Try.func6, Try.ntmps6
  go_wp2_with fail
  refine (sess_new w N hN 2).mono ?_
  rintro e w0 ⟨p, rfl, hb, hs⟩
  have HS := Lib.hid hs
  have hB := hB.trans (hb.mono hN)
  have hN := Nat.le_trans hN hb.size
  clear hb hs
  go_wp2_with fail
  refine (sess_put HS.out a1 (by decide) (wf_small (by decide)) (wf_small (by decide)) rfl).mono ?_
  rintro e w1 ⟨rfl, hb, hbx, hs⟩
  rw [show putL 2 [] a1 = [a1] from rfl] at hs
  have HS := Lib.hid hs
  have hB := hB.trans hb
  have hN := Nat.le_trans hN hb.size
  clear hb hs hbx
  go_wp2_with fail
  refine (sess_put HS.out a2 (by decide) (wf_small (by decide)) (wf_small (by decide)) rfl).mono ?_
  rintro e w2 ⟨rfl, hb, hbx, hs⟩
  rw [show putL 2 [a1] a2 = [a1, a2] from rfl] at hs
  have HS := Lib.hid hs
  have hB := hB.trans hb
  have hN := Nat.le_trans hN hb.size
  clear hb hs hbx
  go_wp2_with fail
  refine (sess_put HS.out a3 (by decide) (wf_small (by decide)) (wf_small (by decide)) rfl).mono ?_
  rintro e w3 ⟨rfl, hb, hbx, hs⟩
  rw [show putL 2 [a1, a2] a3 = [a3, a2] from rfl] at hs
  have HS := Lib.hid hs
  have hB := hB.trans hb
  have hN := Nat.le_trans hN hb.size
  clear hb hs hbx
  go_wp2_with fail
  refine (sess_get HS.out 1 0 (wf_small (by decide)) (wf_small (by decide)) a3 true rfl rfl).mono ?_
  rintro e w4 ⟨po, pc, rfl, hb⟩
  have HS4 := Lib.hid ((HS.out.below hb).off (b := w4.heap.size) (w' := w4.alloc (.cells #[.int .i64 a3.ins, .int .i64 a3.at_, .bool a3.ok, .int .i64 a3.en, .int .i64 a3.far, .slice po a3.part.length pc] 30)) ((Below.refl _ _).alloc (Nat.le_refl _) _) (Nat.le_refl _) (by simp))
  have hB4 : Below N w (w4.alloc (.cells #[.int .i64 a3.ins, .int .i64 a3.at_, .bool a3.ok, .int .i64 a3.en, .int .i64 a3.far, .slice po a3.part.length pc] 30)) := (hB.trans (hb.mono hN)).alloc (Nat.le_trans hN hb.size) _
  have HO := Lib.hid (Own.fresh w4 30 [.int .i64 a3.ins, .int .i64 a3.at_, .bool a3.ok, .int .i64 a3.en, .int .i64 a3.far, .slice po a3.part.length pc])
  have hN := Nat.le_trans hN hb.size
  clear hb HS hB
  go_wp2_with fail
  have HB := Lib.hid hB4
  clear hB4
  generalize w4.alloc (.cells #[.int .i64 a3.ins, .int .i64 a3.at_, .bool a3.ok, .int .i64 a3.en, .int .i64 a3.far, .slice po a3.part.length pc] 30) = w5 at *
  obtain ⟨q, hq⟩ : ∃ q, w4.heap.size = q := ⟨_, rfl⟩
  rw [hq] at HS4 HO hN ⊢
  clear hq
  have hN := HS4.out.choose_spec.2.2.2.2
  refine (sess_put HS4.out a4 (by decide) (wf_small (by decide)) (wf_small (by decide)) rfl).mono ?_
  rintro e w6 ⟨rfl, hb, hbx, hs⟩
  rw [show putL 2 [a3, a2] a4 = [a2, a4] from rfl] at hs
  have HS := Lib.hid hs
  have HO := Lib.hid (HO.out.but hbx (fun h => h rfl))
  have hB := HB.out.trans hb
  have hN := Nat.le_trans hN hb.size
  clear hb hs hbx HB HS4
  go_wp2_with fail
  refine (sess_get HS.out 1 0 (wf_small (by decide)) (wf_small (by decide)) zeroMm false rfl rfl).mono ?_
  rintro e w7 ⟨po7, pc7, rfl, hb⟩
  have HB7 : Below w6.heap.size w6 (w7.alloc (.cells #[.int .i64 zeroMm.ins, .int .i64 zeroMm.at_, .bool zeroMm.ok, .int .i64 zeroMm.en, .int .i64 zeroMm.far, .slice po7 zeroMm.part.length pc7] 30)) := hb.alloc hb.size _
  go_wp2_with fail
  generalize w7.alloc (.cells #[.int .i64 zeroMm.ins, .int .i64 zeroMm.at_, .bool zeroMm.ok, .int .i64 zeroMm.en, .int .i64 zeroMm.far, .slice po7 zeroMm.part.length pc7] 30) = v7 at *
  have HS := Lib.hid (HS.out.below HB7)
  have HO := Lib.hid (HO.out.under HB7 HO.out.lt)
  have hB := hB.trans (HB7.mono hN)
  have hN := Nat.le_trans hN HB7.size
  clear hb HB7
  refine (sess_get HS.out 2 0 (wf_small (by decide)) (wf_small (by decide)) a2 true rfl rfl).mono ?_
  rintro e w8 ⟨po8, pc8, rfl, hb⟩
  have HB8 : Below v7.heap.size v7 (w8.alloc (.cells #[.int .i64 a2.ins, .int .i64 a2.at_, .bool a2.ok, .int .i64 a2.en, .int .i64 a2.far, .slice po8 a2.part.length pc8] 30)) := hb.alloc hb.size _
  go_wp2_with fail
  generalize w8.alloc (.cells #[.int .i64 a2.ins, .int .i64 a2.at_, .bool a2.ok, .int .i64 a2.en, .int .i64 a2.far, .slice po8 a2.part.length pc8] 30) = v8 at *
  have HS := Lib.hid (HS.out.below HB8)
  have HO := Lib.hid (HO.out.under HB8 HO.out.lt)
  have hB := hB.trans (HB8.mono hN)
  have hN := Nat.le_trans hN HB8.size
  clear hb HB8
  refine (sess_get HS.out 3 4 (wf_small (by decide)) (wf_small (by decide)) a4 true rfl rfl).mono ?_
  rintro e w9 ⟨po9, pc9, rfl, hb⟩
  have HB9 : Below v8.heap.size v8 (w9.alloc (.cells #[.int .i64 a4.ins, .int .i64 a4.at_, .bool a4.ok, .int .i64 a4.en, .int .i64 a4.far, .slice po9 a4.part.length pc9] 30)) := hb.alloc hb.size _
  go_wp2_with fail
  generalize w9.alloc (.cells #[.int .i64 a4.ins, .int .i64 a4.at_, .bool a4.ok, .int .i64 a4.en, .int .i64 a4.far, .slice po9 a4.part.length pc9] 30) = v9 at *
  have HS := Lib.hid (HS.out.below HB9)
  have HO := Lib.hid (HO.out.under HB9 HO.out.lt)
  have hB := hB.trans (HB9.mono hN)
  have hN := Nat.le_trans hN HB9.size
  clear hb HB9
  refine (sess_new v9 N hN 0).mono ?_
  rintro e w10 ⟨p2, rfl, hb, hs⟩
  have HT := Lib.hid hs
  have HS := Lib.hid (HS.out.below hb)
  have HO := Lib.hid (HO.out.under hb HO.out.lt)
  have hB := hB.trans (hb.mono hN)
  have hN := Nat.le_trans hN hb.size
  clear hb hs
  go_wp2_with fail
  obtain ⟨U0, hU0, _, _, _, _⟩ := HT.out
  refine (put_none _ p2 U0 0 [] (by decide) hU0 1 0 0 0 false none 0 0).mono ?_
  rintro e w11 ⟨rfl, hb⟩
  have HT := Lib.hid (HT.out.below hb)
  have HS := Lib.hid (HS.out.below hb)
  have HO := Lib.hid (HO.out.under hb HO.out.lt)
  have hB := hB.trans (hb.mono hN)
  have hN := Nat.le_trans hN hb.size
  clear hb hU0
  go_wp2_with fail
  refine (sess_get HT.out 1 0 (wf_small (by decide)) (wf_small (by decide)) zeroMm false rfl rfl).mono ?_
  rintro e w12 ⟨po12, pc12, rfl, hb⟩
  have HB12 : Below w11.heap.size w11 (w12.alloc (.cells #[.int .i64 zeroMm.ins, .int .i64 zeroMm.at_, .bool zeroMm.ok, .int .i64 zeroMm.en, .int .i64 zeroMm.far, .slice po12 zeroMm.part.length pc12] 30)) := hb.alloc hb.size _
  have HS := Lib.hid (HS.out.below HB12)
  have HT := Lib.hid (HT.out.below HB12)
  have HO := Lib.hid (HO.out.under HB12 HO.out.lt)
  have hB := hB.trans (HB12.mono hN)
  have hN := Nat.le_trans hN HB12.size
  clear hb HB12
  have o3 : (w12.alloc (.cells #[.int .i64 zeroMm.ins, .int .i64 zeroMm.at_, .bool zeroMm.ok, .int .i64 zeroMm.en, .int .i64 zeroMm.far, .slice po12 zeroMm.part.length pc12] 30)).cell? ⟨q, 3, none⟩ = some (.int .i64 5) := HO.out.cell 3
  have o2 : (w12.alloc (.cells #[.int .i64 zeroMm.ins, .int .i64 zeroMm.at_, .bool zeroMm.ok, .int .i64 zeroMm.en, .int .i64 zeroMm.far, .slice po12 zeroMm.part.length pc12] 30)).cell? ⟨q, 2, none⟩ = some (.bool false) := HO.out.cell 2
  go_wp2_with fail
  refine (sess_len HS.out).mono ?_
  rintro e w13 ⟨rfl, rfl⟩
  go_wp2_with fail
  refine (sess_len HT.out).mono ?_
  rintro e w14 ⟨rfl, rfl⟩
  go_wp2_with fail
  go_ret
  exact ⟨rfl, hB⟩
end Go.Proofs.Ytgpglmponbipbab
