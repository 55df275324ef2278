/- The law NestNodes, walked. -/
import Derived.Test.YtgpglmponbipbacNodesK
namespace Go.Proofs.Ytgpglmponbipbac
set_option linter.unusedVariables false
open Go.RowKit Go.Sort

set_option maxRecDepth 1000000 in
set_option maxHeartbeats 12800000 in
theorem nodes_walk (A : List Nat) (ao : Option Addr) (ac : Nat) (w : World) (hl : HasB w.heap.size w ao A) :
    Calls Try.prog 5 #[.slice ao A.length ac] w fun e w' => e = .returned (.bool true) ∧ Below w.heap.size w w' := by
  obtain ⟨N, hNN⟩ : ∃ N, w.heap.size = N := ⟨_, rfl⟩
  have hN : N ≤ w.heap.size := by omega
  rw [hNN] at hl ⊢
  have HL := Lib.hid hl
  clear hNN hl
  obtain ⟨n, hnn⟩ : ∃ n, A.length = n := ⟨_, rfl⟩
  have HN := Lib.hid hnn
  rw [hnn]
  clear hnn
  by_cases h1 : (n : Int) ≤ 60
  · go_enter Try.func5, Try.ntmps5
    go_wp2_with fail
    refine (ns_new N hN).mono ?_
    rintro e w0 ⟨p, rfl, hb, hs⟩
    have H0 := Lib.hid (Kn.start hs (hb.mono hN))
    clear hb hs
    go_wp2_with fail
    go_loopw [4, 5, 6] (fun b4 b5 b6 wr => ∃ k : Nat, b6 = .int .i64 (k : Int) ∧ (k : Int) ≤ n ∧ ∃ L top S To Tw, L.length ≤ k ∧ S.length ≤ k ∧ Hid (Stk L top S) ∧ Hid (Kn N w wr p b4 b5 L top S L To Tw))
      (fun _ _ b6 _ => n - (intOf b6).toNat)
    case atStart => exact ⟨0, rfl, by omega, [], -1, [], _, _, by simp, by simp, Lib.hid rfl, H0⟩
    case round =>
      obtain ⟨k, rfl, hk2, L, top, S, To, Tw, hlk, hsk, HS, H⟩ := hrel
      clear H0
      obtain ⟨oo, oc, rfl, hoc, -, -⟩ := H.out.wo.form
      obtain ⟨wo, wc, rfl, hwc, -, -⟩ := H.out.ww.form
      obtain ⟨m, hm⟩ : ∃ m, L.length = m := ⟨_, rfl⟩
      have HM := Lib.hid hm
      rw [hm] at hlk hwc ⊢
      rw [hm] at H
      clear hm
      obtain ⟨i0, hi, hz0, hz1, hz2⟩ := info_parts info_leaf
      have IL := Lib.hid (And.intro hi (And.intro hz0 (And.intro hz1 hz2)))
      clear hi hz0 hz1 hz2
      obtain ⟨j0, hj, hy0, hy1, hy2⟩ := info_parts info_int
      have IP := Lib.hid (And.intro hj (And.intro hy0 (And.intro hy1 hy2)))
      clear hj hy0 hy1 hy2
      have K1 : m + 1 ≤ maxLen := by unfold maxLen; omega
      have K2 : (m + 1) * 48 ≤ 140737488355328 := by omega
      cases S with
      | nil =>
        have ht : top = -1 := HS.out
        subst ht
        rw [List.length_nil] at H ⊢
        have Q1 : 0 + 1 ≤ maxLen := by unfold maxLen; omega
        have Q2 : (0 + 1) * 8 ≤ 140737488355328 := by omega
        have HSL : Hid (([] : List Nat).length = 0) := Lib.hid rfl
        by_cases h3 : (k : Int) < n
        · obtain ⟨c, hc⟩ : ∃ c, A[k]? = some c := ⟨_, List.getElem?_eq_getElem (by have := HN.out; omega)⟩
          obtain ⟨hc256, g, off, rfl, hg, cc⟩ := (HL.out.keep H.out.bel) k c hc
          clear hc
          have h4 : c % 3 = 0 ∨ c % 3 = 1 ∨ c % 3 = 2 := by omega
          rcases h4 with h4 | h4 | h4
          · have h5 : (((c : Int) % 3) == 0) = true := by rw [beq_iff_eq]; omega
            go_wp2_with fail
            refine (ns_leaf H.out.ns 4 k ((k : Int) + 2) (by rw [HM.out]; omega)).mono ?_
            rintro e w5 ⟨rfl, hb5, hx5, hs5⟩
            have HK5 := Lib.hid (H.out.nest hb5 hx5 hs5)
            clear hb5 hx5 hs5 cc H
            have FL := Lib.hid (fresh_news w5 53 [.int .i64 4, .string ⟨#[]⟩, .int .i64 (k : Int), .int .i64 ((k : Int) + 2), .int .i64 (-1)])
            have HWW := Lib.hid (show Win Tw 53 5 w5 (.slice wo m wc) m (rowL L) from by have := HK5.out.ww; rw [HM.out] at this; exact this)
            go_wp2_with (first
              | (at_builtin; refine wpList_append_win _ rfl _ _ 23 rfl Tw 53 _ _ 5 48 Try.underlying23 IL.out.1 IL.out.2.1 IL.out.2.2.1 IL.out.2.2.2 rfl (by decide) _ m (rowL L) rfl (HWW.out.below ((Below.refl _ _).alloc (Nat.le_refl _) _)) ⟨w5.heap.size, 0, none⟩ 1 1 [.int .i64 4, .string ⟨#[]⟩, .int .i64 (k : Int), .int .i64 ((k : Int) + 2), .int .i64 (-1)] rfl rfl FL.out (by intro u hu; simp at hu; rcases hu with rfl | rfl | rfl | rfl | rfl <;> rfl) K1 K2 ?_))
            intro v6 w6 hw6 hb6
            have HKw6 := Lib.hid (HK5.out.want (y := ⟨4, ⟨#[]⟩, (k : Int), (k : Int) + 2, (-1)⟩) HM.out.symm hw6 hb6)
            clear hw6 hb6 FL HWW HK5
            go_wp2
            go_roundw
            case rel => exact ⟨k + 1, by go_num, by omega, _, _, _, _, _, by simp; have := HM.out; omega, by have := HSL.out; omega, Lib.hid HS.out.snoc, HKw6⟩
            case measure => simp [intOf]; omega
          · have h5 : (((c : Int) % 3) == 0) = false := by rw [beq_eq_false_iff_ne]; omega
            have h6 : (((c : Int) % 3) == 1) = true := by rw [beq_iff_eq]; omega
            go_wp2_with fail
            refine (ns_open H.out.ns 2 ⟨#[108]⟩ k (by rw [HM.out]; omega)).mono ?_
            rintro e w5 ⟨rfl, hb5, hx5, hs5⟩
            rw [HM.out] at hs5
            have HK5 := Lib.hid (H.out.nest hb5 hx5 hs5)
            clear hb5 hx5 hs5 cc H
            have FN := Lib.hid (fresh_news w5 3 [.int .i64 (m : Int)])
            have HWO := Lib.hid (show Win To 3 1 w5 (.slice oo 0 oc) 0 (opn []) from by have := HK5.out.wo; rw [HSL.out] at this; exact this)
            go_wp2_with (first
              | (at_builtin; refine wpList_append_win _ rfl _ _ 51 rfl To 3 _ _ 1 8 Try.underlying51 IP.out.1 IP.out.2.1 IP.out.2.2.1 IP.out.2.2.2 rfl (by decide) _ 0 (opn []) rfl (HWO.out.below ((Below.refl _ _).alloc (Nat.le_refl _) _)) ⟨w5.heap.size, 0, none⟩ 1 1 [.int .i64 (m : Int)] rfl rfl FN.out (by intro u hu; simp at hu; subst hu; rfl) Q1 Q2 ?_))
            intro v6 w6 hw6 hb6
            have HK6 := Lib.hid (HK5.out.opens (t := m) rfl hw6 hb6)
            clear hw6 hb6 FN HWO HK5
            have FL := Lib.hid (fresh_news w6 53 [.int .i64 2, .string ⟨#[108]⟩, .int .i64 (k : Int), .int .i64 (k : Int), .int .i64 (-1)])
            have HWW := Lib.hid (show Win Tw 53 5 w6 (.slice wo m wc) m (rowL L) from by have := HK6.out.ww; rw [HM.out] at this; exact this)
            go_wp2_with (first
              | (at_builtin; refine wpList_append_win _ rfl _ _ 23 rfl Tw 53 _ _ 5 48 Try.underlying23 IL.out.1 IL.out.2.1 IL.out.2.2.1 IL.out.2.2.2 rfl (by decide) _ m (rowL L) rfl (HWW.out.below ((Below.refl _ _).alloc (Nat.le_refl _) _)) ⟨w6.heap.size, 0, none⟩ 1 1 [.int .i64 2, .string ⟨#[108]⟩, .int .i64 (k : Int), .int .i64 (k : Int), .int .i64 (-1)] rfl rfl FL.out (by intro u hu; simp at hu; rcases hu with rfl | rfl | rfl | rfl | rfl <;> rfl) K1 K2 ?_))
            intro v7 w7 hw6 hb6
            have HKw7 := Lib.hid (HK6.out.want (y := ⟨2, ⟨#[108]⟩, (k : Int), (k : Int), (-1)⟩) HM.out.symm hw6 hb6)
            clear hw6 hb6 FL HWW HK6
            go_wp2
            go_roundw
            case rel => exact ⟨k + 1, by go_num, by omega, _, _, _, _, _, by simp; have := HM.out; omega, by rw [List.length_cons]; have := HSL.out; omega, Lib.hid (by have h := HS.out.opened (y := ⟨2, ⟨#[108]⟩, (k : Int), (k : Int), (-1)⟩) rfl; rw [HM.out] at h; exact h), HKw7⟩
            case measure => simp [intOf]; omega
          · have h5 : (((c : Int) % 3) == 0) = false := by rw [beq_eq_false_iff_ne]; omega
            have h6 : (((c : Int) % 3) == 1) = false := by rw [beq_eq_false_iff_ne]; omega
            go_wp2_with fail
            refine (ns_close_no H.out.ns k (by omega)).mono ?_
            rintro e w5 ⟨rfl, rfl⟩
            go_wp2
            go_roundw
            case rel => exact ⟨k + 1, by go_num, by omega, _, _, _, _, _, by have := HM.out; omega, by simp, HS, H⟩
            case measure => simp [intOf]; omega
        · have h3b : (n : Int) ≤ (k : Int) := by omega
          go_wp2_with fail
          refine (awake_any _).mono ?_
          rintro e w5 ⟨rfl, hb5⟩
          have HK5 := Lib.hid (H.out.still hb5)
          clear hb5 H
          go_wp2_with fail
          refine (ns_tree HK5.out.ns (by rw [HM.out]; omega)).mono ?_
          rintro e w6 ⟨xo, xc, rfl, hT, hb6⟩
          have HT6 := Lib.hid hT
          have HK6 := Lib.hid (HK5.out.still hb6)
          clear hb6 hT HK5
          rw [HM.out]
          go_wp2_with fail
          obtain ⟨yo, yc, ey, -, hW⟩ := HK6.out.ww.nodes
          simp only [Value.slice.injEq] at ey
          obtain ⟨rfl, -, rfl⟩ := ey
          have hlv := leaves_same L xo wo xc wc _ _ (by rw [HM.out]; omega) _ HT6.out hW
          rw [HM.out] at hlv
          refine hlv.mono ?_
          clear hlv hW
          rintro e w7 ⟨rfl, hb7⟩
          have HK7 := Lib.hid (HK6.out.still hb7)
          clear hb7 HK6 HT6
          go_wp2_with fail
          refine (ns_mark HK7.out.ns).mono ?_
          rintro e w8 ⟨rfl, hb8⟩
          have HK8 := Lib.hid (HK7.out.still hb8)
          clear hb8 HK7
          rw [HM.out]
          go_wp2_with fail
          go_ret
          exact ⟨rfl, HK8.out.bel⟩
      | cons t S =>
        obtain ⟨ht, x, hx, hst⟩ := HS.out
        subst ht
        have HX := Lib.hid hx
        have HST := Lib.hid hst
        clear hst
        obtain ⟨s, hs⟩ : ∃ s, S.length = s := ⟨_, rfl⟩
        have HSL : Hid ((t :: S).length = s + 1) := Lib.hid (by rw [List.length_cons, hs])
        have HSS := Lib.hid hs
        have hsk2 : s + 1 ≤ k := by have := HSL.out; omega
        have hsoc : s + 1 ≤ oc := by have := HSL.out; omega
        clear hoc
        rw [HSL.out] at H ⊢
        have htm : (t : Int) < (m : Int) := by have := (List.getElem?_eq_some_iff.1 hx).1; rw [HM.out] at this; omega
        have Q1 : s + 1 + 1 ≤ maxLen := by unfold maxLen; omega
        have Q2 : (s + 1 + 1) * 8 ≤ 140737488355328 := by omega
        have hwo := H.out.wo
        rw [HSL.out] at hwo
        obtain ⟨g4, f4, c4, e4, -, -, -⟩ := hwo.has (by omega)
        cases e4
        have k4 := hwo.cellAt s (by omega)
        rw [opn_last hs] at k4
        clear hwo hs hx hsk
        by_cases h3 : (k : Int) < n
        · obtain ⟨c, hc⟩ : ∃ c, A[k]? = some c := ⟨_, List.getElem?_eq_getElem (by have := HN.out; omega)⟩
          obtain ⟨hc256, g, off, rfl, hg, cc⟩ := (HL.out.keep H.out.bel) k c hc
          clear hc
          have h4 : c % 3 = 0 ∨ c % 3 = 1 ∨ c % 3 = 2 := by omega
          rcases h4 with h4 | h4 | h4
          · have h5 : (((c : Int) % 3) == 0) = true := by rw [beq_iff_eq]; omega
            go_wp2_with fail
            refine (ns_leaf H.out.ns 4 k ((k : Int) + 2) (by rw [HM.out]; omega)).mono ?_
            rintro e w5 ⟨rfl, hb5, hx5, hs5⟩
            have HK5 := Lib.hid (H.out.nest hb5 hx5 hs5)
            clear hb5 hx5 hs5 cc H k4
            have FL := Lib.hid (fresh_news w5 53 [.int .i64 4, .string ⟨#[]⟩, .int .i64 (k : Int), .int .i64 ((k : Int) + 2), .int .i64 (t : Int)])
            have HWW := Lib.hid (show Win Tw 53 5 w5 (.slice wo m wc) m (rowL L) from by have := HK5.out.ww; rw [HM.out] at this; exact this)
            go_wp2_with (first
              | (at_builtin; refine wpList_append_win _ rfl _ _ 23 rfl Tw 53 _ _ 5 48 Try.underlying23 IL.out.1 IL.out.2.1 IL.out.2.2.1 IL.out.2.2.2 rfl (by decide) _ m (rowL L) rfl (HWW.out.below ((Below.refl _ _).alloc (Nat.le_refl _) _)) ⟨w5.heap.size, 0, none⟩ 1 1 [.int .i64 4, .string ⟨#[]⟩, .int .i64 (k : Int), .int .i64 ((k : Int) + 2), .int .i64 (t : Int)] rfl rfl FL.out (by intro u hu; simp at hu; rcases hu with rfl | rfl | rfl | rfl | rfl <;> rfl) K1 K2 ?_))
            intro v6 w6 hw6 hb6
            have HKw6 := Lib.hid (HK5.out.want (y := ⟨4, ⟨#[]⟩, (k : Int), (k : Int) + 2, (t : Int)⟩) HM.out.symm hw6 hb6)
            clear hw6 hb6 FL HWW HK5
            go_wp2
            go_roundw
            case rel => exact ⟨k + 1, by go_num, by omega, _, _, _, _, _, by simp; have := HM.out; omega, by have := HSL.out; omega, Lib.hid HS.out.snoc, HKw6⟩
            case measure => simp [intOf]; omega
          · have h5 : (((c : Int) % 3) == 0) = false := by rw [beq_eq_false_iff_ne]; omega
            have h6 : (((c : Int) % 3) == 1) = true := by rw [beq_iff_eq]; omega
            go_wp2_with fail
            refine (ns_open H.out.ns 2 ⟨#[108]⟩ k (by rw [HM.out]; omega)).mono ?_
            rintro e w5 ⟨rfl, hb5, hx5, hs5⟩
            rw [HM.out] at hs5
            have HK5 := Lib.hid (H.out.nest hb5 hx5 hs5)
            clear hb5 hx5 hs5 cc H k4
            have FN := Lib.hid (fresh_news w5 3 [.int .i64 (m : Int)])
            have HWO := Lib.hid (show Win To 3 1 w5 (.slice (some ⟨g4, f4, none⟩) (s + 1) oc) (s + 1) (opn (t :: S)) from by have := HK5.out.wo; rw [HSL.out] at this; exact this)
            go_wp2_with (first
              | (at_builtin; refine wpList_append_win _ rfl _ _ 51 rfl To 3 _ _ 1 8 Try.underlying51 IP.out.1 IP.out.2.1 IP.out.2.2.1 IP.out.2.2.2 rfl (by decide) _ (s + 1) (opn (t :: S)) rfl (HWO.out.below ((Below.refl _ _).alloc (Nat.le_refl _) _)) ⟨w5.heap.size, 0, none⟩ 1 1 [.int .i64 (m : Int)] rfl rfl FN.out (by intro u hu; simp at hu; subst hu; rfl) Q1 Q2 ?_))
            intro v6 w6 hw6 hb6
            have HK6 := Lib.hid (HK5.out.opens (t := m) (by have := HSL.out; omega) hw6 hb6)
            clear hw6 hb6 FN HWO HK5
            have FL := Lib.hid (fresh_news w6 53 [.int .i64 2, .string ⟨#[108]⟩, .int .i64 (k : Int), .int .i64 (k : Int), .int .i64 (t : Int)])
            have HWW := Lib.hid (show Win Tw 53 5 w6 (.slice wo m wc) m (rowL L) from by have := HK6.out.ww; rw [HM.out] at this; exact this)
            go_wp2_with (first
              | (at_builtin; refine wpList_append_win _ rfl _ _ 23 rfl Tw 53 _ _ 5 48 Try.underlying23 IL.out.1 IL.out.2.1 IL.out.2.2.1 IL.out.2.2.2 rfl (by decide) _ m (rowL L) rfl (HWW.out.below ((Below.refl _ _).alloc (Nat.le_refl _) _)) ⟨w6.heap.size, 0, none⟩ 1 1 [.int .i64 2, .string ⟨#[108]⟩, .int .i64 (k : Int), .int .i64 (k : Int), .int .i64 (t : Int)] rfl rfl FL.out (by intro u hu; simp at hu; rcases hu with rfl | rfl | rfl | rfl | rfl <;> rfl) K1 K2 ?_))
            intro v7 w7 hw6 hb6
            have HKw7 := Lib.hid (HK6.out.want (y := ⟨2, ⟨#[108]⟩, (k : Int), (k : Int), (t : Int)⟩) HM.out.symm hw6 hb6)
            clear hw6 hb6 FL HWW HK6
            go_wp2
            go_roundw
            case rel => exact ⟨k + 1, by go_num, by omega, _, _, _, _, _, by simp; have := HM.out; omega, by rw [List.length_cons]; have := HSL.out; omega, Lib.hid (by have h := HS.out.opened (y := ⟨2, ⟨#[108]⟩, (k : Int), (k : Int), (t : Int)⟩) rfl; rw [HM.out] at h; exact h), HKw7⟩
            case measure => simp [intOf]; omega
          · have h5 : (((c : Int) % 3) == 0) = false := by rw [beq_eq_false_iff_ne]; omega
            have h6 : (((c : Int) % 3) == 1) = false := by rw [beq_eq_false_iff_ne]; omega
            go_wp2_with fail
            refine (ns_close H.out.ns k x (by rw [HM.out]; omega) HX.out).mono ?_
            rintro e w5 ⟨rfl, hb5, hx5, hs5⟩
            have HK5 := Lib.hid (H.out.nest hb5 hx5 hs5)
            clear hb5 hx5 hs5 cc H k4
            have hww := HK5.out.ww
            rw [HM.out] at hww
            obtain ⟨g5, f5, c5, e5, hg5, -, -⟩ := hww.has (by omega)
            cases e5
            have z5 := hww.thawAt (by omega) (f5 + t * 5 + 3)
            have k5 := hww.cellAt (t * 5 + 3) (by omega)
            rw [rowL_get L t x HX.out _ (by omega), ← Nat.add_assoc] at k5
            have k6 : w5.cell? ⟨g5, f5 + t * 5 + 3, none⟩ = some (.int .i64 x.tt) := k5
            clear k5 hww
            have HG5 := Lib.hid hg5
            clear hg5
            go_wp2
            go_roundw
            case rel => exact ⟨k + 1, by go_num, by omega, _, _, S, _, _, by rw [List.length_set, HM.out]; omega, by have := HSS.out; omega, Lib.hid (HST.out.set HX.out), Lib.hid ((HK5.out.ends HM.out.symm HX.out HG5.out).pop HSS.out.symm)⟩
            case measure => simp [intOf]; omega
        · have h3b : (n : Int) ≤ (k : Int) := by omega
          go_wp2_with fail
          refine (awake_any _).mono ?_
          rintro e w5 ⟨rfl, hb5⟩
          have HK5 := Lib.hid (H.out.still hb5)
          clear hb5 H
          go_wp2_with fail
          refine (ns_tree HK5.out.ns (by rw [HM.out]; omega)).mono ?_
          rintro e w6 ⟨xo, xc, rfl, hT, hb6⟩
          have HT6 := Lib.hid hT
          have HK6 := Lib.hid (HK5.out.still hb6)
          clear hb6 hT HK5
          rw [HM.out]
          go_wp2_with fail
          obtain ⟨yo, yc, ey, -, hW⟩ := HK6.out.ww.nodes
          simp only [Value.slice.injEq] at ey
          obtain ⟨rfl, -, rfl⟩ := ey
          have hlv := leaves_same L xo wo xc wc _ _ (by rw [HM.out]; omega) _ HT6.out hW
          rw [HM.out] at hlv
          refine hlv.mono ?_
          clear hlv hW
          rintro e w7 ⟨rfl, hb7⟩
          have HK7 := Lib.hid (HK6.out.still hb7)
          clear hb7 HK6 HT6
          go_wp2_with fail
          refine (ns_mark HK7.out.ns).mono ?_
          rintro e w8 ⟨rfl, hb8⟩
          have HK8 := Lib.hid (HK7.out.still hb8)
          clear hb8 HK7
          rw [HM.out]
          go_wp2_with fail
          go_ret
          exact ⟨rfl, HK8.out.bel⟩
  · go_enter Try.func5, Try.ntmps5
    go_wp2_with fail
    refine (awake_any _).mono ?_
    rintro e w1 ⟨rfl, hb⟩
    go_wp2_with fail
    go_ret
    exact ⟨rfl, hb.mono hN⟩
end Go.Proofs.Ytgpglmponbipbac
