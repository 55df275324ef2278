/- The law NestTells, walked. -/
import Derived.Test.YtgpglmponbipbacTwo21
import Derived.Test.YtgpglmponbipbacSrc
import Derived.Deep.DeepCutAuto
import Derived.Outline
import Derived.Deep.CutBlock
namespace Go.Proofs.Ytgpglmponbipbac
set_option linter.unusedVariables false
open Go.RowKit Go.Sort

theorem and_mod (a : Int) (u : Nat) : ∃ j : Nat, (bits .and .i64 a 1023).tmod ((u : Int) + 1) = (j : Int) ∧ j < u + 1 := by
  obtain ⟨i, hi, hi2⟩ : ∃ i : Nat, bits .and .i64 a 1023 = (i : Int) ∧ i ≤ 1023 := by
    refine ⟨(BitVec.ofInt 64 a &&& BitVec.ofInt 64 1023).toNat, ?_, ?_⟩
    · have h : (BitVec.ofInt 64 a &&& BitVec.ofInt 64 1023).toNat ≤ 1023 := by rw [BitVec.toNat_and]; exact Nat.and_le_right
      show IntKind.i64.wrap ((BitVec.ofInt 64 a &&& BitVec.ofInt 64 1023).toNat : Int) = _
      rw [IntKind.wrap_i64]; omega
    · rw [BitVec.toNat_and]; exact Nat.and_le_right
  refine ⟨i % (u + 1), ?_, Nat.mod_lt _ (by omega)⟩
  rw [hi, Int.tmod_eq_emod_of_nonneg (by omega)]; rfl

theorem Two.drop {N p q : Nat} {X : Nat → Prop} {wr : World} {vm : Value} {La Lb : List Nd} {ta tb : Int} {M : List (Int × Int)} (h : Two N X wr p q vm La ta Lb tb M) : Two N (fun _ => False) wr p q vm La ta Lb tb M := h.more (Below.refl _ _) (fun _ h => h.elim)
theorem src_nodes {R : Nat → Prop} {w : World} {ao : Option Addr} {L : List Nd} {cap : Nat} (h : HasS R w ao L) : Src Try.prog 5 23 (.slice ao L.length cap) L.length (rowL L) w := by
  cases ao with
  | some a => exact Src.ofSlice w Try.underlying23 a _ _ _ (rowL_len L) h.cells (rowL_cells L)
  | none =>
    have h0 : L = [] := by
      cases L with
      | nil => rfl
      | cons x L => obtain ⟨b, off, e, _⟩ := h 0 x rfl; cases e
    subst h0
    exact Src.ofNil w Try.underlying23 cap

set_option maxRecDepth 1000000 in
set_option maxHeartbeats 12800000 in
theorem tells_walk (l : List Dd) (ao : Option Addr) (ac : Nat) (P : List Nd) (bo : Option Addr) (bc : Nat) (w : World) (hl : HasD w.heap.size w ao l) (hP : HasS (fun g => g < w.heap.size) w bo P) :
    Calls Try.prog 3 #[.slice ao l.length ac, .slice bo P.length bc] w fun e w' => e = .returned (.bool true) ∧ Below w.heap.size w w' := by
  obtain ⟨N, hNN⟩ : ∃ N, w.heap.size = N := ⟨_, rfl⟩
  have hN : N ≤ w.heap.size := by omega
  have HNN := Lib.hid hNN
  rw [hNN] at hl hP ⊢
  have HL := Lib.hid hl
  have HP := Lib.hid hP
  clear hNN hl hP
  obtain ⟨n, hnn⟩ : ∃ n, l.length = n := ⟨_, rfl⟩
  have HN := Lib.hid hnn
  rw [hnn]
  obtain ⟨mp, hmp⟩ : ∃ mp, P.length = mp := ⟨_, rfl⟩
  have HMP := Lib.hid hmp
  rw [hmp]
  clear hnn hmp
  by_cases h1 : (n : Int) ≤ 40
  · by_cases h1b : (mp : Int) ≤ 10
    · go_enter Try.func3, Try.ntmps3
      go_wp2_with fail
      refine (ns_new N hN).mono ?_
      rintro e w1 ⟨p, rfl, hb1, hs1⟩
      go_wp2_with fail
      refine (rnew_any w1).mono ?_
      rintro e w2 ⟨q, rfl, hb2, hs2⟩
      have H0 := Lib.hid (two_new w N p q w1 w2 hN hs1 hb1 hb2.size hb2 hs2)
      have HB0 := Lib.hid ((hb1.mono hN).trans (hb2.mono (by have := hb1.size; omega)))
      clear hb1 hs1 hb2 hs2
      go_wp2_with fail
      go_loopw [7, 8] (fun b7 b8 wr => ∃ k : Nat, b8 = .int .i64 (k : Int) ∧ (k : Int) ≤ n ∧ ∃ L top M, (L.length : Int) ≤ 200 ∧ (M.length : Int) ≤ k ∧ Hid (Two N (fun _ => False) wr p q b7 L top L top M) ∧ Hid (Below N w wr))
        (fun _ b8 _ => n - (intOf b8).toNat)
      case atStart => exact ⟨0, rfl, by omega, [], -1, [], by simp, by simp, H0, HB0⟩
      case round =>
        obtain ⟨k, rfl, hk2, L, top, M, hL, hM, H, HB⟩ := hrel
        clear H0 HB0
        by_cases h2 : (k : Int) < n
        · obtain ⟨x, hx⟩ : ∃ x, l[k]? = some x := ⟨_, List.getElem?_eq_getElem (by have := HN.out; omega)⟩
          obtain ⟨hxw, g, off, rfl, hg, c0, c1, c2, c3⟩ := (HL.out.keep HB.out) k x hx
          obtain ⟨mo, mc, rfl, hmk⟩ := H.out.marks
          have HMK := Lib.hid hmk
          obtain ⟨u, hu⟩ : ∃ u, M.length = u := ⟨_, rfl⟩
          have HU := Lib.hid hu
          rw [hu] at H hM ⊢
          clear hu hmk hx
          go_upto_if 38 with fail
          go_cut [10] (fun b10 wx => ∃ lm tm : Int, b10 = .pointer (some ⟨wr.heap.size + 1, 0, none⟩) ∧ wx = (wr.alloc (.cells #[.int .i64 x.kd, .int .i64 x.a, .int .i64 x.b, .string x.nm] 31)).alloc (.cells #[.int .i64 lm, .int .i64 tm] 33))
          case first =>
            cases u with
            | zero =>
              go_wp2
              go_meet
              exact ⟨0, 0, rfl, rfl⟩
            | succ u =>
              have hu0 : ¬ ((u + 1 : Nat) : Int) = 0 := by omega
              obtain ⟨j, hj, hj2⟩ := and_mod x.a u
              obtain ⟨y, hy⟩ : ∃ y, M[j]? = some y := ⟨_, List.getElem?_eq_getElem (by have := HU.out; omega)⟩
              obtain ⟨g', off', rfl, hg', d0, d1⟩ := HMK.out j y hy
              clear hy
              go_wp2_with fail
              go_meet
              exact ⟨y.1, y.2, rfl, rfl⟩
          case rest =>
            obtain ⟨lm, tm, rfl, rfl⟩ := hcut
            go_upto_if 50 with fail
            go_cut [10] (fun b10 wx => ∃ lm tm : Int, b10 = .pointer (some ⟨wr.heap.size + 1, 0, none⟩) ∧ wx = (wr.alloc (.cells #[.int .i64 x.kd, .int .i64 x.a, .int .i64 x.b, .string x.nm] 31)).alloc (.cells #[.int .i64 lm, .int .i64 tm] 33))
            case first =>
              obtain ⟨b6, h6⟩ : ∃ b6, (x.kd == 6) = b6 := ⟨_, rfl⟩
              cases b6
              · go_wp2
                go_meet
                first | exact ⟨lm, tm, rfl, rfl⟩ | (have e := beq_iff_eq.1 h6; exact ⟨x.a, x.b, rfl, by rw [e]⟩)
              · go_wp2
                go_meet
                first | exact ⟨x.a, x.b, rfl, rfl⟩ | (have e := beq_iff_eq.1 h6; exact ⟨x.a, x.b, rfl, by rw [e]⟩)
            case rest =>
              obtain ⟨lm, tm, rfl, rfl⟩ := hcut
              -- the switch
              go_upto_block 2 with fail
              have hb4 : Below wr.heap.size wr (((wr.alloc (.cells #[.int .i64 x.kd, .int .i64 x.a, .int .i64 x.b, .string x.nm] 31)).alloc (.cells #[.int .i64 lm, .int .i64 tm] 33)).alloc (.cells #[.int .i64 lm, .int .i64 tm] 34)) := (((Below.refl _ _).alloc (Nat.le_refl _) _).alloc (by simp) _).alloc (by simp; omega) _
              have hd4 : Own (((wr.alloc (.cells #[.int .i64 x.kd, .int .i64 x.a, .int .i64 x.b, .string x.nm] 31)).alloc (.cells #[.int .i64 lm, .int .i64 tm] 33)).alloc (.cells #[.int .i64 lm, .int .i64 tm] 34)) wr.heap.size 31 [.int .i64 x.kd, .int .i64 x.a, .int .i64 x.b, .string x.nm] := ((Own.fresh wr 31 [.int .i64 x.kd, .int .i64 x.a, .int .i64 x.b, .string x.nm]).on_alloc _).on_alloc _
              have hm4 : Own (((wr.alloc (.cells #[.int .i64 x.kd, .int .i64 x.a, .int .i64 x.b, .string x.nm] 31)).alloc (.cells #[.int .i64 lm, .int .i64 tm] 33)).alloc (.cells #[.int .i64 lm, .int .i64 tm] 34)) (wr.heap.size + 1) 33 [.int .i64 lm, .int .i64 tm] := by have h := (Own.fresh (wr.alloc (.cells #[.int .i64 x.kd, .int .i64 x.a, .int .i64 x.b, .string x.nm] 31)) 33 [.int .i64 lm, .int .i64 tm]).on_alloc (.cells #[.int .i64 lm, .int .i64 tm] 34); rw [World.size_alloc] at h; exact h
              have hr4 : Own (((wr.alloc (.cells #[.int .i64 x.kd, .int .i64 x.a, .int .i64 x.b, .string x.nm] 31)).alloc (.cells #[.int .i64 lm, .int .i64 tm] 33)).alloc (.cells #[.int .i64 lm, .int .i64 tm] 34)) (wr.heap.size + 1 + 1) 34 [.int .i64 lm, .int .i64 tm] := by have h := Own.fresh ((wr.alloc (.cells #[.int .i64 x.kd, .int .i64 x.a, .int .i64 x.b, .string x.nm] 31)).alloc (.cells #[.int .i64 lm, .int .i64 tm] 33)) 34 [.int .i64 lm, .int .i64 tm]; rw [World.size_alloc, World.size_alloc] at h; exact h
              generalize ((wr.alloc (.cells #[.int .i64 x.kd, .int .i64 x.a, .int .i64 x.b, .string x.nm] 31)).alloc (.cells #[.int .i64 lm, .int .i64 tm] 33)).alloc (.cells #[.int .i64 lm, .int .i64 tm] 34) = w4 at *
              have hs4 := hr4.lt
              obtain ⟨Y, hYd⟩ : ∃ Y : Nat → Prop, Y = fun g => wr.heap.size ≤ g ∧ g < w4.heap.size := ⟨_, rfl⟩
              have H4 := Lib.hid (H.out.more (Y := Y) hb4 (fun g hg => by rw [hYd] at hg; exact .inr hg))
              have HB4 := Lib.hid (HB.out.trans (hb4.mono H.out.sz))
              have HD4 := Lib.hid hd4
              have HM4 := Lib.hid hm4
              have HR4 := Lib.hid hr4
              have HY0 := Lib.hid (show Y wr.heap.size from by rw [hYd]; exact ⟨Nat.le_refl _, by omega⟩)
              have HY1 := Lib.hid (show Y (wr.heap.size + 1) from by rw [hYd]; exact ⟨by omega, by omega⟩)
              have HY2 := Lib.hid (show Y (wr.heap.size + 1 + 1) from by rw [hYd]; exact ⟨by omega, by omega⟩)
              clear hb4 hd4 hm4 hr4 hs4 H HB c0 c1 c2 c3 HMK hxw hYd
              go_cut [7] (fun b7 wx => ∃ L' top' M', ((L' : List Nd).length : Int) ≤ 260 ∧ ((M' : List (Int × Int)).length : Int) ≤ k + 1 ∧ Hid (Two N (fun _ => False) wx p q b7 L' top' L' top' M') ∧ Hid (Below N w wx))
              case first =>
                obtain ⟨d0, d1, d2, d3, -⟩ := HD4.out.four
                obtain ⟨m0, m1, -, -⟩ := HM4.out.two
                obtain ⟨n0, n1, -, -⟩ := HR4.out.two
                have hM2 : (u : Int) ≤ k + 1 := by omega
                have HU1 := Lib.hid (show (M.length : Int) ≤ k + 1 by have := HU.out; omega)
                clear hM2
                obtain ⟨bk0, hk0⟩ : ∃ bk0, (x.kd == 0) = bk0 := ⟨_, rfl⟩
                cases bk0
                · have _t := trivial
                  obtain ⟨bk1, hk1⟩ : ∃ bk1, (x.kd == 1) = bk1 := ⟨_, rfl⟩
                  cases bk1
                  · have _t := trivial
                    obtain ⟨bk2, hk2⟩ : ∃ bk2, (x.kd == 2) = bk2 := ⟨_, rfl⟩
                    cases bk2
                    · have _t := trivial
                      obtain ⟨bk3, hk3⟩ : ∃ bk3, (x.kd == 3) = bk3 := ⟨_, rfl⟩
                      cases bk3
                      · have _t := trivial
                        obtain ⟨bk4, hk4⟩ : ∃ bk4, (x.kd == 4) = bk4 := ⟨_, rfl⟩
                        cases bk4
                        · have _t := trivial
                          obtain ⟨bk6, hk6⟩ : ∃ bk6, (x.kd == 6) = bk6 := ⟨_, rfl⟩
                          cases bk6
                          · have _t := trivial
                            have HLL := Lib.hid hL
                            go_wp2_with fail
                            refine (Two.partA H4.out lm tm (by omega)).mono ?_
                            rintro e w5 ⟨po, pd, rfl, hp5, hb5⟩
                            have H5 := Lib.hid (H4.out.still hb5)
                            have HB5 := Lib.hid (HB4.out.trans (hb5.mono H4.out.sz))
                            have HR5 := Lib.hid (HR4.out.under hb5 HR4.out.lt)
                            have HP5 := Lib.hid hp5
                            clear hb5 hp5 H4 HB4 HD4 HM4 HR4 d0 d1 d2 d3 m0 m1 n0 n1
                            obtain ⟨n0, n1, -, -⟩ := HR5.out.two
                            have hq := ptL_len L lm tm
                            generalize hpp : ptL L lm tm = Q at *
                            have HPP := Lib.hid hpp
                            clear hpp
                            obtain ⟨qn, hqn⟩ : ∃ qn, Q.length = qn := ⟨_, rfl⟩
                            have HQN := Lib.hid hqn
                            rw [hqn] at hq ⊢
                            clear hqn
                            go_wp2_with fail
                            have hpb := Two.partB H5.out lm tm (by omega)
                            rw [HPP.out, HQN.out] at hpb
                            refine hpb.mono ?_
                            clear hpb
                            rintro e w6 ⟨ro, rd, rfl, hp6, hb6⟩
                            have H6 := Lib.hid (H5.out.still hb6)
                            have HB6 := Lib.hid (HB5.out.trans (hb6.mono H5.out.sz))
                            have HP6 := Lib.hid (HP5.out.below hb6)
                            have HQ6 := Lib.hid hp6
                            clear hb6 hp6 H5 HB5 HR5 HP5 n0 n1
                            go_wp2_with fail
                            have hlv := leaves_same Q po ro pd rd _ _ (by rw [HQN.out]; omega) _ HP6.out HQ6.out
                            rw [HQN.out] at hlv
                            refine hlv.mono ?_
                            clear hlv
                            rintro e w7 ⟨rfl, hb7⟩
                            have H7 := Lib.hid (H6.out.still hb7)
                            have HB7 := Lib.hid (HB6.out.trans (hb7.mono H6.out.sz))
                            have HP7 := Lib.hid (HP6.out.below hb7)
                            clear hb7 H6 HB6 HP6 HQ6
                            obtain ⟨i0, hi, hz0, hz1, hz2⟩ := info_parts info_leaf
                            have IL := Lib.hid (And.intro hi (And.intro hz0 (And.intro hz1 hz2)))
                            clear hi hz0 hz1 hz2
                            have HE := Lib.hid (show Win (fun b => w7.heap.size ≤ b) 53 5 (w7.alloc (.cells #[] 53)) (.slice (some ⟨w7.heap.size, 0, none⟩) 0 0) 0 [] from Win.of_owns (World.ownsRow_made (base := w7.heap.size) (size := 5) w7 #[] 0 (Nat.le_refl _) (by unfold maxLen; omega) rfl) (fun g hg _ => hg))
                            have HA7 := Lib.hid (show Below w7.heap.size w7 (w7.alloc (.cells #[] 53)) from (Below.refl _ _).alloc (Nat.le_refl _) _)
                            have HS7 := Lib.hid (show Src Try.prog 5 23 (.slice po qn pd) qn (rowL Q) (w7.alloc (.cells #[] 53)) from by have h := src_nodes (cap := pd) (HP7.out.below HA7.out); rw [HQN.out] at h; exact h)
                            go_upto_region 19 with fail
                            go_wp2_with (first | (at_builtin; refine wpList_append_src _ rfl _ _ 23 23 rfl (fun b => w7.heap.size ≤ b) 53 i0 _ 5 48 Try.underlying23 IL.out.1 IL.out.2.1 IL.out.2.2.1 IL.out.2.2.2 rfl (by decide) (.slice (some ⟨w7.heap.size, 0, none⟩) 0 0) 0 [] rfl HE.out (.slice po qn pd) qn (rowL Q) rfl HS7.out (by unfold maxLen; omega) (by omega) ?_))
                            intro v8 w8 hw8 hb8
                            have HB8 := Lib.hid (show But (fun b => w7.heap.size ≤ b) w7 w8 from (But.of_below HA7.out).trans hb8 (fun _ _ h => h))
                            have HW8 := Lib.hid (show Win (fun b => w7.heap.size ≤ b) 53 5 w8 v8 qn (rowL Q) from by have h := hw8; (try rw [Nat.zero_add, List.nil_append] at h); exact h.mono (fun g _ hg => by rcases hg with hg | hg; exact hg; (try rw [World.size_alloc] at hg); omega))
                            clear hw8 hb8 HE HA7 HS7
                            have HBB8 := Lib.hid (HB7.out.trans (HB8.out.below H7.out.sz (fun g hg => Nat.le_trans H7.out.sz hg)))
                            have HS8 := Lib.hid (show Src Try.prog 5 23 (.slice bo mp bc) mp (rowL P) w8 from by have h := src_nodes (cap := bc) (HP.out.off_low HBB8.out); rw [HMP.out] at h; exact h)
                            go_wp2_with (first | (at_builtin; refine wpList_append_src _ rfl _ _ 23 23 rfl (fun b => w7.heap.size ≤ b) 53 i0 _ 5 48 Try.underlying23 IL.out.1 IL.out.2.1 IL.out.2.2.1 IL.out.2.2.2 rfl (by decide) v8 qn (rowL Q) rfl HW8.out (.slice bo mp bc) mp (rowL P) rfl HS8.out (by unfold maxLen; omega) (by omega) ?_))
                            intro v9 w9 hw9 hb9
                            have B9 : But (fun b => w7.heap.size ≤ b) w7 w9 := HB8.out.trans hb9 (fun _ _ h => h)
                            have HW9 := Lib.hid (show Win (fun b => w7.heap.size ≤ b) 53 5 w9 v9 (qn + mp) (rowL (Q ++ P)) from by rw [rowL_append]; exact hw9.mono (fun g _ hg => by rcases hg with hg | hg; exact hg; exact Nat.le_trans HB8.out.size hg))
                            have Bl9 := B9.below (Nat.le_refl _) (fun _ h => h)
                            have HB9 := Lib.hid (HB7.out.trans (Bl9.mono H7.out.sz))
                            have H9 := Lib.hid (H7.out.more (Y := fun g => w7.heap.size ≤ g ∧ g < w9.heap.size) Bl9 (fun g hg => .inr hg))
                            clear hw9 hb9 B9 Bl9 HS8 HBB8 HW8 HB8 H7 HB7 HP7 IL
                            obtain ⟨fo, fc, rfl, hln, hs9⟩ := HW9.out.nodes
                            have HQP := Lib.hid (show (Q ++ P).length = qn + mp from hln.symm)
                            have HS9 := Lib.hid (hs9.mono (S := fun g => w7.heap.size ≤ g ∧ g < w9.heap.size) (fun g hl hg => ⟨hg, hl⟩))
                            rw [← hln]
                            clear hln hs9 HW9
                            generalize (fun g => w7.heap.size ≤ g ∧ g < w9.heap.size) = Z at *
                            by_cases h40 : ((qn + mp : Nat) : Int) ≤ 40
                            · go_wp2_with fail
                              rw [← HQP.out]
                              refine (Two.addA H9.out (Q ++ P) fo fc Z (by omega) (by rw [HQP.out]; omega) HS9.out (fun _ _ h => h)).mono ?_
                              rintro e w10 ⟨rfl, hb10, hx10, hs10⟩
                              rw [HQP.out]
                              have H10 := Lib.hid hs10
                              have HS10 := Lib.hid (HS9.out.off_but hx10 (fun _ _ h => h))
                              have HB10 := Lib.hid (HB9.out.trans hb10)
                              clear hb10 hx10 hs10 H9 HS9 HB9
                              go_wp2_with fail
                              rw [← HQP.out]
                              refine (Two.addB H10.out (Q ++ P) fo fc Z (by omega) (by rw [HQP.out]; omega) HS10.out (fun _ _ h => h)).mono ?_
                              rintro e w11 ⟨rfl, hb11, hx11, hs11⟩
                              have H11 := Lib.hid hs11
                              have HB11 := Lib.hid (HB10.out.trans hb11)
                              clear hb11 hx11 hs11 H10 HS10 HB10
                              go_wp2
                              go_meet
                              exact ⟨_, _, _, by rw [addL_len, HQP.out]; omega, HU1.out, Lib.hid H11.out.drop, HB11⟩
                            · go_wp2_with fail
                              refine (awake_any _).mono ?_
                              rintro e w10 ⟨rfl, hb⟩
                              go_wp2_with fail
                              go_ret
                              exact ⟨rfl, HB9.out.trans (hb.mono H9.out.sz)⟩
                          · have _t := trivial
                            go_wp2_with fail
                            refine (Two.backA H4.out lm tm (by omega)).mono ?_
                            rintro e w5 ⟨rfl, hb5, hx5, hs5⟩
                            have H5 := Lib.hid hs5
                            have HB5 := Lib.hid (HB4.out.trans hb5)
                            have HD5 := Lib.hid (HD4.out.off_but hx5 HY0.out)
                            have HM5 := Lib.hid (HM4.out.off_but hx5 HY1.out)
                            have HR5 := Lib.hid (HR4.out.off_but hx5 HY2.out)
                            clear hb5 hx5 hs5 H4 HB4 HD4 HM4 HR4
                            try clear d0 d1 d2 d3
                            try clear m0 m1 n0 n1
                            obtain ⟨d0, d1, d2, d3, -⟩ := HD5.out.four
                            obtain ⟨m0, m1, -, -⟩ := HM5.out.two
                            obtain ⟨n0, n1, -, -⟩ := HR5.out.two
                            go_wp2_with fail
                            refine (Two.backB H5.out lm tm (by omega)).mono ?_
                            rintro e w6 ⟨rfl, hb6, hx6, hs6⟩
                            have H6 := Lib.hid hs6
                            have HB6 := Lib.hid (HB5.out.trans hb6)
                            have HD6 := Lib.hid (HD5.out.off_but hx6 HY0.out)
                            have HM6 := Lib.hid (HM5.out.off_but hx6 HY1.out)
                            have HR6 := Lib.hid (HR5.out.off_but hx6 HY2.out)
                            clear hb6 hx6 hs6 H5 HB5 HD5 HM5 HR5
                            try clear d0 d1 d2 d3
                            try clear m0 m1 n0 n1
                            obtain ⟨d0, d1, d2, d3, -⟩ := HD6.out.four
                            obtain ⟨m0, m1, -, -⟩ := HM6.out.two
                            obtain ⟨n0, n1, -, -⟩ := HR6.out.two
                            go_wp2
                            go_meet
                            exact ⟨_, _, _, by have := bkL_len L lm tm; omega, HU1.out, Lib.hid H6.out.drop, HB6⟩
                        · have _t := trivial
                          go_wp2_with fail
                          refine (Two.backA H4.out lm tm (by omega)).mono ?_
                          rintro e w5 ⟨rfl, hb5, hx5, hs5⟩
                          have H5 := Lib.hid hs5
                          have HB5 := Lib.hid (HB4.out.trans hb5)
                          have HD5 := Lib.hid (HD4.out.off_but hx5 HY0.out)
                          have HM5 := Lib.hid (HM4.out.off_but hx5 HY1.out)
                          have HR5 := Lib.hid (HR4.out.off_but hx5 HY2.out)
                          clear hb5 hx5 hs5 H4 HB4 HD4 HM4 HR4
                          try clear d0 d1 d2 d3
                          try clear m0 m1 n0 n1
                          obtain ⟨d0, d1, d2, d3, -⟩ := HD5.out.four
                          obtain ⟨m0, m1, -, -⟩ := HM5.out.two
                          obtain ⟨n0, n1, -, -⟩ := HR5.out.two
                          go_wp2_with fail
                          refine (Two.backB H5.out lm tm (by omega)).mono ?_
                          rintro e w6 ⟨rfl, hb6, hx6, hs6⟩
                          have H6 := Lib.hid hs6
                          have HB6 := Lib.hid (HB5.out.trans hb6)
                          have HD6 := Lib.hid (HD5.out.off_but hx6 HY0.out)
                          have HM6 := Lib.hid (HM5.out.off_but hx6 HY1.out)
                          have HR6 := Lib.hid (HR5.out.off_but hx6 HY2.out)
                          clear hb6 hx6 hs6 H5 HB5 HD5 HM5 HR5
                          try clear d0 d1 d2 d3
                          try clear m0 m1 n0 n1
                          obtain ⟨d0, d1, d2, d3, -⟩ := HD6.out.four
                          obtain ⟨m0, m1, -, -⟩ := HM6.out.two
                          obtain ⟨n0, n1, -, -⟩ := HR6.out.two
                          go_wp2
                          go_meet
                          exact ⟨_, _, _, by have := bkL_len L lm tm; omega, HU1.out, Lib.hid H6.out.drop, HB6⟩
                      · have _t := trivial
                        go_wp2_with fail
                        refine (Two.markA H4.out).mono ?_
                        rintro e w5 ⟨rfl, hb5⟩
                        have H5 := Lib.hid (H4.out.still hb5)
                        have HB5 := Lib.hid (HB4.out.trans (hb5.mono H4.out.sz))
                        clear hb5 H4 HB4 HD4 HM4 HR4 d0 d1 d2 d3 m0 m1 n0 n1
                        have H5b : Hid (Two N Y w5 p q (.slice mo M.length mc) L top L top M) := by have h := H5.out; rw [← HU.out] at h; exact Lib.hid h
                        rw [← HU.out]
                        go_wp2_with (first | (at_builtin; refine Two.mark ((L.length : Int), top) H5b.out rfl (by have := HU1.out; omega) rfl _ _ rfl rfl rfl ?_))
                        intro v' w6 hs6 hb6 hx6
                        have H6 := Lib.hid hs6
                        have HB6 := Lib.hid (HB5.out.trans hb6)
                        clear hs6 hb6 hx6
                        go_wp2
                        go_meet
                        exact ⟨_, _, _, by omega, by rw [List.length_append]; simp; have := HU.out; omega, Lib.hid H6.out.drop, HB6⟩
                    · have _t := trivial
                      have hups := H4.out.upsA.2
                      by_cases ht : top < 0
                      · clear hups
                        go_upto_region 31 with fail
                        clear m0 m1 n0 n1
                        go_region_law ((go_simp; first | (go_at_call 13; refine (Two.close_noA (H4.out.still ((Below.refl _ _).drew)) x.a ht).mono ?_; rintro e w' ⟨rfl, rfl⟩) | (go_at_call 14; refine (Two.close_noB (H4.out.still ((Below.refl _ _).drew)) x.a ht).mono ?_; rintro e w' ⟨rfl, rfl⟩)))
                        all_goals go_wp2
                        all_goals go_meet
                        all_goals exact ⟨L, top, M, by omega, HU1.out, Lib.hid (H4.out.drop.still ((Below.refl _ _).drew)), Lib.hid (HB4.out.trans ((Below.refl _ _).drew))⟩
                      · obtain ⟨t, rfl⟩ : ∃ t : Nat, top = (t : Int) := ⟨top.toNat, by omega⟩
                        obtain ⟨y, hy⟩ : ∃ y, L[t]? = some y := ⟨_, List.getElem?_eq_getElem (by omega)⟩
                        have HYY := Lib.hid hy
                        have HLL := Lib.hid hL
                        clear hy hups ht hL
                        go_upto_region 31 with fail
                        clear m0 m1 n0 n1 HM4 HR4
                        go_region_law ((go_simp; first | (go_at_call 13; refine (Two.closeA (H4.out.still ((Below.refl _ _).drew)) x.a y (by have := HLL.out; omega) HYY.out).mono ?_; rintro e w5a ⟨rfl, hb, hx, hs⟩; have H5a := Lib.hid hs; have HB5a := Lib.hid (((HB4.out.trans ((Below.refl _ _).drew))).trans hb); have HD5a := Lib.hid ((HD4.out.on_drew).off_but hx HY0.out); clear hb hx hs H4 HD4 HB4 d0 d1 d2 d3; obtain ⟨d0, d1, d2, d3, -⟩ := HD5a.out.four) | (go_at_call 14; refine (Two.closeB (H5a.out.still ((Below.refl _ _))) x.a y (by have := HLL.out; omega) HYY.out).mono ?_; rintro e w6 ⟨rfl, hb, hx, hs⟩; have H6 := Lib.hid hs; have HB6 := Lib.hid (((HB5a.out.trans ((Below.refl _ _)))).trans hb); have HD6 := Lib.hid ((HD5a.out).off_but hx HY0.out); clear hb hx hs H5a HD5a HB5a d0 d1 d2 d3; obtain ⟨d0, d1, d2, d3, -⟩ := HD6.out.four) | (go_at_call 14; refine (Two.closeB (H4.out.still ((Below.refl _ _).drew)) x.a y (by have := HLL.out; omega) HYY.out).mono ?_; rintro e w5b ⟨rfl, hb, hx, hs⟩; have H5b := Lib.hid hs; have HB5b := Lib.hid (((HB4.out.trans ((Below.refl _ _).drew))).trans hb); have HD5b := Lib.hid ((HD4.out.on_drew).off_but hx HY0.out); clear hb hx hs H4 HD4 HB4 d0 d1 d2 d3; obtain ⟨d0, d1, d2, d3, -⟩ := HD5b.out.four) | (go_at_call 13; refine (Two.closeA (H5b.out.still ((Below.refl _ _))) x.a y (by have := HLL.out; omega) HYY.out).mono ?_; rintro e w6 ⟨rfl, hb, hx, hs⟩; have H6 := Lib.hid hs; have HB6 := Lib.hid (((HB5b.out.trans ((Below.refl _ _)))).trans hb); have HD6 := Lib.hid ((HD5b.out).off_but hx HY0.out); clear hb hx hs H5b HD5b HB5b d0 d1 d2 d3; obtain ⟨d0, d1, d2, d3, -⟩ := HD6.out.four)))
                        all_goals go_wp2
                        all_goals go_meet
                        all_goals exact ⟨_, _, _, by rw [List.length_set]; have := HLL.out; omega, HU1.out, Lib.hid H6.out.drop, HB6⟩
                  · have _t := trivial
                    go_wp2_with fail
                    refine (Two.openA H4.out x.a x.nm x.b (by omega)).mono ?_
                    rintro e w5 ⟨rfl, hb5, hx5, hs5⟩
                    have H5 := Lib.hid hs5
                    have HB5 := Lib.hid (HB4.out.trans hb5)
                    have HD5 := Lib.hid (HD4.out.off_but hx5 HY0.out)
                    have HM5 := Lib.hid (HM4.out.off_but hx5 HY1.out)
                    have HR5 := Lib.hid (HR4.out.off_but hx5 HY2.out)
                    clear hb5 hx5 hs5 H4 HB4 HD4 HM4 HR4
                    try clear d0 d1 d2 d3
                    try clear m0 m1 n0 n1
                    obtain ⟨d0, d1, d2, d3, -⟩ := HD5.out.four
                    obtain ⟨m0, m1, -, -⟩ := HM5.out.two
                    obtain ⟨n0, n1, -, -⟩ := HR5.out.two
                    go_wp2_with fail
                    refine (Two.openB H5.out x.a x.nm x.b (by omega)).mono ?_
                    rintro e w6 ⟨rfl, hb6, hx6, hs6⟩
                    have H6 := Lib.hid hs6
                    have HB6 := Lib.hid (HB5.out.trans hb6)
                    have HD6 := Lib.hid (HD5.out.off_but hx6 HY0.out)
                    have HM6 := Lib.hid (HM5.out.off_but hx6 HY1.out)
                    have HR6 := Lib.hid (HR5.out.off_but hx6 HY2.out)
                    clear hb6 hx6 hs6 H5 HB5 HD5 HM5 HR5
                    try clear d0 d1 d2 d3
                    try clear m0 m1 n0 n1
                    obtain ⟨d0, d1, d2, d3, -⟩ := HD6.out.four
                    obtain ⟨m0, m1, -, -⟩ := HM6.out.two
                    obtain ⟨n0, n1, -, -⟩ := HR6.out.two
                    go_wp2
                    go_meet
                    exact ⟨_, _, _, by simp; omega, HU1.out, Lib.hid H6.out.drop, HB6⟩
                · have _t := trivial
                  go_wp2_with fail
                  refine (Two.leafA H4.out x.a x.a x.b (by omega)).mono ?_
                  rintro e w5 ⟨rfl, hb5, hx5, hs5⟩
                  have H5 := Lib.hid hs5
                  have HB5 := Lib.hid (HB4.out.trans hb5)
                  have HD5 := Lib.hid (HD4.out.off_but hx5 HY0.out)
                  have HM5 := Lib.hid (HM4.out.off_but hx5 HY1.out)
                  have HR5 := Lib.hid (HR4.out.off_but hx5 HY2.out)
                  clear hb5 hx5 hs5 H4 HB4 HD4 HM4 HR4
                  try clear d0 d1 d2 d3
                  try clear m0 m1 n0 n1
                  obtain ⟨d0, d1, d2, d3, -⟩ := HD5.out.four
                  obtain ⟨m0, m1, -, -⟩ := HM5.out.two
                  obtain ⟨n0, n1, -, -⟩ := HR5.out.two
                  go_wp2_with fail
                  refine (Two.leafB H5.out x.a x.a x.b (by omega)).mono ?_
                  rintro e w6 ⟨rfl, hb6, hx6, hs6⟩
                  have H6 := Lib.hid hs6
                  have HB6 := Lib.hid (HB5.out.trans hb6)
                  have HD6 := Lib.hid (HD5.out.off_but hx6 HY0.out)
                  have HM6 := Lib.hid (HM5.out.off_but hx6 HY1.out)
                  have HR6 := Lib.hid (HR5.out.off_but hx6 HY2.out)
                  clear hb6 hx6 hs6 H5 HB5 HD5 HM5 HR5
                  try clear d0 d1 d2 d3
                  try clear m0 m1 n0 n1
                  obtain ⟨d0, d1, d2, d3, -⟩ := HD6.out.four
                  obtain ⟨m0, m1, -, -⟩ := HM6.out.two
                  obtain ⟨n0, n1, -, -⟩ := HR6.out.two
                  go_wp2
                  go_meet
                  exact ⟨_, _, _, by simp; omega, HU1.out, Lib.hid H6.out.drop, HB6⟩
              case rest =>
                obtain ⟨L', top', M', hL2, hM2, H5, HB5⟩ := hcut
                obtain ⟨w5, hw5⟩ : ∃ w5, wc = w5 := ⟨_, rfl⟩
                rw [hw5] at H5 HB5 ⊢
                clear hw5 H4 HB4 HD4 HM4 HR4 HY0 HY1 HY2 hL hM HU
                obtain ⟨m', hm'⟩ : ∃ m', L'.length = m' := ⟨_, rfl⟩
                have HM' := Lib.hid hm'
                rw [hm'] at hL2
                clear hm'
                go_wp2_with fail
                refine (Two.markA H5.out).mono ?_
                rintro e w6 ⟨rfl, hb6⟩
                rw [HM'.out]
                have H6 := Lib.hid (H5.out.still hb6)
                have HB6 := Lib.hid (HB5.out.trans (hb6.mono H5.out.sz))
                clear hb6 H5 HB5
                go_wp2_with fail
                refine (Two.markB H6.out).mono ?_
                rintro e w7 ⟨rfl, hb7⟩
                rw [HM'.out]
                have H7 := Lib.hid (H6.out.still hb7)
                have HB7 := Lib.hid (HB6.out.trans (hb7.mono H6.out.sz))
                clear hb7 H6 HB6
                have hne : ((m' : Int) != (m' : Int)) = false := by simp
                have hne2 : (top' != top') = false := by simp
                go_wp2_with fail
                have hb8 : Below w7.heap.size w7 ((w7.alloc (.cells #[.int .i64 (m' : Int), .int .i64 top'] 33)).alloc (.cells #[.int .i64 (m' : Int), .int .i64 top'] 34)) := ((Below.refl _ _).alloc (Nat.le_refl _) _).alloc (by simp) _
                have hm8 : Own ((w7.alloc (.cells #[.int .i64 (m' : Int), .int .i64 top'] 33)).alloc (.cells #[.int .i64 (m' : Int), .int .i64 top'] 34)) w7.heap.size 33 [.int .i64 (m' : Int), .int .i64 top'] := (Own.fresh w7 33 [.int .i64 (m' : Int), .int .i64 top']).on_alloc _
                generalize (w7.alloc (.cells #[.int .i64 (m' : Int), .int .i64 top'] 33)).alloc (.cells #[.int .i64 (m' : Int), .int .i64 top'] 34) = w8 at *
                have HM8 := Lib.hid hm8
                have H8 := Lib.hid (H7.out.still hb8)
                have HB8 := Lib.hid (HB7.out.trans (hb8.mono H7.out.sz))
                clear hb8 hm8 H7 HB7
                refine (Two.treeA H8.out (by rw [HM'.out]; omega)).mono ?_
                rintro e w9 ⟨xo, xc, rfl, ha9, hb9⟩
                rw [HM'.out]
                have H9 := Lib.hid (H8.out.still hb9)
                have HB9 := Lib.hid (HB8.out.trans (hb9.mono H8.out.sz))
                have HM9 := Lib.hid (HM8.out.under hb9 HM8.out.lt)
                have HA9 := Lib.hid ha9
                clear hb9 ha9 H8 HB8 HM8
                go_wp2_with fail
                refine (Two.treeB H9.out (by rw [HM'.out]; omega)).mono ?_
                rintro e w10 ⟨yo, yc, rfl, ha10, hb10⟩
                rw [HM'.out]
                have H10 := Lib.hid (H9.out.still hb10)
                have HB10 := Lib.hid (HB9.out.trans (hb10.mono H9.out.sz))
                have HM10 := Lib.hid (HM9.out.under hb10 HM9.out.lt)
                have HA10 := Lib.hid (HA9.out.below hb10)
                have HC10 := Lib.hid ha10
                clear hb10 ha10 H9 HB9 HM9 HA9
                go_wp2_with fail
                have hlv := leaves_same L' xo yo xc yc _ _ (by rw [HM'.out]; omega) _ HA10.out HC10.out
                rw [HM'.out] at hlv
                refine hlv.mono ?_
                clear hlv
                rintro e w11 ⟨rfl, hb11⟩
                have H11 := Lib.hid (H10.out.still hb11)
                have HB11 := Lib.hid (HB10.out.trans (hb11.mono H10.out.sz))
                have HM11 := Lib.hid (HM10.out.under hb11 HM10.out.lt)
                clear hb11 H10 HB10 HM10 HA10 HC10
                obtain ⟨m0, m1, -, -⟩ := HM11.out.two
                by_cases h200 : (m' : Int) ≤ 200
                · go_wp2
                  go_roundw
                  case rel => exact ⟨k + 1, by go_num, by omega, L', top', M', by rw [HM'.out]; exact h200, by omega, H11, HB11⟩
                  case measure => simp [intOf]; omega
                · go_wp2_with fail
                  refine (awake_any _).mono ?_
                  rintro e w12 ⟨rfl, hb⟩
                  go_wp2_with fail
                  go_ret
                  exact ⟨rfl, HB11.out.trans (hb.mono H11.out.sz)⟩
        · go_wp2_with fail
          refine (awake_any _).mono ?_
          rintro e w4 ⟨rfl, hb⟩
          go_wp2_with fail
          go_ret
          exact ⟨rfl, HB.out.trans (hb.mono H.out.sz)⟩
    · go_enter Try.func3, Try.ntmps3
      go_wp2_with fail
      refine (awake_any _).mono ?_
      rintro e w1 ⟨rfl, hb⟩
      go_wp2_with fail
      go_ret
      exact ⟨rfl, hb.mono hN⟩
  · go_enter Try.func3, Try.ntmps3
    go_wp2_with fail
    refine (awake_any _).mono ?_
    rintro e w1 ⟨rfl, hb⟩
    go_wp2_with fail
    go_ret
    exact ⟨rfl, hb.mono hN⟩
end Go.Proofs.Ytgpglmponbipbac
