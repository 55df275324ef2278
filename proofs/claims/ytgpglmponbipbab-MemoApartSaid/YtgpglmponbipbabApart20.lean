/- The law MemoApart, walked. -/
import Derived.Test.YtgpglmponbipbabAwake20
import Derived.Deep.DeepCutAuto
import Derived.Deep.Cut
import Derived.Deep.CutRange
import Derived.Lib.QuietBelow
import Derived.BigQuiet
namespace Go.Proofs.Ytgpglmponbipbab
set_option linter.unusedVariables false
open Go.RowKit Go.Sort

structure Apt (N : Nat) (n : Int) (w wr : World) (pa pb pc k : Nat) (La : List Mm) (Ua Ub Uc : Nat → Prop) : Prop where
  a : MemoRep wr pa Ua n La
  b : MemoRep wr pb Ub n []
  c : MemoRep wr pc Uc (-1) []
  len : La.length ≤ k
  ab : Dj Ua Ub
  ac : Dj Ua Uc
  bc : Dj Ub Uc
  ga : ∀ g, Ua g → N ≤ g
  gb : ∀ g, Ub g → N ≤ g
  gc : ∀ g, Uc g → N ≤ g
  bel : Below N w wr
  sz : N ≤ wr.heap.size
theorem Apt.below {N : Nat} {n : Int} {w wr w' : World} {pa pb pc k : Nat} {La : List Mm} {Ua Ub Uc : Nat → Prop} (h : Apt N n w wr pa pb pc k La Ua Ub Uc) (hb : Below wr.heap.size wr w') : Apt N n w w' pa pb pc k La Ua Ub Uc :=
  ⟨h.a.below hb, h.b.below hb, h.c.below hb, h.len, h.ab, h.ac, h.bc, h.ga, h.gb, h.gc, h.bel.trans (hb.mono h.sz), Nat.le_trans h.sz hb.size⟩

theorem apt_get {N : Nat} {n : Int} {w wr : World} {pa pb pc k : Nat} {La : List Mm} {Ua Ub Uc : Nat → Prop} (h : Apt N n w wr pa pb pc k La Ua Ub Uc) {X : World} (hX : But (fun _ => False) wr X) (a b : Int) (wi : Wf a) (wa : Wf b) (z : Mm) (q : Bool) (hz : getL La a b = z) (hq : hasL La a b = q) :
    Calls Try.prog 11 #[.pointer (some ⟨pa, 0, none⟩), .int .i64 a, .int .i64 b] X
      fun e w' => ∃ po pc, e = .returned (.tuple #[.agg #[.int .i64 z.ins, .int .i64 z.at_, .bool z.ok, .int .i64 z.en, .int .i64 z.far, .slice po z.part.length pc], .bool q]) ∧ HasS (fun g => X.heap.size ≤ g) w' po z.part ∧ Below X.heap.size X w' := by
  subst hz hq
  refine (get_any X pa Ua n La a b wi wa (h.a.keep hX (fun _ _ h => h))).mono ?_
  rintro e w' ⟨v, rfl, ⟨po, pc, rfl, hs⟩, hb⟩
  exact ⟨po, pc, rfl, hs, hb⟩

theorem Apt.but {N : Nat} {n : Int} {w wr w' : World} {pa pb pc k : Nat} {La : List Mm} {Ua Ub Uc : Nat → Prop} (h : Apt N n w wr pa pb pc k La Ua Ub Uc) (hb : But (fun _ => False) wr w') : Apt N n w w' pa pb pc k La Ua Ub Uc :=
  h.below (hb.below (Nat.le_refl _) (fun _ h => h.elim))
theorem apt_getb {N : Nat} {n : Int} {w wr : World} {pa pb pc k : Nat} {La : List Mm} {Ua Ub Uc : Nat → Prop} (h : Apt N n w wr pa pb pc k La Ua Ub Uc) {X : World} (hX : But (fun _ => False) wr X) (a b : Int) (wi : Wf a) (wa : Wf b) :
    Calls Try.prog 11 #[.pointer (some ⟨pb, 0, none⟩), .int .i64 a, .int .i64 b] X
      fun e w' => ∃ po pc, e = .returned (.tuple #[.agg #[.int .i64 zeroMm.ins, .int .i64 zeroMm.at_, .bool zeroMm.ok, .int .i64 zeroMm.en, .int .i64 zeroMm.far, .slice po zeroMm.part.length pc], .bool false]) ∧ HasS (fun g => X.heap.size ≤ g) w' po zeroMm.part ∧ Below X.heap.size X w' := by
  refine (get_any X pb Ub n [] a b wi wa (h.b.keep hX (fun _ _ h => h))).mono ?_
  rintro e w' ⟨v, rfl, ⟨po, pc, rfl, hs⟩, hb⟩
  exact ⟨po, pc, rfl, hs, hb⟩
theorem apt_getc {N : Nat} {n : Int} {w wr : World} {pa pb pc k : Nat} {La : List Mm} {Ua Ub Uc : Nat → Prop} (h : Apt N n w wr pa pb pc k La Ua Ub Uc) {X : World} (hX : But (fun _ => False) wr X) (a b : Int) (wi : Wf a) (wa : Wf b) :
    Calls Try.prog 11 #[.pointer (some ⟨pc, 0, none⟩), .int .i64 a, .int .i64 b] X
      fun e w' => ∃ po pc, e = .returned (.tuple #[.agg #[.int .i64 zeroMm.ins, .int .i64 zeroMm.at_, .bool zeroMm.ok, .int .i64 zeroMm.en, .int .i64 zeroMm.far, .slice po zeroMm.part.length pc], .bool false]) ∧ HasS (fun g => X.heap.size ≤ g) w' po zeroMm.part ∧ Below X.heap.size X w' := by
  refine (get_any X pc Uc (-1) [] a b wi wa (h.c.keep hX (fun _ _ h => h))).mono ?_
  rintro e w' ⟨v, rfl, ⟨po, pc, rfl, hs⟩, hb⟩
  exact ⟨po, pc, rfl, hs, hb⟩

set_option maxRecDepth 1000000 in
set_option maxHeartbeats 12800000 in
theorem apart_walk (L : List Mm) (ao : Option Addr) (cap : Nat) (w : World) (hl : HasM w.heap.size w ao L) :
    Calls Try.prog 5 #[.slice ao L.length cap] w fun e w' => e = .returned (.bool true) ∧ Below w.heap.size w w' := by
  obtain ⟨N, hNN⟩ : ∃ N, w.heap.size = N := ⟨_, rfl⟩
  have hN : N ≤ w.heap.size := by omega
  have hB : Below N w w := Below.refl _ _
  obtain ⟨n, hnn⟩ : ∃ n, L.length = n := ⟨_, rfl⟩
  have HN := Lib.hid hnn
  rw [hNN] at hl ⊢
  rw [hnn]
  have HL := Lib.hid hl
  clear hNN hnn hl
  by_cases h1 : (n : Int) ≤ 40
  · go_enter Try.func5, Try.ntmps5
    go_wp2_with fail
    refine (new_any w n).mono ?_
    rintro e w1 ⟨pa, rfl, hb1, ha⟩
    go_wp2_with fail
    refine (new_any w1 n).mono ?_
    rintro e w2 ⟨pb, rfl, hb2, hbm⟩
    go_wp2_with fail
    refine (new_any w2 (-1)).mono ?_
    rintro e w3 ⟨pc, rfl, hb3, hcm⟩
    have H0 : Hid (Apt N n w w3 pa pb pc 0 [] (fun g => w.heap.size ≤ g ∧ g < w1.heap.size) (fun g => w1.heap.size ≤ g ∧ g < w2.heap.size) (fun g => w2.heap.size ≤ g ∧ g < w3.heap.size)) :=
      Lib.hid (by
        have s1 := hb1.size
        have s2 := hb2.size
        have s3 := hb3.size
        exact ⟨(ha.below hb2).below hb3, hbm.below hb3, hcm, Nat.le_refl _, fun g h h' => by omega, fun g h h' => by omega, fun g h h' => by omega, fun g h => by omega, fun g h => by omega, fun g h => by omega,
          ((hb1.mono hN).trans (hb2.mono (by omega))).trans (hb3.mono (by omega)), by omega⟩)
    clear ha hbm hcm hb1 hb2 hb3 hB
    go_wp2_with fail
    go_loopw [6] (fun b6 wr => ∃ k : Nat, b6 = .int .i64 (k : Int) ∧ (k : Int) ≤ n ∧ ∃ La Ua Ub Uc, Hid (Apt N n w wr pa pb pc k La Ua Ub Uc)) (fun b6 _ => n - (intOf b6).toNat)
    case atStart => exact ⟨0, rfl, by omega, _, _, _, _, H0⟩
    case round =>
      obtain ⟨k, rfl, hk2, La, Ua, Ub, Uc, H⟩ := hrel
      clear H0
      by_cases h2 : (k : Int) < n
      · obtain ⟨x, hx⟩ : ∃ x, L[k]? = some x := ⟨_, List.getElem?_eq_getElem (by have := HN.out; omega)⟩
        obtain ⟨⟨wi, wa⟩, hp, g, off, rfl, hg, c0, c1, c2, c3, c4, c5⟩ := (HL.out.keep H.out.bel hN) k x hx
        have HX := Lib.hid hx
        clear hx
        by_cases h3 : (x.part.length : Int) ≤ 20
        · have HP := Lib.hid hp
          have hlen := H.out.len
          clear hp
          go_wp2_with fail
          refine (put_any wr pa Ua n La x (by omega) wi wa (by omega) (fun g => g < N) (fun g _ hg hu => by have := H.out.ga g hu; omega) HP.out H.out.a).mono ?_
          rintro e w4 ⟨rfl, hb4, ha4⟩
          have H4 : Hid (Apt N n w w4 pa pb pc (k + 1) (putL n La x) (Grow Ua wr w4) Ub Uc) := Lib.hid
            ⟨ha4, H.out.b.keep hb4 H.out.ab.symm, H.out.c.keep hb4 H.out.ac.symm, by have := @putL_len n La x; omega, H.out.ab.grow H.out.b.lt, H.out.ac.grow H.out.c.lt, H.out.bc, grow_ge H.out.ga H.out.sz, H.out.gb, H.out.gc, H.out.bel.trans (hb4.below H.out.sz H.out.ga), Nat.le_trans H.out.sz hb4.size⟩
          have HP4 := Lib.hid (HP.out.keep hb4 (fun g _ hg hu => by have := H.out.ga g hu; omega))
          have hC := (Below.refl N wr).trans (hb4.below H.out.sz H.out.ga)
          clear ha4 hb4 c0 c1 c2 c3 c4 c5 hC
          obtain ⟨_, _, g', off', e', _, c0, c1, c2, c3, c4, c5⟩ := (HL.out.keep H4.out.bel hN) k x HX.out
          cases e'
          go_wp2_with fail
          refine (put_any w4 pc Uc (-1) [] x (by decide) wi wa (by omega) (fun g => g < N) (fun g _ hg hu => by have := H4.out.gc g hu; omega) HP4.out H4.out.c).mono ?_
          rintro e w5 ⟨rfl, hb5, hc5⟩
          rw [putL_none (by decide) rfl] at hc5
          have H5 : Hid (Apt N n w w5 pa pb pc (k + 1) (putL n La x) (Grow Ua wr w4) Ub (Grow Uc w4 w5)) := Lib.hid
            ⟨H4.out.a.keep hb5 H4.out.ac, H4.out.b.keep hb5 H4.out.bc, hc5, H4.out.len, H4.out.ab, (H4.out.ac.symm.grow H4.out.a.lt).symm, (H4.out.bc.symm.grow H4.out.b.lt).symm, H4.out.ga, H4.out.gb, grow_ge H4.out.gc H4.out.sz, H4.out.bel.trans (hb5.below H4.out.sz H4.out.gc), Nat.le_trans H4.out.sz hb5.size⟩
          clear hc5 hb5 c0 c1 c2 c3 c4 c5 HP HP4 H4
          obtain ⟨_, _, g', off', e', _, c0, c1, c2, c3, c4, c5⟩ := (HL.out.keep H5.out.bel hN) k x HX.out
          cases e'
          have hga : getL (putL n La x) x.ins x.at_ = x := by unfold getL; rw [putL_get (by omega)]; rfl
          have hha : hasL (putL n La x) x.ins x.at_ = true := by unfold hasL; rw [putL_get (by omega)]; rfl
          have G1 := Lib.hid (fun (X : World) (hX : But (fun _ => False) w5 X) => apt_get H5.out hX x.ins x.at_ wi wa x true hga hha)
          clear hga hha
          go_upto_region 11 with fail
          go_cut [7, 8] (fun s7 s8 wx => ∃ b, s7 = .pointer (some ⟨b, 0, none⟩) ∧ s8 = .bool true ∧ Hid (Got w5 wx b x))
          case first =>
            have hA := (But.refl (fun _ => False) w5).alloc (.cells #[.int .i64 0, .int .i64 0, .bool false, .int .i64 0, .int .i64 0, .slice none 0 0] 30)
            have d0 := hA.cell (p := ⟨g, off + k * 6, none⟩) (fun h => h) c0
            have d1 := hA.cell (p := ⟨g, off + k * 6 + 1, none⟩) (fun h => h) c1
            clear c2 c3 c4 c5 hA
            have HZ := Lib.hid (Own.fresh w5 30 [.int .i64 0, .int .i64 0, .bool false, .int .i64 0, .int .i64 0, .slice none 0 0])
            go_region_law ((go_simp; go_at_call 11; first | (refine (G1.out _ ((But.refl _ _).drew)).mono ?_; rintro e wy ⟨po, pd, rfl, hs, hb⟩; have HS := Lib.hid hs; have HBY := Lib.hid hb; clear hs hb) | (refine (G1.out _ (((But.refl _ _).alloc _).drew)).mono ?_; rintro e wy ⟨po, pd, rfl, hs, hb⟩; have HOY := Lib.hid (HZ.out.on_drew.under hb HZ.out.on_drew.lt); have HS := Lib.hid hs; have HBY := Lib.hid hb; clear hs hb; obtain ⟨y0, y1, y2, y3, y4, y5, z0, z1, z2, z3, z4, z5⟩ := HOY.out.six)))
            all_goals go_wp2_with fail
            all_goals go_meet
            all_goals first
              | (have hq := HOY; clear hq; rw [set6_fold]; exact ⟨_, rfl, rfl, Lib.hid (got_early (((But.refl _ _).alloc _).drew) HZ.out.on_drew HBY.out HS.out (fun _ h => h))⟩)
              | exact ⟨_, rfl, rfl, Lib.hid (got_late ((But.refl _ _).drew) HBY.out HS.out)⟩
          case rest =>
            obtain ⟨qa, rfl, rfl, HG1⟩ := hcut
            obtain ⟨w6, hw6⟩ : ∃ w6, wc = w6 := ⟨_, rfl⟩
            rw [hw6] at HG1 ⊢
            clear hw6 c0 c1 c2 c3 c4 c5 G1
            obtain ⟨pq, pqc, hO, hS, hT, _⟩ := HG1.out
            have H6 := Lib.hid (H5.out.but hT)
            have HO6 := Lib.hid hO
            have HS6 := Lib.hid hS
            clear hO hS hT HG1
            obtain ⟨_, _, g', off', e', _, c0, c1, c2, c3, c4, c5⟩ := (HL.out.keep H6.out.bel hN) k x HX.out
            cases e'
            have G2 := Lib.hid (fun (X : World) (hX : But (fun _ => False) w6 X) => apt_getb H6.out hX x.ins x.at_ wi wa)
            go_upto_region 12 with fail
            go_cut [9, 10] (fun s7 s8 wx => ∃ b, s7 = .pointer (some ⟨b, 0, none⟩) ∧ s8 = .bool false ∧ Hid (Got w6 wx b zeroMm))
            case first =>
              have hA := (But.refl (fun _ => False) w6).alloc (.cells #[.int .i64 0, .int .i64 0, .bool false, .int .i64 0, .int .i64 0, .slice none 0 0] 30)
              have d0 := hA.cell (p := ⟨g, off + k * 6, none⟩) (fun h => h) c0
              have d1 := hA.cell (p := ⟨g, off + k * 6 + 1, none⟩) (fun h => h) c1
              clear c2 c3 c4 c5 hA
              have HZ := Lib.hid (Own.fresh w6 30 [.int .i64 0, .int .i64 0, .bool false, .int .i64 0, .int .i64 0, .slice none 0 0])
              go_region_law ((go_simp; go_at_call 11; first | (refine (G2.out _ ((But.refl _ _).drew)).mono ?_; rintro e wy ⟨po, pd, rfl, hs, hb⟩; have HS := Lib.hid hs; have HBY := Lib.hid hb; clear hs hb) | (refine (G2.out _ (((But.refl _ _).alloc _).drew)).mono ?_; rintro e wy ⟨po, pd, rfl, hs, hb⟩; have HOY := Lib.hid (HZ.out.on_drew.under hb HZ.out.on_drew.lt); have HS := Lib.hid hs; have HBY := Lib.hid hb; clear hs hb; obtain ⟨y0, y1, y2, y3, y4, y5, z0, z1, z2, z3, z4, z5⟩ := HOY.out.six)))
              all_goals go_wp2_with fail
              all_goals go_meet
              all_goals first
                | (have hq := HOY; clear hq; rw [set6_fold]; exact ⟨_, rfl, rfl, Lib.hid (got_early (((But.refl _ _).alloc _).drew) HZ.out.on_drew HBY.out HS.out (fun _ h => h))⟩)
                | exact ⟨_, rfl, rfl, Lib.hid (got_late ((But.refl _ _).drew) HBY.out HS.out)⟩
            case rest =>
              obtain ⟨qb, rfl, rfl, HG2⟩ := hcut
              obtain ⟨w7, hw7⟩ : ∃ w7, wc = w7 := ⟨_, rfl⟩
              rw [hw7] at HG2 ⊢
              clear hw7 c0 c1 c2 c3 c4 c5 G2
              obtain ⟨_, _, _, _, hT, _⟩ := HG2.out
              have H7 := Lib.hid (H6.out.but hT)
              have HO7 := Lib.hid (HO6.out.but hT (fun h => h))
              have HS7 := Lib.hid (HS6.out.keep hT (fun _ _ _ h => h))
              clear hT HG2 HO6 HS6 H6
              obtain ⟨_, _, g', off', e', _, c0, c1, c2, c3, c4, c5⟩ := (HL.out.keep H7.out.bel hN) k x HX.out
              cases e'
              have G3 := Lib.hid (fun (X : World) (hX : But (fun _ => False) w7 X) => apt_getc H7.out hX x.ins x.at_ wi wa)
              go_upto_region 13 with fail
              go_cut [11, 12] (fun s7 s8 wx => ∃ b, s7 = .pointer (some ⟨b, 0, none⟩) ∧ s8 = .bool false ∧ Hid (Got w7 wx b zeroMm))
              case first =>
                have hA := (But.refl (fun _ => False) w7).alloc (.cells #[.int .i64 0, .int .i64 0, .bool false, .int .i64 0, .int .i64 0, .slice none 0 0] 30)
                have d0 := hA.cell (p := ⟨g, off + k * 6, none⟩) (fun h => h) c0
                have d1 := hA.cell (p := ⟨g, off + k * 6 + 1, none⟩) (fun h => h) c1
                clear c2 c3 c4 c5 hA
                have HZ := Lib.hid (Own.fresh w7 30 [.int .i64 0, .int .i64 0, .bool false, .int .i64 0, .int .i64 0, .slice none 0 0])
                go_region_law ((go_simp; go_at_call 11; first | (refine (G3.out _ ((But.refl _ _).drew)).mono ?_; rintro e wy ⟨po, pd, rfl, hs, hb⟩; have HS := Lib.hid hs; have HBY := Lib.hid hb; clear hs hb) | (refine (G3.out _ (((But.refl _ _).alloc _).drew)).mono ?_; rintro e wy ⟨po, pd, rfl, hs, hb⟩; have HOY := Lib.hid (HZ.out.on_drew.under hb HZ.out.on_drew.lt); have HS := Lib.hid hs; have HBY := Lib.hid hb; clear hs hb; obtain ⟨y0, y1, y2, y3, y4, y5, z0, z1, z2, z3, z4, z5⟩ := HOY.out.six)))
                all_goals go_wp2_with fail
                all_goals go_meet
                all_goals first
                  | (have hq := HOY; clear hq; rw [set6_fold]; exact ⟨_, rfl, rfl, Lib.hid (got_early (((But.refl _ _).alloc _).drew) HZ.out.on_drew HBY.out HS.out (fun _ h => h))⟩)
                  | exact ⟨_, rfl, rfl, Lib.hid (got_late ((But.refl _ _).drew) HBY.out HS.out)⟩
              case rest =>
                obtain ⟨qc, rfl, rfl, HG3⟩ := hcut
                obtain ⟨w8, hw8⟩ : ∃ w8, wc = w8 := ⟨_, rfl⟩
                rw [hw8] at HG3 ⊢
                clear hw8 c0 c1 c2 c3 c4 c5 G3
                obtain ⟨_, _, _, _, hT, _⟩ := HG3.out
                have H8 := Lib.hid (H7.out.but hT)
                have HO8 := Lib.hid (HO7.out.but hT (fun h => h))
                have HS8 := Lib.hid (HS7.out.keep hT (fun _ _ _ h => h))
                clear hT HG3 HO7 HS7 H7
                obtain ⟨_, hpx, g', off', e', _, c0, c1, c2, c3, c4, c5⟩ := (HL.out.keep H8.out.bel hN) k x HX.out
                cases e'
                have HPX := Lib.hid hpx
                obtain ⟨y0, y1, y2, y3, y4, y5, _⟩ := HO8.out.six
                have CS := Lib.hid (fun (X : World) (hX : Below w8.heap.size w8 X) => same_any X _ _ x (fun _ => True) (fun g => g < N) (by omega) ⟨pq, pqc, rfl, HS8.out.below hX⟩ ⟨x.po, x.pc, rfl, HPX.out.below hX⟩)
                clear hpx
                have k0 := cell_regrown y0
                have k1 := cell_regrown y1
                have k2 := cell_regrown y2
                have k3 := cell_regrown y3
                have k4 := cell_regrown y4
                have k5 := cell_regrown y5
                have j0 := cell_regrown c0
                have j1 := cell_regrown c1
                have j2 := cell_regrown c2
                have j3 := cell_regrown c3
                have j4 := cell_regrown c4
                have j5 := cell_regrown c5
                clear y0 y1 y2 y3 y4 y5 c0 c1 c2 c3 c4 c5
                go_upto_region 14 with fail
                refine wp_region_quiet_below (by kernel_rfl) (by kernel_rfl) ?_
                repeat (go_big_quiet_step ((go_at_call 13; exact Calls.regrown_of (CS.out _ (below_regrown _ _ _)))))
                refine wpQuiet_nil ?_
                intro _ hw'
                obtain ⟨⟨dq, osq⟩, hw''⟩ := hw'
                subst hw''
                have H9 := Lib.hid (H8.out.below (below_regrown w8 dq osq))
                clear k0 k1 k2 k3 k4 k5 j0 j1 j2 j3 j4 j5 CS HPX HO8 HS8 H8
                go_wp2
                go_roundw
                case rel => exact ⟨k + 1, by go_num, by omega, _, _, _, _, H9⟩
                case measure => simp [intOf]; omega
        · clear c0 c1 c2 c3 c4 hp
          go_wp2_with fail
          refine (awake_any _).mono ?_
          rintro e w4 ⟨rfl, hb⟩
          go_wp2_with fail
          go_ret
          exact ⟨rfl, H.out.bel.trans (hb.mono H.out.sz)⟩
      · go_wp2_with fail
        refine (awake_any _).mono ?_
        rintro e w4 ⟨rfl, hb⟩
        have H4 := Lib.hid (H.out.below hb)
        clear hb
        go_wp2_with fail
        refine (len_any _ _ _ _ _ H4.out.b).mono ?_
        rintro e w5 ⟨rfl, rfl⟩
        go_wp2_with fail
        refine (len_any _ _ _ _ _ H4.out.c).mono ?_
        rintro e w6 ⟨rfl, rfl⟩
        go_wp2_with fail
        go_ret
        exact ⟨rfl, H4.out.bel⟩
  · go_enter Try.func5, Try.ntmps5
    go_wp2_with fail
    refine (awake_any _).mono ?_
    rintro e w1 ⟨rfl, hb⟩
    go_wp2_with fail
    go_ret
    exact ⟨rfl, hb.mono hN⟩
end Go.Proofs.Ytgpglmponbipbab
