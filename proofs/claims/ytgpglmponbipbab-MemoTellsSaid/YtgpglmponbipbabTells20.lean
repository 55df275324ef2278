/- The law MemoTells, walked. -/
import Derived.Test.YtgpglmponbipbabAwake20
import Derived.Deep.DeepCutAuto
import Derived.Deep.Cut
import Derived.Deep.CutRange
import Derived.Lib.QuietBelow
import Derived.BigQuiet
namespace Go.Proofs.Ytgpglmponbipbab
set_option linter.unusedVariables false
open Go.RowKit Go.Sort

/-- The two memos are one list. -/
structure Tl (N : Nat) (most : Int) (w wr : World) (pa pb k : Nat) (L La : List Mm) (Ua Ub : Nat → Prop) : Prop where
  a : MemoRep wr pa Ua most La
  b : Rref wr pb Ub most La
  len : La.length ≤ k
  sub : ∀ x ∈ La, x ∈ L
  ab : Dj Ua Ub
  ga : ∀ g, Ua g → N ≤ g
  gb : ∀ g, Ub g → N ≤ g
  bel : Below N w wr
  sz : N ≤ wr.heap.size
theorem Tl.but {N : Nat} {most : Int} {w wr w' : World} {pa pb k : Nat} {L La : List Mm} {Ua Ub : Nat → Prop} (h : Tl N most w wr pa pb k L La Ua Ub) (hb : But (fun _ => False) wr w') : Tl N most w w' pa pb k L La Ua Ub :=
  ⟨h.a.keep hb (fun _ _ h => h), h.b.keep hb (fun _ _ h => h), h.len, h.sub, h.ab, h.ga, h.gb, h.bel.trans (hb.below h.sz (fun _ h => h.elim)), Nat.le_trans h.sz hb.size⟩
theorem MemoRep.parts {w : World} {p : Nat} {U : Nat → Prop} {most : Int} {L : List Mm} (h : MemoRep w p U most L) (a b : Int) : ((getL L a b).part.length : Int) ≤ 1000 := by
  obtain ⟨mb, T, e, ov, f, ks, r⟩ := h
  unfold getL
  cases hf : L.find? (same a b) with
  | none => decide
  | some y => exact (r.wfs y (List.mem_of_find?_eq_some hf)).2.2
theorem putL_sub {most : Int} {L M : List Mm} {x : Mm} (h : ∀ y ∈ L, y ∈ M) (hx : x ∈ M) : ∀ y ∈ putL most L x, y ∈ M := by
  intro y hy
  unfold putL at hy
  split at hy
  · rcases repL_mem hy with rfl | hy
    · exact hx
    · exact h y hy
  · split at hy
    · rcases List.mem_append.1 hy with hy | hy
      · exact h y hy
      · obtain rfl : y = x := by simpa using hy
        exact hx
    · split at hy
      · rcases List.mem_append.1 hy with hy | hy
        · exact h y (List.mem_of_mem_tail hy)
        · obtain rfl : y = x := by simpa using hy
          exact hx
      · cases hy
theorem got_early2 {W W1 w' : World} {z : Mm} {po : Option Addr} {pc : Nat} {R : Nat → Prop} {u0 u1 u2 u3 u4 u5 : Value} (h1 : But (fun _ => False) W W1) (hO : Own W1 W.heap.size 30 [u0, u1, u2, u3, u4, u5]) (hb : Below W1.heap.size W1 w') (hs : HasS R w' po z.part) (hR : ∀ g, R g → g ≠ W.heap.size) :
    Got W (set6 w' W.heap.size (.int .i64 z.ins) (.int .i64 z.at_) (.bool z.ok) (.int .i64 z.en) (.int .i64 z.far) (.slice po z.part.length pc)) W.heap.size z :=
  ⟨po, pc, (hO.under hb hO.lt).put6, (hs.keep (But.put6 w' _ _ _ _ _ _ _) (fun g _ hg e => hR g hg e)).mono (fun _ _ _ => trivial),
    (h1.then_below hb).trans (But.put6 w' _ _ _ _ _ _ _) (fun g hg e => by omega) |>.mono (fun g hg e => e), Nat.le_refl _⟩

theorem tl_geta {N : Nat} {most : Int} {w wr : World} {pa pb k : Nat} {L La : List Mm} {Ua Ub : Nat → Prop} (h : Tl N most w wr pa pb k L La Ua Ub) {X : World} (hX : But (fun _ => False) wr X) (a b : Int) (wi : Wf a) (wa : Wf b) (z : Mm) (q : Bool) (hz : getL La a b = z) (hq : hasL La a b = q) :
    Calls Try.prog 11 #[.pointer (some ⟨pa, 0, none⟩), .int .i64 a, .int .i64 b] X
      fun e w' => ∃ po pc, e = .returned (.tuple #[.agg #[.int .i64 z.ins, .int .i64 z.at_, .bool z.ok, .int .i64 z.en, .int .i64 z.far, .slice po z.part.length pc], .bool q]) ∧ HasS (fun g => X.heap.size ≤ g) w' po z.part ∧ Below X.heap.size X w' := by
  subst hz hq
  refine (get_any X pa Ua most La a b wi wa (h.a.keep hX (fun _ _ h => h))).mono ?_
  rintro e w' ⟨v, rfl, ⟨po, pc, rfl, hs⟩, hb⟩
  exact ⟨po, pc, rfl, hs, hb⟩
theorem tl_getb {N : Nat} {most : Int} {w wr : World} {pa pb k : Nat} {L La : List Mm} {Ua Ub : Nat → Prop} (h : Tl N most w wr pa pb k L La Ua Ub) (hk : (k : Int) ≤ 1000) {ao : Option Addr} (hL : HasM N wr ao L) {X : World} (hX : But (fun _ => False) wr X) (a b : Int) (z : Mm) (q : Bool) (hz : getL La a b = z) (hq : hasL La a b = q) :
    Calls Try.prog 12 #[.pointer (some ⟨pb, 0, none⟩), .int .i64 a, .int .i64 b] X
      fun e w' => ∃ po pc, e = .returned (.tuple #[.agg #[.int .i64 z.ins, .int .i64 z.at_, .bool z.ok, .int .i64 z.en, .int .i64 z.far, .slice po z.part.length pc], .bool q]) ∧ HasS (fun g => g < N) w' po z.part ∧ Below X.heap.size X w' := by
  have hl := h.len
  refine (rget_all X pb Ub most La a b (by omega) (h.b.keep hX (fun _ _ h => h))).mono ?_
  rintro e w' ⟨rfl, hb⟩
  have hp : HasS (fun g => g < N) wr (getL La a b).po (getL La a b).part := by
    unfold getL
    cases hf : La.find? (same a b) with
    | none => exact HasS.nil _ _ _
    | some y =>
      obtain ⟨i, hi⟩ := List.getElem?_of_mem (h.sub y (List.mem_of_find?_eq_some hf))
      exact (hL i y hi).2.1
  subst hz hq
  exact ⟨_, _, rfl, (hp.keep hX (fun _ _ _ h => h)).below hb, hb⟩

set_option maxRecDepth 1000000 in
set_option maxHeartbeats 12800000 in
theorem tells_walk (most : Int) (L : List Mm) (ao : Option Addr) (cap : Nat) (w : World) (hl : HasM w.heap.size w ao L) :
    Calls Try.prog 3 #[.int .i64 most, .slice ao L.length cap] w fun e w' => e = .returned (.bool true) ∧ Below w.heap.size w w' := by
  obtain ⟨N, hNN⟩ : ∃ N, w.heap.size = N := ⟨_, rfl⟩
  have hN : N ≤ w.heap.size := by omega
  obtain ⟨n, hnn⟩ : ∃ n, L.length = n := ⟨_, rfl⟩
  have HN := Lib.hid hnn
  rw [hNN] at hl ⊢
  rw [hnn]
  have HL := Lib.hid hl
  clear hNN hnn hl
  by_cases h1 : (n : Int) ≤ 60
  · go_enter Try.func3, Try.ntmps3
    go_wp2_with fail
    refine (new_any w most).mono ?_
    rintro e w1 ⟨pa, rfl, hb1, ha⟩
    go_wp2_with fail
    refine (rnew_any w1 most).mono ?_
    rintro e w2 ⟨pb, vb, Tb, rfl, hb2, hbm⟩
    have H0 : Hid (Tl N most w w2 pa pb 0 L [] (fun g => w.heap.size ≤ g ∧ g < w1.heap.size) (fun g => w1.heap.size ≤ g ∧ g < w2.heap.size)) :=
      Lib.hid (by
        have s1 := hb1.size
        have s2 := hb2.size
        exact ⟨ha.below hb2, ⟨vb, Tb, hbm⟩, Nat.le_refl _, (fun x h => by cases h), fun g h h' => by omega, fun g h => by omega, fun g h => by omega, (hb1.mono hN).trans (hb2.mono (by omega)), by omega⟩)
    clear ha hbm hb1 hb2
    go_wp2_with fail
    go_loopw [7] (fun b7 wr => ∃ k : Nat, b7 = .int .i64 (k : Int) ∧ (k : Int) ≤ n ∧ ∃ La Ua Ub, Hid (Tl N most w wr pa pb k L La Ua Ub)) (fun b7 _ => n - (intOf b7).toNat)
    case atStart => exact ⟨0, rfl, by omega, _, _, _, H0⟩
    case round =>
      obtain ⟨k, rfl, hk2, La, Ua, Ub, H⟩ := hrel
      clear H0
      by_cases h2 : (k : Int) < n
      · obtain ⟨x, hx⟩ : ∃ x, L[k]? = some x := ⟨_, List.getElem?_eq_getElem (by have := HN.out; omega)⟩
        obtain ⟨⟨wi, wa⟩, hp, g, off, rfl, hg, c0, c1, c2, c3, c4, c5⟩ := (HL.out.keep H.out.bel hN) k x hx
        have HX := Lib.hid hx
        clear hx
        by_cases h3 : (x.part.length : Int) ≤ 20
        · have HP := Lib.hid hp
          have hlen := H.out.len
          clear hp
          go_wp2_with fail
          refine (put_any wr pa Ua most La x (by omega) wi wa (by omega) (fun g => g < N) (fun g _ hg hu => by have := H.out.ga g hu; omega) HP.out H.out.a).mono ?_
          rintro e w4 ⟨rfl, hb4, ha4⟩
          have HB4 := Lib.hid (H.out.b.keep hb4 H.out.ab.symm)
          have HA4 := Lib.hid (show MemoRep w4 pa (Grow Ua wr w4) most (putL most La x) from ha4)
          have HU4 := Lib.hid (show Dj (Grow Ua wr w4) Ub from H.out.ab.grow H.out.b.lt)
          have hbel := H.out.bel.trans (hb4.below H.out.sz H.out.ga)
          have hsz4 := Nat.le_trans H.out.sz hb4.size
          have HG4 := Lib.hid (@grow_ge Ua wr w4 N H.out.ga H.out.sz)
          clear ha4 hb4 c0 c1 c2 c3 c4 c5
          obtain ⟨_, _, g', off', e', _, c0, c1, c2, c3, c4, c5⟩ := (HL.out.keep hbel hN) k x HX.out
          cases e'
          go_wp2_with fail
          refine (rput_any w4 pb Ub most La x (by omega) HB4.out).mono ?_
          rintro e w5 ⟨rfl, hb5, hc5⟩
          have H5 : Hid (Tl N most w w5 pa pb (k + 1) L (putL most La x) (Grow Ua wr w4) (Grow Ub w4 w5)) := Lib.hid
            ⟨HA4.out.keep hb5 HU4.out, hc5, by have := @putL_len most La x; omega, putL_sub H.out.sub (List.mem_of_getElem? HX.out), (HU4.out.symm.grow HA4.out.lt).symm, HG4.out, grow_ge H.out.gb hsz4, hbel.trans (hb5.below hsz4 H.out.gb), Nat.le_trans hsz4 hb5.size⟩
          clear hc5 hb5 c0 c1 c2 c3 c4 c5 HP HB4 HA4 HU4 hbel hsz4 HG4 H HX wi wa h3 hlen
          generalize putL most La x = Lx at *
          generalize Grow Ua wr w4 = Va at *
          generalize Grow Ub w4 w5 = Vb at *
          go_wp2_with fail
          go_loopw [8] (fun b8 wr => ∃ j : Nat, b8 = .int .i64 (j : Int) ∧ (j : Int) ≤ (k : Int) + 1 ∧ Hid (Tl N most w wr pa pb (k + 1) L Lx Va Vb)) (fun b8 _ => k + 1 - (intOf b8).toNat)
          case atStart => exact ⟨0, rfl, by omega, H5⟩
          case round =>
            obtain ⟨j, rfl, hj2, H6⟩ := hrel
            clear H5
            by_cases h4 : (j : Int) ≤ k
            · have hjn : (j : Int) < n := by omega
              obtain ⟨y, hy⟩ : ∃ y, L[j]? = some y := ⟨_, List.getElem?_eq_getElem (by have := HN.out; omega)⟩
              obtain ⟨⟨yi, ya⟩, _, g', off', e', _, c0, c1, c2, c3, c4, c5⟩ := (HL.out.keep H6.out.bel hN) j y hy
              cases e'
              have HY := Lib.hid hy
              obtain ⟨z, hz⟩ : ∃ z, getL Lx y.ins y.at_ = z := ⟨_, rfl⟩
              obtain ⟨q, hq⟩ : ∃ q, hasL Lx y.ins y.at_ = q := ⟨_, rfl⟩
              have hzl : (z.part.length : Int) ≤ 1000 := by rw [← hz]; exact H6.out.a.parts _ _
              have HZQ := Lib.hid (And.intro hz hq)
              have G1 := Lib.hid (fun (X : World) (hX : But (fun _ => False) wr X) => tl_geta H6.out hX y.ins y.at_ yi ya z q HZQ.out.1 HZQ.out.2)
              have hsz6 := H6.out.sz
              clear hz hq hy
              go_upto_region 14 with fail
              go_cut [9, 10] (fun s7 s8 wx => ∃ b, s7 = .pointer (some ⟨b, 0, none⟩) ∧ s8 = .bool q ∧ Hid (Got wr wx b z))
              case first =>
                have hA := (But.refl (fun _ => False) wr).alloc (.cells #[.int .i64 0, .int .i64 0, .bool false, .int .i64 0, .int .i64 0, .slice none 0 0] 30)
                have d0 := hA.cell (p := ⟨g, off + j * 6, none⟩) (fun h => h) c0
                have d1 := hA.cell (p := ⟨g, off + j * 6 + 1, none⟩) (fun h => h) c1
                clear c2 c3 c4 c5 hA
                have HZ := Lib.hid (Own.fresh wr 30 [.int .i64 0, .int .i64 0, .bool false, .int .i64 0, .int .i64 0, .slice none 0 0])
                go_region_law ((go_simp; go_at_call 11; first | (refine (G1.out _ ((But.refl _ _).drew)).mono ?_; rintro e wy ⟨po, pd, rfl, hs, hb⟩; have HS := Lib.hid hs; have HBY := Lib.hid hb; clear hs hb) | (refine (G1.out _ (((But.refl _ _).alloc _).drew)).mono ?_; rintro e wy ⟨po, pd, rfl, hs, hb⟩; have HOY := Lib.hid (HZ.out.on_drew.under hb HZ.out.on_drew.lt); have HS := Lib.hid hs; have HBY := Lib.hid hb; clear hs hb; obtain ⟨y0, y1, y2, y3, y4, y5, z0, z1, z2, z3, z4, z5⟩ := HOY.out.six)))
                all_goals go_wp2_with fail
                all_goals go_meet
                all_goals first
                  | (have hq := HOY; clear hq; rw [set6_fold]; exact ⟨_, rfl, rfl, Lib.hid (got_early2 (((But.refl _ _).alloc _).drew) HZ.out.on_drew HBY.out HS.out (by intro u hu e; first | (have h' : (wr.alloc (.cells #[.int .i64 0, .int .i64 0, .bool false, .int .i64 0, .int .i64 0, .slice none 0 0] 30)).heap.size ≤ u := hu; rw [World.size_alloc] at h'; omega) | (have h' : u < N := hu; omega)))⟩)
                  | exact ⟨_, rfl, rfl, Lib.hid (got_late ((But.refl _ _).drew) HBY.out HS.out)⟩
              case rest =>
                obtain ⟨qa, rfl, rfl, HG1⟩ := hcut
                obtain ⟨w7, hw7⟩ : ∃ w7, wc = w7 := ⟨_, rfl⟩
                rw [hw7] at HG1 ⊢
                clear hw7 c0 c1 c2 c3 c4 c5 G1 hsz6
                obtain ⟨pq, pqc, hO, hS, hT, _⟩ := HG1.out
                have H7 := Lib.hid (H6.out.but hT)
                have HO7 := Lib.hid hO
                have HS7 := Lib.hid hS
                clear hO hS hT HG1 H6
                obtain ⟨_, _, g', off', e', _, c0, c1, c2, c3, c4, c5⟩ := (HL.out.keep H7.out.bel hN) j y HY.out
                cases e'
                have G2 := Lib.hid (fun (X : World) (hX : But (fun _ => False) w7 X) => tl_getb H7.out (by omega) (HL.out.keep H7.out.bel hN) hX y.ins y.at_ z q HZQ.out.1 HZQ.out.2)
                have hsz7 := H7.out.sz
                go_upto_region 15 with fail
                go_cut [11, 12] (fun s7 s8 wx => ∃ b, s7 = .pointer (some ⟨b, 0, none⟩) ∧ s8 = .bool q ∧ Hid (Got w7 wx b z))
                case first =>
                  have hA := (But.refl (fun _ => False) w7).alloc (.cells #[.int .i64 0, .int .i64 0, .bool false, .int .i64 0, .int .i64 0, .slice none 0 0] 30)
                  have d0 := hA.cell (p := ⟨g, off + j * 6, none⟩) (fun h => h) c0
                  have d1 := hA.cell (p := ⟨g, off + j * 6 + 1, none⟩) (fun h => h) c1
                  clear c2 c3 c4 c5 hA
                  have HZ := Lib.hid (Own.fresh w7 30 [.int .i64 0, .int .i64 0, .bool false, .int .i64 0, .int .i64 0, .slice none 0 0])
                  go_region_law ((go_simp; go_at_call 12; first | (refine (G2.out _ ((But.refl _ _).drew)).mono ?_; rintro e wy ⟨po, pd, rfl, hs, hb⟩; have HS := Lib.hid hs; have HBY := Lib.hid hb; clear hs hb) | (refine (G2.out _ (((But.refl _ _).alloc _).drew)).mono ?_; rintro e wy ⟨po, pd, rfl, hs, hb⟩; have HOY := Lib.hid (HZ.out.on_drew.under hb HZ.out.on_drew.lt); have HS := Lib.hid hs; have HBY := Lib.hid hb; clear hs hb; obtain ⟨y0, y1, y2, y3, y4, y5, z0, z1, z2, z3, z4, z5⟩ := HOY.out.six)))
                  all_goals go_wp2_with fail
                  all_goals go_meet
                  all_goals first
                    | (have hq := HOY; clear hq; rw [set6_fold]; exact ⟨_, rfl, rfl, Lib.hid (got_early2 (((But.refl _ _).alloc _).drew) HZ.out.on_drew HBY.out HS.out (by intro u hu e; first | (have h' : (w7.alloc (.cells #[.int .i64 0, .int .i64 0, .bool false, .int .i64 0, .int .i64 0, .slice none 0 0] 30)).heap.size ≤ u := hu; rw [World.size_alloc] at h'; omega) | (have h' : u < N := hu; omega)))⟩)
                    | exact ⟨_, rfl, rfl, Lib.hid (got_late ((But.refl _ _).drew) HBY.out HS.out)⟩
                case rest =>
                  obtain ⟨qb, rfl, rfl, HG2⟩ := hcut
                  obtain ⟨w8, hw8⟩ : ∃ w8, wc = w8 := ⟨_, rfl⟩
                  rw [hw8] at HG2 ⊢
                  clear hw8 c0 c1 c2 c3 c4 c5 G2 hsz7
                  obtain ⟨pr, prc, hO, hS, hT, _⟩ := HG2.out
                  have H8 := Lib.hid (H7.out.but hT)
                  have HP8 := Lib.hid hO
                  have HR8 := Lib.hid hS
                  have HO8 := Lib.hid (HO7.out.but hT (fun h => h))
                  have HS8 := Lib.hid (HS7.out.keep hT (fun _ _ _ h => h))
                  clear hO hS hT HG2 HO7 HS7 H7
                  obtain ⟨y0, y1, y2, y3, y4, y5, _⟩ := HO8.out.six
                  obtain ⟨z0, z1, z2, z3, z4, z5, _⟩ := HP8.out.six
                  have CS := Lib.hid (same_any w8 _ _ z (fun _ => True) (fun _ => True) hzl ⟨pq, pqc, rfl, HS8.out⟩ ⟨pr, prc, rfl, HR8.out⟩)
                  have hqq : (q != q) = false := by simp
                  go_wp2_with fail
                  refine CS.out.mono ?_
                  rintro e w9 ⟨rfl, hb⟩
                  have H9 := Lib.hid (H8.out.but (But.of_below hb))
                  clear hb y0 y1 y2 y3 y4 y5 z0 z1 z2 z3 z4 z5 CS HO8 HS8 HP8 HR8 H8
                  go_wp2
                  go_roundw
                  case rel => exact ⟨j + 1, by go_num, by omega, H9⟩
                  case measure => simp [intOf]; omega
            · have hj : (j : Int) = k + 1 := by omega
              go_wp2_with fail
              refine (len_any _ _ _ _ _ H6.out.a).mono ?_
              rintro e w7 ⟨rfl, rfl⟩
              go_wp2_with fail
              refine (rlen_all _ _ _ _ _ H6.out.b).mono ?_
              rintro e w8 ⟨rfl, rfl⟩
              go_wp2
              go_roundw
              case rel => exact ⟨k + 1, by go_num, by omega, _, _, _, H6⟩
              case measure => simp [intOf]; omega
        · clear c0 c1 c2 c3 c4 hp
          go_wp2_with fail
          refine (awake_any _).mono ?_
          rintro e w4 ⟨rfl, hb⟩
          go_wp2_with fail
          go_ret
          exact ⟨rfl, H.out.bel.trans (hb.mono H.out.sz)⟩
      · go_wp2_with fail
        refine (awake_any _).mono ?_
        rintro e w4 ⟨rfl, hb⟩
        go_wp2_with fail
        go_ret
        exact ⟨rfl, H.out.bel.trans (hb.mono H.out.sz)⟩
  · go_enter Try.func3, Try.ntmps3
    go_wp2_with fail
    refine (awake_any _).mono ?_
    rintro e w1 ⟨rfl, hb⟩
    go_wp2_with fail
    go_ret
    exact ⟨rfl, hb.mono hN⟩
end Go.Proofs.Ytgpglmponbipbab
