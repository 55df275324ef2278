/- The law NestBack, walked. -/
import Derived.Test.YtgpglmponbipbacNestBk
namespace Go.Proofs.Ytgpglmponbipbac
set_option linter.unusedVariables false
open Go.RowKit Go.Sort

set_option maxRecDepth 1000000 in
set_option maxHeartbeats 12800000 in
theorem back_walk (A B : List Nat) (ao bo : Option Addr) (ac bc : Nat) (w : World) (hl : HasB w.heap.size w ao A) (hk : HasB w.heap.size w bo B) :
    Calls Try.prog 4 #[.slice ao A.length ac, .slice bo B.length bc] w fun e w' => e = .returned (.bool true) ∧ Below w.heap.size w w' := by
  obtain ⟨N, hNN⟩ : ∃ N, w.heap.size = N := ⟨_, rfl⟩
  have hN : N ≤ w.heap.size := by omega
  rw [hNN] at hl hk ⊢
  have HL := Lib.hid hl
  have HK := Lib.hid hk
  clear hNN hl hk
  by_cases h1 : (A.length : Int) ≤ 30
  · by_cases h2 : (B.length : Int) ≤ 30
    · obtain ⟨n, hnn⟩ : ∃ n, B.length = n := ⟨_, rfl⟩
      have HN := Lib.hid hnn
      rw [hnn] at h2 ⊢
      clear hnn
      go_enter Try.func4, Try.ntmps4
      go_wp2_with fail
      refine (ns_new N hN).mono ?_
      rintro e w0 ⟨p, rfl, hb, hs⟩
      have HS := Lib.hid hs
      have hB : Below N w w0 := hb.mono hN
      clear hb hs
      go_wp2_with fail
      refine (grow_any N _ w0 p A ao ac (by omega) (HL.out.keep hB) HS.out).mono ?_
      rintro e w1 ⟨rfl, hb, L0, hl0, t0, hs⟩
      have HS := Lib.hid hs
      have hB := hB.trans hb
      clear hb hs
      go_wp2_with fail
      refine (ns_mark HS.out).mono ?_
      rintro e w2 ⟨rfl, hb⟩
      have HS := Lib.hid (HS.out.below hb)
      have hB := hB.trans (hb.mono (by have := HS.out.sz; have := hB.size; omega))
      clear hb
      go_wp2_with fail
      refine (ns_tree HS.out (by omega)).mono ?_
      rintro e w3 ⟨wo, wc, rfl, hT, hb⟩
      have hb4 : Below w2.heap.size w2 (w3.alloc (.cells #[.int .i64 (L0.length : Int), .int .i64 t0] 33)) := hb.alloc hb.size _
      have HM0 : Own (w3.alloc (.cells #[.int .i64 (L0.length : Int), .int .i64 t0] 33)) w3.heap.size 33 [.int .i64 (L0.length : Int), .int .i64 t0] := Own.fresh w3 _ [.int .i64 (L0.length : Int), .int .i64 t0]
      have HT0 := hT.below ((Below.refl _ _).alloc (Nat.le_refl _) (.cells #[.int .i64 (L0.length : Int), .int .i64 t0] 33))
      have hn2 := HS.out.sz
      have hs3 := hb.size
      have hB := hB.trans (hb4.mono hn2)
      go_wp2_with fail
      generalize w3.alloc (.cells #[.int .i64 (L0.length : Int), .int .i64 t0] 33) = w4 at *
      have HS := Lib.hid (HS.out.more (Y := fun g => w2.heap.size ≤ g ∧ g < w4.heap.size) hb4 (fun g hg => .inr hg))
      have HT := Lib.hid (HT0.mono (S := fun g => w2.heap.size ≤ g ∧ g < w4.heap.size) (fun g hl hg => ⟨hg, hl⟩))
      have HM := Lib.hid HM0
      have hmb : w2.heap.size ≤ w3.heap.size ∧ w3.heap.size < w4.heap.size := ⟨hs3, HM0.lt⟩
      have HB := Lib.hid hB
      have h24 := hb4.size
      have ht0 := HS.out.ups.2
      obtain ⟨l0, hll⟩ : ∃ l0, L0.length = l0 := ⟨_, rfl⟩
      have HLL := Lib.hid hll
      have H0 := Lib.hid (Since.start L0 t0)
      rw [hll] at hl0 ht0 HM ⊢
      clear hll hb hT HM0 HT0 hb4 hB
      go_loopw [8, 9] (fun b8 b9 wr => ∃ k : Nat, b9 = .int .i64 (k : Int) ∧ (k : Int) ≤ n ∧ ∃ m : Nat, b8 = .int .i64 (m : Int) ∧ (m : Int) ≤ k ∧ ∃ L top, L.length ≤ l0 + k ∧ Hid (Since L0 t0 L top m) ∧ Hid (Ns N (fun g => w2.heap.size ≤ g ∧ g < w4.heap.size) wr p L top) ∧ Hid (But (Off (fun g => w2.heap.size ≤ g ∧ g < w4.heap.size)) w4 wr) ∧ Hid (Below N w wr))
        (fun _ b9 _ => n - (intOf b9).toNat)
      case atStart => exact ⟨0, rfl, by omega, 0, rfl, by omega, L0, t0, by have := HLL.out; omega, H0, HS, Lib.hid (But.refl _ _), HB⟩
      case round =>
        obtain ⟨k, rfl, hk2, m, rfl, hmk, L, top, hlk, HI, H, hx, hb⟩ := hrel
        clear H0 HS HB
        by_cases h3 : (k : Int) < n
        · obtain ⟨c, hc⟩ : ∃ c, B[k]? = some c := ⟨_, List.getElem?_eq_getElem (by have := HN.out; omega)⟩
          obtain ⟨hc256, g, off, rfl, hg, cc⟩ := (HK.out.keep hb.out) k c hc
          clear hc
          have h4 : c % 3 = 0 ∨ c % 3 = 1 ∨ c % 3 = 2 := by omega
          rcases h4 with h4 | h4 | h4
          · have h5 : (((c : Int) % 3) == 0) = true := by rw [beq_iff_eq]; omega
            go_wp2_with fail
            refine (ns_leaf H.out 4 k ((k : Int) + 1) (by omega)).mono ?_
            rintro e w5 ⟨rfl, hb5, hx5, hs⟩
            have HS := Lib.hid hs
            have HB := Lib.hid (hb.out.trans hb5)
            have HX := Lib.hid (hx.out.trans hx5 (fun _ _ h => h))
            clear hs hb5 hx5 cc
            go_wp2
            go_roundw
            case rel => exact ⟨k + 1, by go_num, by omega, m, rfl, by omega, _, _, by simp; omega, Lib.hid (HI.out.snoc rfl), HS, HX, HB⟩
            case measure => simp [intOf]; omega
          · have h5 : (((c : Int) % 3) == 0) = false := by rw [beq_eq_false_iff_ne]; omega
            have h6 : (((c : Int) % 3) == 1) = true := by rw [beq_iff_eq]; omega
            go_wp2_with fail
            refine (ns_open H.out 1 ⟨#[120]⟩ k (by omega)).mono ?_
            rintro e w5 ⟨rfl, hb5, hx5, hs⟩
            have HS := Lib.hid hs
            have HB := Lib.hid (hb.out.trans hb5)
            have HX := Lib.hid (hx.out.trans hx5 (fun _ _ h => h))
            clear hs hb5 hx5 cc
            go_wp2
            go_roundw
            case rel => exact ⟨k + 1, by go_num, by omega, m + 1, by go_num, by omega, _, _, by simp; omega, Lib.hid (HI.out.opened rfl), HS, HX, HB⟩
            case measure => simp [intOf]; omega
          · have h5 : (((c : Int) % 3) == 0) = false := by rw [beq_eq_false_iff_ne]; omega
            have h6 : (((c : Int) % 3) == 1) = false := by rw [beq_eq_false_iff_ne]; omega
            cases m with
            | zero =>
              go_wp2
              go_roundw
              case rel => exact ⟨k + 1, by go_num, by omega, 0, rfl, by omega, _, _, by omega, HI, H, hx, hb⟩
              case measure => simp [intOf]; omega
            | succ m =>
              obtain ⟨t, x, rfl, hxt, hsc⟩ := HI.out.closed (to' := (k : Int))
              have HX1 := Lib.hid hxt
              have HSC := Lib.hid hsc
              clear hxt hsc
              go_wp2_with fail
              refine (ns_close H.out k x (by omega) HX1.out).mono ?_
              rintro e w5 ⟨rfl, hb5, hx5, hs⟩
              have HS := Lib.hid hs
              have HB := Lib.hid (hb.out.trans hb5)
              have HX := Lib.hid (hx.out.trans hx5 (fun _ _ h => h))
              clear hs hb5 hx5 cc
              go_wp2
              go_roundw
              case rel => exact ⟨k + 1, by go_num, by omega, m, by go_num, by omega, _, _, by rw [List.length_set]; omega, HSC, HS, HX, HB⟩
              case measure => simp [intOf]; omega
        · clear HN HK
          have HT1 := Lib.hid (HT.out.off_but hx.out (fun g _ hg => hg))
          have HM1 := Lib.hid (HM.out.off_but hx.out hmb)
          have HXS := Lib.hid hx.out.size
          clear HT HM hx
          go_wp2_with fail
          refine (ns_tree H.out (by omega)).mono ?_
          rintro e w5 ⟨yo, yc, rfl, hT2, hb5⟩
          have HM2 := Lib.hid (HM1.out.under hb5 HM1.out.lt)
          obtain ⟨m0, m1, -, -⟩ := HM2.out.two
          have HX0 := Lib.hid (show ∀ g, (w2.heap.size ≤ g ∧ g < w4.heap.size) → g < wr.heap.size from fun g hg => by have := HXS.out; omega)
          have H2 := Lib.hid (H.out.more (Y := fun g => w2.heap.size ≤ g ∧ g < w4.heap.size ∨ wr.heap.size ≤ g ∧ g < w5.heap.size) hb5 (fun g hg => hg.imp id id))
          have HT3 := Lib.hid ((HT1.out.below hb5).mono (S := fun g => w2.heap.size ≤ g ∧ g < w4.heap.size ∨ wr.heap.size ≤ g ∧ g < w5.heap.size) (fun g _ hg => .inl hg))
          have HA3 := Lib.hid (hT2.mono (S := fun g => w2.heap.size ≤ g ∧ g < w4.heap.size ∨ wr.heap.size ≤ g ∧ g < w5.heap.size) (fun g hl hg => .inr ⟨hg, hl⟩))
          have HB5 := Lib.hid (hb.out.trans (hb5.mono H.out.sz))
          have HU := Lib.hid H.out.ups
          clear hb5 hT2 HM1 HT1 H hb HXS HX0
          generalize hY : (fun g => w2.heap.size ≤ g ∧ g < w4.heap.size ∨ wr.heap.size ≤ g ∧ g < w5.heap.size) = Y at *
          have hYm : Y w3.heap.size := by rw [← hY]; exact .inl hmb
          clear hY
          obtain ⟨q, hq⟩ : ∃ q, (partL L l0).length = q := ⟨_, rfl⟩
          have HQ := Lib.hid hq
          have hpl := HI.out.part_len
          rw [HLL.out, hq] at hpl
          obtain ⟨lk, hlk2⟩ : ∃ lk, L.length = lk := ⟨_, rfl⟩
          have HLK := Lib.hid hlk2
          rw [hlk2] at hlk hpl
          rw [hlk2]
          have hll0 : l0 ≤ lk := by have := HI.out.len; rw [HLL.out, hlk2] at this; exact this
          have hw : IntKind.i64.wrap ((lk : Int) - (l0 : Int)) = (lk : Int) - (l0 : Int) := by rw [IntKind.wrap_i64]; omega
          have hqb : ((q : Int) == IntKind.i64.wrap ((lk : Int) - (l0 : Int))) = true := by rw [beq_iff_eq, hw]; exact hpl
          have hqb2 : ((q : Int) != IntKind.i64.wrap ((lk : Int) - (l0 : Int))) = false := by rw [bne, hqb]; rfl
          have HPL := Lib.hid hpl
          clear hq hlk2 hpl hw hqb
          go_wp2_with fail
          refine (ns_part H2.out l0 t0 (by rw [HLK.out]; omega) (by rw [HLK.out]; omega) ht0.1 ht0.2).mono ?_
          rintro e w6 ⟨po, pd, rfl, hP, hb6⟩
          rw [HQ.out]
          have HM3 := Lib.hid (HM2.out.under hb6 HM2.out.lt)
          have H3 := Lib.hid (H2.out.more (Y := fun g => Y g ∨ w5.heap.size ≤ g ∧ g < w6.heap.size) hb6 (fun g hg => hg.imp id id))
          have HT4 := Lib.hid ((HT3.out.below hb6).mono (S := fun g => Y g ∨ w5.heap.size ≤ g ∧ g < w6.heap.size) (fun g _ hg => .inl hg))
          have HA4 := Lib.hid ((HA3.out.below hb6).mono (S := fun g => Y g ∨ w5.heap.size ≤ g ∧ g < w6.heap.size) (fun g _ hg => .inl hg))
          have HP4 := Lib.hid (hP.mono (S := fun g => Y g ∨ w5.heap.size ≤ g ∧ g < w6.heap.size) (fun g hl hg => .inr ⟨hg, hl⟩))
          have HB6 := Lib.hid (HB5.out.trans (hb6.mono H2.out.sz))
          clear hP hb6 H2 HT3 HA3 HM2 HB5 m0 m1
          generalize hZ : (fun g => Y g ∨ w5.heap.size ≤ g ∧ g < w6.heap.size) = Z at *
          have hZm : Z w3.heap.size := by rw [← hZ]; exact .inl hYm
          clear hZ hYm
          obtain ⟨m0, m1, -, -⟩ := HM3.out.two
          go_wp2_with fail
          refine (ns_back H3.out l0 t0 (by rw [HLK.out]; omega) (by rw [HLK.out]; omega) ht0.1 ht0.2).mono ?_
          rintro e w7 ⟨rfl, hb7, hx7, hs7⟩
          have hpre := HI.out.pre
          rw [HLL.out] at hpre
          rw [hpre] at hs7
          have H7 := Lib.hid hs7
          have HM7 := Lib.hid (HM3.out.off_but hx7 hZm)
          have HT7 := Lib.hid (HT4.out.off_but hx7 (fun g _ hg => hg))
          have HA7 := Lib.hid (HA4.out.off_but hx7 (fun g _ hg => hg))
          have HP7 := Lib.hid (HP4.out.off_but hx7 (fun g _ hg => hg))
          have HB7 := Lib.hid (HB6.out.trans hb7)
          clear hb7 hx7 hs7 hpre H3 HM3 HT4 HA4 HP4 HB6 m0 m1
          obtain ⟨m0, m1, -, -⟩ := HM7.out.two
          go_wp2_with fail
          have KL : (L0.length : Int) ≤ 1000 := by rw [HLL.out]; omega
          go_region_law ((go_simp; first
            | (go_at_call 15; refine (ns_mark (H7.out.below ((Below.refl _ _).drew))).mono ?_; rintro e w8 ⟨rfl, hb8⟩; rw [HLL.out]; have hd8 := (Below.drew (Below.refl w7.heap.size w7)).trans hb8; have H8 := Lib.hid (H7.out.below hd8); have HM8 := Lib.hid (HM7.out.under hd8 HM7.out.lt); have HT8 := Lib.hid (HT7.out.below hd8); have HA8 := Lib.hid (HA7.out.below hd8); have HP8 := Lib.hid (HP7.out.below hd8); have HB8 := Lib.hid (HB7.out.trans (hd8.mono H7.out.sz)); clear hd8 hb8; obtain ⟨n0, n1, -, -⟩ := HM8.out.two)
            | (go_at_call 24; refine (ns_tree H8.out KL).mono ?_; rintro e w9 ⟨zo, zc, rfl, hz, hb9⟩; rw [HLL.out]; have HZ9 := Lib.hid hz; have H9 := Lib.hid (H8.out.below hb9); have HT9 := Lib.hid (HT8.out.below hb9); have HA9 := Lib.hid (HA8.out.below hb9); have HP9 := Lib.hid (HP8.out.below hb9); have HB9 := Lib.hid (HB8.out.trans (hb9.mono H8.out.sz)); clear hz hb9)
            | (go_at_call 19; have hlv := leaves_same L0 zo wo zc wc _ _ KL _ HZ9.out HT9.out; rw [HLL.out] at hlv; refine hlv.mono ?_; clear hlv; rintro e w10 ⟨rfl, hb10⟩; have H10 := Lib.hid (H9.out.below hb10); have HA10 := Lib.hid (HA9.out.below hb10); have HP10 := Lib.hid (HP9.out.below hb10); have HB10 := Lib.hid (HB9.out.trans (hb10.mono H9.out.sz)); clear hb10 HZ9 H9 HT9 HA9 HP9 HB9 H8 HM8 HT8 HA8 HP8 HB8 H7 HM7 HT7 HA7 HP7 HB7 m0 m1 n0 n1 hZm; go_simp; rename_i hKK; refine hKK _ _ ?_; clear hKK;
                (refine wpAny_take (i := 9) (v := ?_) rfl (by kernel_rfl) (by kernel_rfl) (by kernel_rfl) (fun _ _ _ h => h) (Or.inl ⟨by rfl, ?_⟩) ?_; rotate_left; (intro w; go_simp; try with_reducible rfl); go_simp);
                (refine wpAny_take (i := 10) (v := ?_) rfl (by kernel_rfl) (by kernel_rfl) (by kernel_rfl) (fun _ _ _ h => h) (Or.inl ⟨by rfl, ?_⟩) ?_; rotate_left; (intro w; go_simp; try with_reducible rfl); go_simp);
                (refine wpAny_take (i := 11) (v := ?_) rfl (by kernel_rfl) (by kernel_rfl) (by kernel_rfl) (fun _ _ _ h => h) (Or.inl ⟨by rfl, ?_⟩) ?_; rotate_left; (intro w; go_simp; try with_reducible rfl); go_simp);
                (refine wpAny_take (i := 12) (v := ?_) rfl (by kernel_rfl) (by kernel_rfl) (by kernel_rfl) (fun _ _ _ h => h) (Or.inl ⟨by rfl, ?_⟩) ?_; rotate_left; (intro w; go_simp; try with_reducible rfl); go_simp);
                (refine wpAny_take (i := 13) (v := ?_) rfl (by kernel_rfl) (by kernel_rfl) (by kernel_rfl) (fun _ _ _ h => h) (Or.inl ⟨by rfl, ?_⟩) ?_; rotate_left; (intro w; go_simp; try with_reducible rfl); go_simp);
                (refine wpAny_take (i := 14) (v := ?_) rfl (by kernel_rfl) (by kernel_rfl) (by kernel_rfl) (fun _ _ _ h => h) (Or.inl ⟨by rfl, ?_⟩) ?_; rotate_left; (intro w; go_simp; try with_reducible rfl); go_simp);
                (refine wpAny_take (i := 15) (v := ?_) rfl (by kernel_rfl) (by kernel_rfl) (by kernel_rfl) (fun _ _ _ h => h) (Or.inl ⟨by rfl, ?_⟩) ?_; rotate_left; (intro w; go_simp; try with_reducible rfl); go_simp);
                (refine wpAny_take (i := 16) (v := ?_) rfl (by kernel_rfl) (by kernel_rfl) (by kernel_rfl) (fun _ _ _ h => h) (Or.inl ⟨by rfl, ?_⟩) ?_; rotate_left; (intro w; go_simp; try with_reducible rfl); go_simp);
                (refine wpAny_take (i := 17) (v := ?_) rfl (by kernel_rfl) (by kernel_rfl) (by kernel_rfl) (fun _ _ _ h => h) (Or.inl ⟨by rfl, ?_⟩) ?_; rotate_left; (intro w; go_simp; try with_reducible rfl); go_simp);
                (refine wpAny_take (i := 18) (v := ?_) rfl (by kernel_rfl) (by kernel_rfl) (by kernel_rfl) (fun _ _ _ h => h) (Or.inl ⟨by rfl, ?_⟩) ?_; rotate_left; (intro w; go_simp; try with_reducible rfl); go_simp);
                (refine wpAny_take (i := 19) (v := ?_) rfl (by kernel_rfl) (by kernel_rfl) (by kernel_rfl) (fun _ _ _ h => h) (Or.inl ⟨by rfl, ?_⟩) ?_; rotate_left; (intro w; go_simp; try with_reducible rfl); go_simp))))
          all_goals go_wp2_with fail
          all_goals
            rw [← HQ.out]
            refine (ns_add H10.out (partL L l0) po pd Z KL (by rw [HQ.out]; have := HPL.out; omega) HP10.out (fun _ _ h => h)).mono ?_
            rintro e w11 ⟨rfl, hb11, hx11, hs11⟩
            rw [show addL L0 t0 (partL L l0) = L from by rw [← HLL.out]; exact HI.out.again HU.out (by rw [HLL.out]; exact ht0)] at hs11
            have HA11 := Lib.hid (HA10.out.off_but hx11 (fun g _ hg => hg))
            have H11 := Lib.hid hs11
            have HB11 := Lib.hid (HB10.out.trans hb11)
            clear hb11 hx11 hs11 H10 HA10 HB10 HP10
            go_wp2_with fail
            refine (awake_any _).mono ?_
            rintro e w12 ⟨rfl, hb12⟩
            have H12 := Lib.hid (H11.out.below hb12)
            have HA12 := Lib.hid (HA11.out.below hb12)
            have HB12 := Lib.hid (HB11.out.trans (hb12.mono H11.out.sz))
            clear hb12 H11 HA11 HB11
            go_wp2_with fail
            refine (ns_tree H12.out (by rw [HLK.out]; omega)).mono ?_
            rintro e w13 ⟨xo, xc, rfl, hT, hb13⟩
            have HT13 := Lib.hid hT
            have HA13 := Lib.hid (HA12.out.below hb13)
            have HB13 := Lib.hid (HB12.out.trans (hb13.mono H12.out.sz))
            clear hb13 hT H12 HA12 HB12
            go_wp2_with fail
            rw [← HLK.out]
            refine (leaves_same L xo yo xc yc _ _ (by rw [HLK.out]; omega) _ HT13.out HA13.out).mono ?_
            rintro e w14 ⟨rfl, hb14⟩
            go_wp2_with fail
            go_ret
            exact ⟨rfl, HB13.out.trans (hb14.mono (by have := HB13.out.size; omega))⟩
    · go_enter Try.func4, Try.ntmps4
      go_wp2_with fail
      refine (awake_any _).mono ?_
      rintro e w1 ⟨rfl, hb⟩
      go_wp2_with fail
      go_ret
      exact ⟨rfl, hb.mono hN⟩
  · go_enter Try.func4, Try.ntmps4
    go_wp2_with fail
    refine (awake_any _).mono ?_
    rintro e w1 ⟨rfl, hb⟩
    go_wp2_with fail
    go_ret
    exact ⟨rfl, hb.mono hN⟩
end Go.Proofs.Ytgpglmponbipbac
