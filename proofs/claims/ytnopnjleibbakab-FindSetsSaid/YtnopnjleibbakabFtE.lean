/- What queries lead to, by definition: a place put among others, walked. -/
import Derived.Test.YtnopnjleibbakabFtC
namespace Go.Proofs.Ytnopnjleibbakab
set_option linter.unusedVariables false
open Go.RowKit Go.Sort

theorem Src.ofWin {S : Nat → Prop} {w : World} {x : Value} {m : Nat} {news : List Value} (h : Win S 3 1 w x m news) (h1 : ∀ u ∈ news, u.oneCell' = true) : Src Try.prog 1 29 x m news w := by
  obtain ⟨ao, cap, rfl, _, hz, hf⟩ := h.form
  cases ao with
  | none =>
    obtain ⟨rfl, rfl⟩ := hz rfl
    have : news = [] := List.eq_nil_of_length_eq_zero (by have := h.1; omega)
    subst this
    exact Src.ofNil w Try.underlying29 0
  | some b =>
    refine Src.ofSlice w Try.underlying29 b m cap news h.1 (fun j u hu => ?_) h1
    have hj : j < m * 1 := by have := (List.getElem?_eq_some_iff.1 hu).1; rw [h.1] at this; exact this
    obtain ⟨g, off, e, _, _, hc⟩ := hf j hj
    simp only [Option.some.injEq] at e
    subst e
    rw [Addr.add_lit, hc.1]; exact hu
theorem Src.ofDrop {w : World} {C : Nat} {ao : Option Addr} {cap k : Nat} {L : List Int} (hk : k ≤ L.length) (hcap : L.length ≤ cap) (h : ∀ j, j < L.length → ∃ g off, ao = some ⟨g, off, none⟩ ∧ g < w.heap.size ∧ C ≤ g ∧ w.cell? ⟨g, off + j, none⟩ = some (.int .i64 (L.getD j 0))) :
    Src Try.prog 1 29 (.slice (if cap = k then ao else ao.map (·.add k)) (L.length - k) (cap - k)) (L.length - k) ((L.drop k).map (Value.int .i64)) w := by
  by_cases h0 : k = L.length
  · subst h0
    rw [Nat.sub_self, List.drop_length]
    generalize (if cap = L.length then ao else ao.map (·.add L.length)) = A
    cases A with
    | none => exact Src.ofNil w Try.underlying29 _
    | some b => exact Src.ofSlice w Try.underlying29 b 0 _ [] rfl (fun j u h => by simp at h) (fun u h => by simp at h)
  · have hl : k < L.length := by omega
    rw [if_neg (by omega)]
    obtain ⟨g, off, rfl, _, _, _⟩ := h k hl
    simp only [Option.map_some]
    rw [Addr.add_lit]
    refine Src.ofSlice w Try.underlying29 ⟨g, off + k, none⟩ (L.length - k) (cap - k) _ (by simp) (fun j u hu => ?_) (fun u hu => by obtain ⟨y, _, rfl⟩ := List.mem_map.1 hu; rfl)
    have hj : k + j < L.length := by have := (List.getElem?_eq_some_iff.1 hu).1; simp at this; omega
    obtain ⟨g', off', e, _, _, hc⟩ := h (k + j) hj
    simp only [Option.some.injEq, Addr.mk.injEq, and_true] at e
    obtain ⟨rfl, rfl⟩ := e
    rw [List.getElem?_map, List.getElem?_drop, List.getElem?_eq_getElem hj] at hu
    simp only [Option.map_some, Option.some.injEq] at hu
    subst hu
    rw [Addr.add_lit, show off + k + j = off + (k + j) by omega, hc, List.getD_eq_getElem?_getD, List.getElem?_eq_getElem hj]; rfl
theorem ints_one (L : List Int) : ∀ u ∈ L.map (Value.int .i64), u.oneCell' = true := fun u hu => by obtain ⟨y, _, rfl⟩ := List.mem_map.1 hu; rfl

set_option maxRecDepth 1000000 in
set_option maxHeartbeats 1200000 in
theorem rput_any (M N : Nat → Bool) (n j : Nat) (hjn : j < n) (hN : ∀ i, i ≠ j → N i = M i) (hj : N j = true) (hn : (n : Int) ≤ 1000) (v : Value) (C : Nat) (w : World) (hv : IntsAt w C v (sel M n)) (hC : C ≤ w.heap.size) :
    Calls Try.prog 27 #[v, .int .i64 (j : Int)] w fun e w' => ∃ v', e = .returned v' ∧ IntsAt w' C v' (sel N n) ∧ Below w.heap.size w w' := by
  have HP := Lib.hid (fun k => @sel_put M N j n k hjn hN hj)
  have hsl := sel_len M n
  obtain ⟨L, hL⟩ : ∃ L, sel M n = L := ⟨_, rfl⟩
  obtain ⟨RES, hR⟩ : ∃ R, sel N n = R := ⟨_, rfl⟩
  rw [hL] at HP hv hsl
  rw [hR] at HP ⊢
  clear hL hR hN hj
  have HV := Lib.hid hv
  obtain ⟨ao, cap, rfl, hcap, hcell⟩ := hv
  have HCELL := Lib.hid hcell
  obtain ⟨m, hm⟩ : ∃ m, L.length = m := ⟨_, rfl⟩
  have HM := Lib.hid hm
  rw [hm] at hcap hsl
  rw [hm]
  clear hcell hm
  have HC := Lib.hid hC
  clear hC
  obtain ⟨i0, hi, hz0, hz1, hz2⟩ := info_parts info_int
  have IP := Lib.hid (And.intro hi (And.intro hz0 (And.intro hz1 hz2)))
  clear hi hz0 hz1 hz2
  go_enter Try.func27, Try.ntmps27
  go_wp2_with fail
  go_loopw [5] (fun b5 wr => ∃ k : Nat, b5 = .int .i64 (k : Int) ∧ (k : Int) ≤ m ∧ Hid (∀ i, i < k → L.getD i 0 < (j : Int)) ∧ w = wr) (fun b5 _ => m - (intOf b5).toNat)
  case atStart => exact ⟨0, rfl, by omega, Lib.hid (fun i hi => by omega), rfl⟩
  case round =>
    obtain ⟨k, rfl, hk, HK, rfl⟩ := hrel
    have hw1 : IntKind.i64.wrap ((k : Int) + 1) = (k : Int) + 1 := by rw [IntKind.wrap_i64]; omega
    have hkc : (k : Int) ≤ cap := by omega
    have hkc' : k ≤ cap := by omega
    have hkm : k ≤ m := by omega
    by_cases h1 : (k : Int) < m
    · obtain ⟨g, off, rfl, hg, hgC, hc⟩ := HCELL.out k (by have := HM.out; omega)
      obtain ⟨y, hy⟩ : ∃ y, L.getD k 0 = y := ⟨_, rfl⟩
      have HY := Lib.hid hy
      rw [hy] at hc
      clear hy
      by_cases h2 : y < (j : Int)
      · have HE := Lib.hid (show ∀ i, i < k + 1 → L.getD i 0 < (j : Int) from fun i hi => by
          by_cases e : i = k
          · subst e; rw [HY.out]; exact h2
          · exact HK.out i (by omega))
        go_wp2
        go_roundw
        case rel => exact ⟨k + 1, by go_num, by omega, HE, trivial⟩
        case measure => simp [intOf]; omega
      · have HPK := Lib.hid (HP.out k (by have := HM.out; omega) HK.out (fun _ => by rw [HY.out]; omega))
        have h2' : decide (y < (j : Int)) = false := decide_eq_false h2
        by_cases h3 : y = (j : Int)
        · have HE := Lib.hid (show RES = L from HPK.out.1 ⟨by have := HM.out; omega, by rw [HY.out]; exact h3⟩)
          subst h3
          clear h2
          go_wp2
          go_ret
          exact ⟨_, rfl, by rw [HE.out]; have := HV.out; rw [HM.out] at this; exact this, Below.refl _ _⟩
        · have hkx : RES = L.take k ++ (j : Int) :: L.drop k := HPK.out.2 (fun ⟨_, e⟩ => by rw [HY.out] at e; exact h3 e)
          have h3' : (y == (j : Int)) = false := beq_eq_false_iff_ne.2 h3

          clear h2 h3 hg hgC HK HPK HY
          go_wp2_with fail
          have HX := Lib.hid hkx
          clear hkx
          refine wp_region_any (by kernel_rfl) ?_
          try (change wpAny _ _ _ _ _ _ _ (World.drew _))
          refine wpAny_take (i := 1) (v := ?_) rfl (by kernel_rfl) (by kernel_rfl) (by kernel_rfl) (fun _ _ _ h => h) (Or.inl ⟨by rfl, ?_⟩) ?_
          rotate_left
          · intro w
            go_simp
            try with_reducible rfl
          go_simp
          refine wpAny_take (i := 2) (v := ?_) rfl (by kernel_rfl) (by kernel_rfl) (by kernel_rfl) (fun _ _ _ h => h) (Or.inl ⟨by rfl, ?_⟩) ?_
          rotate_left
          · intro w
            go_simp
            try with_reducible rfl
          go_simp
          refine wpAny_take (i := 5) (v := ?_) rfl (by kernel_rfl) (by kernel_rfl) (by kernel_rfl) (fun _ _ _ h => h) (Or.inl ⟨by rfl, ?_⟩) ?_
          rotate_left
          · intro w
            go_simp
            try with_reducible rfl
          go_simp
          refine wpAny_take (i := 8) (v := ?_) rfl (by kernel_rfl) (by kernel_rfl) (by kernel_rfl) (fun _ _ _ h => h) (Or.inl ⟨by rfl, ?_⟩) ?_
          rotate_left
          · intro w
            go_simp
            try with_reducible rfl
          go_simp
          refine wpAny_take (i := 9) (v := ?_) rfl (by kernel_rfl) (by kernel_rfl) (by kernel_rfl) (fun _ _ _ h => h) (Or.inl ⟨by rfl, ?_⟩) ?_
          rotate_left
          · intro w
            go_simp
            try with_reducible rfl
          go_simp
          refine wpAny_take (i := 3) (v := ?_) rfl (by kernel_rfl) (by kernel_rfl) (by kernel_rfl) (fun _ _ _ h => h) (Or.inl ⟨by rfl, ?_⟩) ?_
          rotate_left
          · intro w
            go_simp
            try with_reducible rfl
          go_simp
          refine wpAny_take (i := 10) (v := ?_) rfl (by kernel_rfl) (by kernel_rfl) (by kernel_rfl) (fun _ _ _ h => h) (Or.inl ⟨by rfl, ?_⟩) ?_
          rotate_left
          · intro w
            go_simp
            try with_reducible rfl
          go_simp
          refine merge3 (i := 0) (j := 4) (k := 6) (si := 33) (sj := 37) (sk := 39) (I := fun W => Below w.heap.size w W) (Ri := fun q W => ∃ g, q = .slice (some ⟨g, 0, none⟩) 0 0 ∧ w.heap.size ≤ g ∧ W.heap[g]? = some (.cells #[] 3 (0, 0)))
            (Rj := fun v W => Win (fun g => w.heap.size ≤ g) 3 1 W v k ((L.take k).map (Value.int .i64))) (Rk := fun x W => Win (fun g => w.heap.size ≤ g) 3 1 W x 1 [.int .i64 (j : Int)])
            rfl rfl rfl rfl rfl rfl (by decide) (by decide) (by decide) (by decide) (by decide) (by kernel_rfl) (by kernel_rfl) (by kernel_rfl) (by kernel_rfl) (by kernel_rfl) ((Below.refl _ _).drew) ?_ ?_ ?_
            (fun q w1 w2 ⟨g, e, hg, hh⟩ hb => ⟨g, e, hg, (hb.block g (lt_of_block hh)).trans hh⟩) (fun q w1 w2 h hb => h.below hb) (fun q w1 w2 h hb => h.below hb) ?_
          · rintro a' (rfl | ⟨x, rfl⟩) W hI
            all_goals (refine onward_value (v := .slice (some ⟨W.heap.size, 0, none⟩) 0 0) (w' := W.alloc (.cells #[] 3)) (by kernel_rfl) (by go_simp) ((Below.refl _ _).alloc (Nat.le_refl _) _) (hI.alloc hI.size _) ⟨_, rfl, hI.size, heap_alloc_new W _⟩)
          · rintro q a' ha W hI ⟨gz, rfl, hgz, hhz⟩
            have hs : Src Try.prog 1 29 (.slice (some (⟨g, off, none⟩ : Addr)) k cap) k ((L.take k).map (Value.int .i64)) W := by
              have hh := Src.ofInts (w := W) (C := C) (ao := some (⟨g, off, none⟩ : Addr)) (cap := cap) (L := L.take k) (fun i hi => by
                have hi2 : i < k ∧ i < L.length := by simp at hi; omega
                obtain ⟨g', off', e', hg', hgC', hc'⟩ := HCELL.out i hi2.2
                refine ⟨g', off', e', Nat.lt_of_lt_of_le hg' hI.size, hgC', ?_⟩
                rw [keepc hc' hI, List.getD_eq_getElem?_getD, List.getD_eq_getElem?_getD, List.getElem?_take, if_pos hi2.1])
              rw [show (L.take k).length = k by have := HM.out; simp; omega] at hh
              exact hh
            obtain ⟨v', w', hr, hw, hb⟩ := run_append_none W 29 29 29 w.heap.size hI.size 3 i0 _ 1 8 Try.underlying29 IP.out.1 IP.out.2.1 IP.out.2.2.1 IP.out.2.2.2 rfl (by decide) gz hgz hhz _ k _ hs (by unfold maxLen; omega) (by omega)
            rcases ha with rfl | ⟨x, rfl⟩
            all_goals (exact onward_append (by kernel_rfl) (.tmp 33) (.tmp 36) 29 29 rfl rfl rfl hr hb (keepb hI hb) hw)
          · rintro a' (rfl | ⟨x, rfl⟩ | ⟨x, y, rfl⟩) W hI
            all_goals (refine onward_value (v := .slice (some ⟨W.heap.size, 0, none⟩) 1 1) (w' := W.alloc (.cells #[.int .i64 (j : Int)] 3)) (by kernel_rfl) (by go_simp) ((Below.refl _ _).alloc (Nat.le_refl _) _) (hI.alloc hI.size _) ⟨by simp, .inr ⟨W.heap.size, 0, 1, _, rfl, hI.size, heap_alloc_new W _, Nat.le_refl _, by unfold maxLen; omega, by simp, by simp⟩⟩)
          rintro q v x W hb hI - hv hx
          clear hb
          go_simp
          have hsx := Src.ofWin hx (fun u hu => by simp at hu; subst hu; rfl)
          refine all_one (i := 7) (by kernel_rfl) ?_
          refine op_append rfl (by kernel_rfl) (.tmp 37) (.tmp 39) 29 29 rfl (fun g => w.heap.size ≤ g) 3 i0 _ 1 8 Try.underlying29 IP.out.1 IP.out.2.1 IP.out.2.2.1 IP.out.2.2.2 rfl (by decide) v k _ rfl hv x 1 _ rfl hsx (by unfold maxLen; omega) (by omega) ?_
          intro v2 W2 h2 b2
          have hI2 : Below w.heap.size w W2 := hI.trans (b2.below hI.size (fun g h => h))
          have hs3 : Src Try.prog 1 29 (.slice (if cap = k then (some (⟨g, off, none⟩ : Addr)) else (some (⟨g, off, none⟩ : Addr)).map (·.add k)) (m - k) (cap - k)) (m - k) ((L.drop k).map (Value.int .i64)) W2 := by
            have hh := Src.ofDrop (w := W2) (C := C) (ao := some (⟨g, off, none⟩ : Addr)) (cap := cap) (k := k) (L := L) (by have := HM.out; omega) (by have := HM.out; omega) (fun i hi => by
              obtain ⟨g', off', e', hg', hgC', hc'⟩ := HCELL.out i hi
              exact ⟨g', off', e', Nat.lt_of_lt_of_le hg' hI2.size, hgC', keepc hc' hI2⟩)
            rw [HM.out] at hh
            exact hh
          try simp only [Option.map_some, Addr.add_lit] at hs3
          have h2' := h2.mono (T := fun g => w.heap.size ≤ g) (fun g _ hg => by rcases hg with hg | hg; exact hg; exact Nat.le_trans hI.size hg)
          clear h2 hv hx hsx
          go_simp
          refine all_one (i := 11) (by kernel_rfl) ?_
          refine op_append rfl (by kernel_rfl) (.tmp 40) (.tmp 43) 29 29 rfl (fun g => w.heap.size ≤ g) 3 i0 _ 1 8 Try.underlying29 IP.out.1 IP.out.2.1 IP.out.2.2.1 IP.out.2.2.2 rfl (by decide) v2 (k + 1) _ rfl h2' _ (m - k) _ rfl hs3 (by unfold maxLen; omega) (by omega) ?_
          intro v3 W3 h3 b3
          have hI3 : Below w.heap.size w W3 := hI2.trans (b3.below hI2.size (fun g h => h))
          have h3' := h3.mono (T := fun g => w.heap.size ≤ g) (fun g _ hg => by rcases hg with hg | hg; exact hg; exact Nat.le_trans hI2.size hg)
          clear h3 h2' hs3
          go_simp
          refine wpAny_take (i := 12) (v := ?_) rfl (by kernel_rfl) (by kernel_rfl) (by kernel_rfl) (fun _ _ _ h => h) (Or.inl ⟨by rfl, ?_⟩) ?_
          rotate_left
          · intro w
            go_simp
            try with_reducible rfl
          go_simp
          refine wpAny_done (by kernel_rfl) ?_ _
          go_wp2
          all_goals
            go_ret
            refine ⟨v3, rfl, ?_, hI3⟩
            rw [HX.out]
            exact (Win.ints (n := k + 1 + (m - k)) (by have := HM.out; simp; omega) (by simpa [List.map_append] using h3')).mono HC.out
    · have hkx : RES = L.take k ++ (j : Int) :: L.drop k := (HP.out k (by have := HM.out; omega) HK.out (fun h => by have := HM.out; omega)).2 (fun ⟨h, _⟩ => by have := HM.out; omega)
      clear HK
      go_wp2_with fail
      have HX := Lib.hid hkx
      clear hkx
      refine wp_region_any (by kernel_rfl) ?_
      try (change wpAny _ _ _ _ _ _ _ (World.drew _))
      refine wpAny_take (i := 1) (v := ?_) rfl (by kernel_rfl) (by kernel_rfl) (by kernel_rfl) (fun _ _ _ h => h) (Or.inl ⟨by rfl, ?_⟩) ?_
      rotate_left
      · intro w
        go_simp
        try with_reducible rfl
      go_simp
      refine wpAny_take (i := 2) (v := ?_) rfl (by kernel_rfl) (by kernel_rfl) (by kernel_rfl) (fun _ _ _ h => h) (Or.inl ⟨by rfl, ?_⟩) ?_
      rotate_left
      · intro w
        go_simp
        try with_reducible rfl
      go_simp
      refine wpAny_take (i := 5) (v := ?_) rfl (by kernel_rfl) (by kernel_rfl) (by kernel_rfl) (fun _ _ _ h => h) (Or.inl ⟨by rfl, ?_⟩) ?_
      rotate_left
      · intro w
        go_simp
        try with_reducible rfl
      go_simp
      refine wpAny_take (i := 8) (v := ?_) rfl (by kernel_rfl) (by kernel_rfl) (by kernel_rfl) (fun _ _ _ h => h) (Or.inl ⟨by rfl, ?_⟩) ?_
      rotate_left
      · intro w
        go_simp
        try with_reducible rfl
      go_simp
      refine wpAny_take (i := 9) (v := ?_) rfl (by kernel_rfl) (by kernel_rfl) (by kernel_rfl) (fun _ _ _ h => h) (Or.inl ⟨by rfl, ?_⟩) ?_
      rotate_left
      · intro w
        go_simp
        try with_reducible rfl
      go_simp
      refine wpAny_take (i := 3) (v := ?_) rfl (by kernel_rfl) (by kernel_rfl) (by kernel_rfl) (fun _ _ _ h => h) (Or.inl ⟨by rfl, ?_⟩) ?_
      rotate_left
      · intro w
        go_simp
        try with_reducible rfl
      go_simp
      refine wpAny_take (i := 10) (v := ?_) rfl (by kernel_rfl) (by kernel_rfl) (by kernel_rfl) (fun _ _ _ h => h) (Or.inl ⟨by rfl, ?_⟩) ?_
      rotate_left
      · intro w
        go_simp
        try with_reducible rfl
      go_simp
      refine merge3 (i := 0) (j := 4) (k := 6) (si := 33) (sj := 37) (sk := 39) (I := fun W => Below w.heap.size w W) (Ri := fun q W => ∃ g, q = .slice (some ⟨g, 0, none⟩) 0 0 ∧ w.heap.size ≤ g ∧ W.heap[g]? = some (.cells #[] 3 (0, 0)))
        (Rj := fun v W => Win (fun g => w.heap.size ≤ g) 3 1 W v k ((L.take k).map (Value.int .i64))) (Rk := fun x W => Win (fun g => w.heap.size ≤ g) 3 1 W x 1 [.int .i64 (j : Int)])
        rfl rfl rfl rfl rfl rfl (by decide) (by decide) (by decide) (by decide) (by decide) (by kernel_rfl) (by kernel_rfl) (by kernel_rfl) (by kernel_rfl) (by kernel_rfl) ((Below.refl _ _).drew) ?_ ?_ ?_
        (fun q w1 w2 ⟨g, e, hg, hh⟩ hb => ⟨g, e, hg, (hb.block g (lt_of_block hh)).trans hh⟩) (fun q w1 w2 h hb => h.below hb) (fun q w1 w2 h hb => h.below hb) ?_
      · rintro a' (rfl | ⟨x, rfl⟩) W hI
        all_goals (refine onward_value (v := .slice (some ⟨W.heap.size, 0, none⟩) 0 0) (w' := W.alloc (.cells #[] 3)) (by kernel_rfl) (by go_simp) ((Below.refl _ _).alloc (Nat.le_refl _) _) (hI.alloc hI.size _) ⟨_, rfl, hI.size, heap_alloc_new W _⟩)
      · rintro q a' ha W hI ⟨gz, rfl, hgz, hhz⟩
        have hs : Src Try.prog 1 29 (.slice (ao) k cap) k ((L.take k).map (Value.int .i64)) W := by
          have hh := Src.ofInts (w := W) (C := C) (ao := ao) (cap := cap) (L := L.take k) (fun i hi => by
            have hi2 : i < k ∧ i < L.length := by simp at hi; omega
            obtain ⟨g', off', e', hg', hgC', hc'⟩ := HCELL.out i hi2.2
            refine ⟨g', off', e', Nat.lt_of_lt_of_le hg' hI.size, hgC', ?_⟩
            rw [keepc hc' hI, List.getD_eq_getElem?_getD, List.getD_eq_getElem?_getD, List.getElem?_take, if_pos hi2.1])
          rw [show (L.take k).length = k by have := HM.out; simp; omega] at hh
          exact hh
        obtain ⟨v', w', hr, hw, hb⟩ := run_append_none W 29 29 29 w.heap.size hI.size 3 i0 _ 1 8 Try.underlying29 IP.out.1 IP.out.2.1 IP.out.2.2.1 IP.out.2.2.2 rfl (by decide) gz hgz hhz _ k _ hs (by unfold maxLen; omega) (by omega)
        rcases ha with rfl | ⟨x, rfl⟩
        all_goals (exact onward_append (by kernel_rfl) (.tmp 33) (.tmp 36) 29 29 rfl rfl rfl hr hb (keepb hI hb) hw)
      · rintro a' (rfl | ⟨x, rfl⟩ | ⟨x, y, rfl⟩) W hI
        all_goals (refine onward_value (v := .slice (some ⟨W.heap.size, 0, none⟩) 1 1) (w' := W.alloc (.cells #[.int .i64 (j : Int)] 3)) (by kernel_rfl) (by go_simp) ((Below.refl _ _).alloc (Nat.le_refl _) _) (hI.alloc hI.size _) ⟨by simp, .inr ⟨W.heap.size, 0, 1, _, rfl, hI.size, heap_alloc_new W _, Nat.le_refl _, by unfold maxLen; omega, by simp, by simp⟩⟩)
      rintro q v x W hb hI - hv hx
      clear hb
      go_simp
      have hsx := Src.ofWin hx (fun u hu => by simp at hu; subst hu; rfl)
      refine all_one (i := 7) (by kernel_rfl) ?_
      refine op_append rfl (by kernel_rfl) (.tmp 37) (.tmp 39) 29 29 rfl (fun g => w.heap.size ≤ g) 3 i0 _ 1 8 Try.underlying29 IP.out.1 IP.out.2.1 IP.out.2.2.1 IP.out.2.2.2 rfl (by decide) v k _ rfl hv x 1 _ rfl hsx (by unfold maxLen; omega) (by omega) ?_
      intro v2 W2 h2 b2
      have hI2 : Below w.heap.size w W2 := hI.trans (b2.below hI.size (fun g h => h))
      have hs3 : Src Try.prog 1 29 (.slice (if cap = k then (ao) else (ao).map (·.add k)) (m - k) (cap - k)) (m - k) ((L.drop k).map (Value.int .i64)) W2 := by
        have hh := Src.ofDrop (w := W2) (C := C) (ao := ao) (cap := cap) (k := k) (L := L) (by have := HM.out; omega) (by have := HM.out; omega) (fun i hi => by
          obtain ⟨g', off', e', hg', hgC', hc'⟩ := HCELL.out i hi
          exact ⟨g', off', e', Nat.lt_of_lt_of_le hg' hI2.size, hgC', keepc hc' hI2⟩)
        rw [HM.out] at hh
        exact hh
      try simp only [Option.map_some, Addr.add_lit] at hs3
      have h2' := h2.mono (T := fun g => w.heap.size ≤ g) (fun g _ hg => by rcases hg with hg | hg; exact hg; exact Nat.le_trans hI.size hg)
      clear h2 hv hx hsx
      go_simp
      refine all_one (i := 11) (by kernel_rfl) ?_
      refine op_append rfl (by kernel_rfl) (.tmp 40) (.tmp 43) 29 29 rfl (fun g => w.heap.size ≤ g) 3 i0 _ 1 8 Try.underlying29 IP.out.1 IP.out.2.1 IP.out.2.2.1 IP.out.2.2.2 rfl (by decide) v2 (k + 1) _ rfl h2' _ (m - k) _ rfl hs3 (by unfold maxLen; omega) (by omega) ?_
      intro v3 W3 h3 b3
      have hI3 : Below w.heap.size w W3 := hI2.trans (b3.below hI2.size (fun g h => h))
      have h3' := h3.mono (T := fun g => w.heap.size ≤ g) (fun g _ hg => by rcases hg with hg | hg; exact hg; exact Nat.le_trans hI2.size hg)
      clear h3 h2' hs3
      go_simp
      refine wpAny_take (i := 12) (v := ?_) rfl (by kernel_rfl) (by kernel_rfl) (by kernel_rfl) (fun _ _ _ h => h) (Or.inl ⟨by rfl, ?_⟩) ?_
      rotate_left
      · intro w
        go_simp
        try with_reducible rfl
      go_simp
      refine wpAny_done (by kernel_rfl) ?_ _
      go_wp2
      all_goals
        go_ret
        refine ⟨v3, rfl, ?_, hI3⟩
        rw [HX.out]
        exact (Win.ints (n := k + 1 + (m - k)) (by have := HM.out; simp; omega) (by simpa [List.map_append] using h3')).mono HC.out
end Go.Proofs.Ytnopnjleibbakab
