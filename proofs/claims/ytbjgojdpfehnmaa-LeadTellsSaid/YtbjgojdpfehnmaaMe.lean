/- A number put among others: the reference's, walked. What a sea may lead, by the marks of others: the reference's, walked. What a sea may lead: the reference's, walked. What stands for a node is looked for: the reference's search, walked. What stands for a node: the reference's, walked. -/
import Derived.Test.YtbjgojdpfehnmaaIj
import Derived.Test.YtbjgojdpfehnmaaMa
import Derived.Test.YtbjgojdpfehnmaaIc
import Derived.Deep.LoopGhost
import Derived.Deep.CutBlock
import Derived.Test.YtbjgojdpfehnmaaMc
import Derived.BigQuiet
namespace Go.Proofs.Ytbjgojdpfehnmaa
set_option linter.unusedVariables false
open Go.RowKit Go.Sort
set_option maxRecDepth 1000000 in
set_option maxHeartbeats 3200000 in
theorem rput_any (L : List Int) (j : Int) (hl : L.length ≤ 1000) (v : Value) (C : Nat) (w : World) (hv : IntsAt w C v L) (hC : C ≤ w.heap.size) :
  Calls Try.prog 14 #[v, .int .i64 j] w fun e w' => ∃ v', e = .returned v' ∧ IntsAt w' C v' (putL L j) ∧ Below w.heap.size w w' := by
 have HP := Lib.hid (fun k => putL_at L j k)
 have hsl : (L.length : Int) ≤ 1000 := by omega
 obtain ⟨RES, hR⟩ : ∃ R, putL L j = R := ⟨_, rfl⟩
 rw [hR] at HP ⊢
 clear hR hl
 have HV := Lib.hid hv
 obtain ⟨ao, cap, rfl, hcap, hcell⟩ := hv
 have HCELL := Lib.hid hcell
 obtain ⟨m, hm⟩ : ∃ m, L.length = m := ⟨_, rfl⟩
 have HM := Lib.hid hm
 rw [hm] at hcap hsl
 rw [hm]
 clear hcell hm
 have HC := Lib.hid hC
 clear hC
 obtain ⟨i0, hi, hz0, hz1, hz2⟩ := info_parts info_int
 have IP := Lib.hid (And.intro hi (And.intro hz0 (And.intro hz1 hz2)))
 clear hi hz0 hz1 hz2
 go_enter Try.func14, Try.ntmps14
 go_wp2_with fail
 go_loopw [5] (fun b5 wr => ∃ k : Nat, b5 = .int .i64 (k : Int) ∧ (k : Int) ≤ m ∧ Hid (∀ i, i < k → L.getD i 0 < j) ∧ w = wr) (fun b5 _ => m - (intOf b5).toNat)
 case atStart => exact ⟨0, rfl, by omega, Lib.hid (fun i hi => by omega), rfl⟩
 case round =>
  obtain ⟨k, rfl, hk, HK, rfl⟩ := hrel
  have hw1 : IntKind.i64.wrap ((k : Int) + 1) = (k : Int) + 1 := by rw [IntKind.wrap_i64]; omega
  have hkc : (k : Int) ≤ cap := by omega
  have hkc' : k ≤ cap := by omega
  have hkm : k ≤ m := by omega
  by_cases h1 : (k : Int) < m
  ·
   obtain ⟨g, off, rfl, hg, hgC, hc⟩ := HCELL.out k (by have := HM.out; omega)
   obtain ⟨y, hy⟩ : ∃ y, L.getD k 0 = y := ⟨_, rfl⟩
   have HY := Lib.hid hy
   rw [hy] at hc
   clear hy
   by_cases h2 : y < j
   ·
    have HE := Lib.hid (show ∀ i, i < k + 1 → L.getD i 0 < j from fun i hi => by
     by_cases e : i = k
     ·
      subst e; rw [HY.out]; exact h2
     ·
      exact HK.out i (by omega))
    go_wp2
    go_roundw
    case rel => exact ⟨k + 1, by go_num, by omega, HE, trivial⟩
    case measure => simp [intOf]; omega
   ·
    have HPK := Lib.hid (HP.out k (by have := HM.out; omega) HK.out (fun _ => by rw [HY.out]; omega))
    have h2' : decide (y < j) = false := decide_eq_false h2
    by_cases h3 : y = j
    ·
     have HE := Lib.hid (show RES = L from HPK.out.1 ⟨by have := HM.out; omega, by rw [HY.out]; exact h3⟩)
     subst h3
     clear h2
     go_wp2
     go_ret
     exact ⟨_, rfl, by rw [HE.out]; have := HV.out; rw [HM.out] at this; exact this, Below.refl _ _⟩
    ·
     have hkx : RES = L.take k ++ j :: L.drop k := HPK.out.2 (fun ⟨_, e⟩ => by rw [HY.out] at e; exact h3 e)
     have h3' : (y == j) = false := beq_eq_false_iff_ne.2 h3
     clear h2 h3 hg hgC HK HPK HY
     go_wp2_with fail
     have HX := Lib.hid hkx
     clear hkx
     refine wp_region_any (by kernel_rfl) ?_
     try (change wpAny _ _ _ _ _ _ _ (World.drew _))
     refine wpAny_take (i := 1) (v := ?_) rfl (by kernel_rfl) (by kernel_rfl) (by kernel_rfl) (fun _ _ _ h => h) (Or.inl ⟨by rfl, ?_⟩) ?_
     rotate_left
     ·
      intro w
      go_simp
      try with_reducible rfl
     go_simp
     refine wpAny_take (i := 2) (v := ?_) rfl (by kernel_rfl) (by kernel_rfl) (by kernel_rfl) (fun _ _ _ h => h) (Or.inl ⟨by rfl, ?_⟩) ?_
     rotate_left
     ·
      intro w
      go_simp
      try with_reducible rfl
     go_simp
     refine wpAny_take (i := 5) (v := ?_) rfl (by kernel_rfl) (by kernel_rfl) (by kernel_rfl) (fun _ _ _ h => h) (Or.inl ⟨by rfl, ?_⟩) ?_
     rotate_left
     ·
      intro w
      go_simp
      try with_reducible rfl
     go_simp
     refine wpAny_take (i := 8) (v := ?_) rfl (by kernel_rfl) (by kernel_rfl) (by kernel_rfl) (fun _ _ _ h => h) (Or.inl ⟨by rfl, ?_⟩) ?_
     rotate_left
     ·
      intro w
      go_simp
      try with_reducible rfl
     go_simp
     refine wpAny_take (i := 9) (v := ?_) rfl (by kernel_rfl) (by kernel_rfl) (by kernel_rfl) (fun _ _ _ h => h) (Or.inl ⟨by rfl, ?_⟩) ?_
     rotate_left
     ·
      intro w
      go_simp
      try with_reducible rfl
     go_simp
     refine wpAny_take (i := 3) (v := ?_) rfl (by kernel_rfl) (by kernel_rfl) (by kernel_rfl) (fun _ _ _ h => h) (Or.inl ⟨by rfl, ?_⟩) ?_
     rotate_left
     ·
      intro w
      go_simp
      try with_reducible rfl
     go_simp
     refine wpAny_take (i := 10) (v := ?_) rfl (by kernel_rfl) (by kernel_rfl) (by kernel_rfl) (fun _ _ _ h => h) (Or.inl ⟨by rfl, ?_⟩) ?_
     rotate_left
     ·
      intro w
      go_simp
      try with_reducible rfl
     go_simp
     refine merge3 (i := 0) (j := 4) (k := 6) (si := 33) (sj := 37) (sk := 39) (I := fun W => Below w.heap.size w W) (Ri := fun q W => ∃ g, q = .slice (some ⟨g, 0, none⟩) 0 0 ∧ w.heap.size ≤ g ∧ W.heap[g]? = some (.cells #[] 3 (0, 0)))
      (Rj := fun v W => Win (fun g => w.heap.size ≤ g) 3 1 W v k ((L.take k).map (Value.int .i64))) (Rk := fun x W => Win (fun g => w.heap.size ≤ g) 3 1 W x 1 [.int .i64 j])
      rfl rfl rfl rfl rfl rfl (by decide) (by decide) (by decide) (by decide) (by decide) (by kernel_rfl) (by kernel_rfl) (by kernel_rfl) (by kernel_rfl) (by kernel_rfl) ((Below.refl _ _).drew) ?_ ?_ ?_
      (fun q w1 w2 ⟨g, e, hg, hh⟩ hb => ⟨g, e, hg, (hb.block g (lt_of_block hh)).trans hh⟩) (fun q w1 w2 h hb => h.below hb) (fun q w1 w2 h hb => h.below hb) ?_
     ·
      rintro a' (rfl | ⟨x, rfl⟩) W hI
      all_goals (refine onward_value (v := .slice (some ⟨W.heap.size, 0, none⟩) 0 0) (w' := W.alloc (.cells #[] 3)) (by kernel_rfl) (by go_simp) ((Below.refl _ _).alloc (Nat.le_refl _) _) (hI.alloc hI.size _) ⟨_, rfl, hI.size, heap_alloc_new W _⟩)
     ·
      rintro q a' ha W hI ⟨gz, rfl, hgz, hhz⟩
      have hs : Src Try.prog 1 23 (.slice (some (⟨g, off, none⟩ : Addr)) k cap) k ((L.take k).map (Value.int .i64)) W := by
       have hh := Src.ofInts (w := W) (C := C) (ao := some (⟨g, off, none⟩ : Addr)) (cap := cap) (L := L.take k) (fun i hi => by
        have hi2 : i < k ∧ i < L.length := by simp at hi; omega
        obtain ⟨g', off', e', hg', hgC', hc'⟩ := HCELL.out i hi2.2
        refine ⟨g', off', e', Nat.lt_of_lt_of_le hg' hI.size, hgC', ?_⟩
        rw [keepc hc' hI, List.getD_eq_getElem?_getD, List.getD_eq_getElem?_getD, List.getElem?_take, if_pos hi2.1])
       rw [show (L.take k).length = k by have := HM.out; simp; omega] at hh
       exact hh
      obtain ⟨v', w', hr, hw, hb⟩ := run_append_none W 23 23 23 w.heap.size hI.size 3 i0 _ 1 8 Try.underlying23 IP.out.1 IP.out.2.1 IP.out.2.2.1 IP.out.2.2.2 rfl (by decide) gz hgz hhz _ k _ hs (by unfold maxLen; omega) (by omega)
      rcases ha with rfl | ⟨x, rfl⟩
      all_goals (exact onward_append (by kernel_rfl) (.tmp 33) (.tmp 36) 23 23 rfl rfl rfl hr hb (keepb hI hb) hw)
     ·
      rintro a' (rfl | ⟨x, rfl⟩ | ⟨x, y, rfl⟩) W hI
      all_goals (refine onward_value (v := .slice (some ⟨W.heap.size, 0, none⟩) 1 1) (w' := W.alloc (.cells #[.int .i64 j] 3)) (by kernel_rfl) (by go_simp) ((Below.refl _ _).alloc (Nat.le_refl _) _) (hI.alloc hI.size _) ⟨by simp, .inr ⟨W.heap.size, 0, 1, _, rfl, hI.size, heap_alloc_new W _, Nat.le_refl _, by unfold maxLen; omega, by simp, by simp⟩⟩)
     rintro q v x W hb hI - hv hx
     clear hb
     go_simp
     have hsx := Src.ofWin hx (fun u hu => by simp at hu; subst hu; rfl)
     refine all_one (i := 7) (by kernel_rfl) ?_
     refine op_append rfl (by kernel_rfl) (.tmp 37) (.tmp 39) 23 23 rfl (fun g => w.heap.size ≤ g) 3 i0 _ 1 8 Try.underlying23 IP.out.1 IP.out.2.1 IP.out.2.2.1 IP.out.2.2.2 rfl (by decide) v k _ rfl hv x 1 _ rfl hsx (by unfold maxLen; omega) (by omega) ?_
     intro v2 W2 h2 b2
     have hI2 : Below w.heap.size w W2 := hI.trans (b2.below hI.size (fun g h => h))
     have hs3 : Src Try.prog 1 23 (.slice (if cap = k then (some (⟨g, off, none⟩ : Addr)) else (some (⟨g, off, none⟩ : Addr)).map (·.add k)) (m - k) (cap - k)) (m - k) ((L.drop k).map (Value.int .i64)) W2 := by
      have hh := Src.ofDrop (w := W2) (C := C) (ao := some (⟨g, off, none⟩ : Addr)) (cap := cap) (k := k) (L := L) (by have := HM.out; omega) (by have := HM.out; omega) (fun i hi => by
       obtain ⟨g', off', e', hg', hgC', hc'⟩ := HCELL.out i hi
       exact ⟨g', off', e', Nat.lt_of_lt_of_le hg' hI2.size, hgC', keepc hc' hI2⟩)
      rw [HM.out] at hh
      exact hh
     try simp only [Option.map_some, Addr.add_lit] at hs3
     have h2' := h2.mono (T := fun g => w.heap.size ≤ g) (fun g _ hg => by rcases hg with hg | hg; exact hg; exact Nat.le_trans hI.size hg)
     clear h2 hv hx hsx
     go_simp
     refine all_one (i := 11) (by kernel_rfl) ?_
     refine op_append rfl (by kernel_rfl) (.tmp 40) (.tmp 43) 23 23 rfl (fun g => w.heap.size ≤ g) 3 i0 _ 1 8 Try.underlying23 IP.out.1 IP.out.2.1 IP.out.2.2.1 IP.out.2.2.2 rfl (by decide) v2 (k + 1) _ rfl h2' _ (m - k) _ rfl hs3 (by unfold maxLen; omega) (by omega) ?_
     intro v3 W3 h3 b3
     have hI3 : Below w.heap.size w W3 := hI2.trans (b3.below hI2.size (fun g h => h))
     have h3' := h3.mono (T := fun g => w.heap.size ≤ g) (fun g _ hg => by rcases hg with hg | hg; exact hg; exact Nat.le_trans hI2.size hg)
     clear h3 h2' hs3
     go_simp
     refine wpAny_take (i := 12) (v := ?_) rfl (by kernel_rfl) (by kernel_rfl) (by kernel_rfl) (fun _ _ _ h => h) (Or.inl ⟨by rfl, ?_⟩) ?_
     rotate_left
     ·
      intro w
      go_simp
      try with_reducible rfl
     go_simp
     refine wpAny_done (by kernel_rfl) ?_ _
     go_wp2
     all_goals
      go_ret
      refine ⟨v3, rfl, ?_, hI3⟩
      rw [HX.out]
      exact (Win.ints (n := k + 1 + (m - k)) (by have := HM.out; simp; omega) (by simpa [List.map_append] using h3')).mono HC.out
  ·
   have hkx : RES = L.take k ++ j :: L.drop k := (HP.out k (by have := HM.out; omega) HK.out (fun h => by have := HM.out; omega)).2 (fun ⟨h, _⟩ => by have := HM.out; omega)
   clear HK
   go_wp2_with fail
   have HX := Lib.hid hkx
   clear hkx
   refine wp_region_any (by kernel_rfl) ?_
   try (change wpAny _ _ _ _ _ _ _ (World.drew _))
   refine wpAny_take (i := 1) (v := ?_) rfl (by kernel_rfl) (by kernel_rfl) (by kernel_rfl) (fun _ _ _ h => h) (Or.inl ⟨by rfl, ?_⟩) ?_
   rotate_left
   ·
    intro w
    go_simp
    try with_reducible rfl
   go_simp
   refine wpAny_take (i := 2) (v := ?_) rfl (by kernel_rfl) (by kernel_rfl) (by kernel_rfl) (fun _ _ _ h => h) (Or.inl ⟨by rfl, ?_⟩) ?_
   rotate_left
   ·
    intro w
    go_simp
    try with_reducible rfl
   go_simp
   refine wpAny_take (i := 5) (v := ?_) rfl (by kernel_rfl) (by kernel_rfl) (by kernel_rfl) (fun _ _ _ h => h) (Or.inl ⟨by rfl, ?_⟩) ?_
   rotate_left
   ·
    intro w
    go_simp
    try with_reducible rfl
   go_simp
   refine wpAny_take (i := 8) (v := ?_) rfl (by kernel_rfl) (by kernel_rfl) (by kernel_rfl) (fun _ _ _ h => h) (Or.inl ⟨by rfl, ?_⟩) ?_
   rotate_left
   ·
    intro w
    go_simp
    try with_reducible rfl
   go_simp
   refine wpAny_take (i := 9) (v := ?_) rfl (by kernel_rfl) (by kernel_rfl) (by kernel_rfl) (fun _ _ _ h => h) (Or.inl ⟨by rfl, ?_⟩) ?_
   rotate_left
   ·
    intro w
    go_simp
    try with_reducible rfl
   go_simp
   refine wpAny_take (i := 3) (v := ?_) rfl (by kernel_rfl) (by kernel_rfl) (by kernel_rfl) (fun _ _ _ h => h) (Or.inl ⟨by rfl, ?_⟩) ?_
   rotate_left
   ·
    intro w
    go_simp
    try with_reducible rfl
   go_simp
   refine wpAny_take (i := 10) (v := ?_) rfl (by kernel_rfl) (by kernel_rfl) (by kernel_rfl) (fun _ _ _ h => h) (Or.inl ⟨by rfl, ?_⟩) ?_
   rotate_left
   ·
    intro w
    go_simp
    try with_reducible rfl
   go_simp
   refine merge3 (i := 0) (j := 4) (k := 6) (si := 33) (sj := 37) (sk := 39) (I := fun W => Below w.heap.size w W) (Ri := fun q W => ∃ g, q = .slice (some ⟨g, 0, none⟩) 0 0 ∧ w.heap.size ≤ g ∧ W.heap[g]? = some (.cells #[] 3 (0, 0)))
    (Rj := fun v W => Win (fun g => w.heap.size ≤ g) 3 1 W v k ((L.take k).map (Value.int .i64))) (Rk := fun x W => Win (fun g => w.heap.size ≤ g) 3 1 W x 1 [.int .i64 j])
    rfl rfl rfl rfl rfl rfl (by decide) (by decide) (by decide) (by decide) (by decide) (by kernel_rfl) (by kernel_rfl) (by kernel_rfl) (by kernel_rfl) (by kernel_rfl) ((Below.refl _ _).drew) ?_ ?_ ?_
    (fun q w1 w2 ⟨g, e, hg, hh⟩ hb => ⟨g, e, hg, (hb.block g (lt_of_block hh)).trans hh⟩) (fun q w1 w2 h hb => h.below hb) (fun q w1 w2 h hb => h.below hb) ?_
   ·
    rintro a' (rfl | ⟨x, rfl⟩) W hI
    all_goals (refine onward_value (v := .slice (some ⟨W.heap.size, 0, none⟩) 0 0) (w' := W.alloc (.cells #[] 3)) (by kernel_rfl) (by go_simp) ((Below.refl _ _).alloc (Nat.le_refl _) _) (hI.alloc hI.size _) ⟨_, rfl, hI.size, heap_alloc_new W _⟩)
   ·
    rintro q a' ha W hI ⟨gz, rfl, hgz, hhz⟩
    have hs : Src Try.prog 1 23 (.slice (ao) k cap) k ((L.take k).map (Value.int .i64)) W := by
     have hh := Src.ofInts (w := W) (C := C) (ao := ao) (cap := cap) (L := L.take k) (fun i hi => by
      have hi2 : i < k ∧ i < L.length := by simp at hi; omega
      obtain ⟨g', off', e', hg', hgC', hc'⟩ := HCELL.out i hi2.2
      refine ⟨g', off', e', Nat.lt_of_lt_of_le hg' hI.size, hgC', ?_⟩
      rw [keepc hc' hI, List.getD_eq_getElem?_getD, List.getD_eq_getElem?_getD, List.getElem?_take, if_pos hi2.1])
     rw [show (L.take k).length = k by have := HM.out; simp; omega] at hh
     exact hh
    obtain ⟨v', w', hr, hw, hb⟩ := run_append_none W 23 23 23 w.heap.size hI.size 3 i0 _ 1 8 Try.underlying23 IP.out.1 IP.out.2.1 IP.out.2.2.1 IP.out.2.2.2 rfl (by decide) gz hgz hhz _ k _ hs (by unfold maxLen; omega) (by omega)
    rcases ha with rfl | ⟨x, rfl⟩
    all_goals (exact onward_append (by kernel_rfl) (.tmp 33) (.tmp 36) 23 23 rfl rfl rfl hr hb (keepb hI hb) hw)
   ·
    rintro a' (rfl | ⟨x, rfl⟩ | ⟨x, y, rfl⟩) W hI
    all_goals (refine onward_value (v := .slice (some ⟨W.heap.size, 0, none⟩) 1 1) (w' := W.alloc (.cells #[.int .i64 j] 3)) (by kernel_rfl) (by go_simp) ((Below.refl _ _).alloc (Nat.le_refl _) _) (hI.alloc hI.size _) ⟨by simp, .inr ⟨W.heap.size, 0, 1, _, rfl, hI.size, heap_alloc_new W _, Nat.le_refl _, by unfold maxLen; omega, by simp, by simp⟩⟩)
   rintro q v x W hb hI - hv hx
   clear hb
   go_simp
   have hsx := Src.ofWin hx (fun u hu => by simp at hu; subst hu; rfl)
   refine all_one (i := 7) (by kernel_rfl) ?_
   refine op_append rfl (by kernel_rfl) (.tmp 37) (.tmp 39) 23 23 rfl (fun g => w.heap.size ≤ g) 3 i0 _ 1 8 Try.underlying23 IP.out.1 IP.out.2.1 IP.out.2.2.1 IP.out.2.2.2 rfl (by decide) v k _ rfl hv x 1 _ rfl hsx (by unfold maxLen; omega) (by omega) ?_
   intro v2 W2 h2 b2
   have hI2 : Below w.heap.size w W2 := hI.trans (b2.below hI.size (fun g h => h))
   have hs3 : Src Try.prog 1 23 (.slice (if cap = k then (ao) else (ao).map (·.add k)) (m - k) (cap - k)) (m - k) ((L.drop k).map (Value.int .i64)) W2 := by
    have hh := Src.ofDrop (w := W2) (C := C) (ao := ao) (cap := cap) (k := k) (L := L) (by have := HM.out; omega) (by have := HM.out; omega) (fun i hi => by
     obtain ⟨g', off', e', hg', hgC', hc'⟩ := HCELL.out i hi
     exact ⟨g', off', e', Nat.lt_of_lt_of_le hg' hI2.size, hgC', keepc hc' hI2⟩)
    rw [HM.out] at hh
    exact hh
   try simp only [Option.map_some, Addr.add_lit] at hs3
   have h2' := h2.mono (T := fun g => w.heap.size ≤ g) (fun g _ hg => by rcases hg with hg | hg; exact hg; exact Nat.le_trans hI.size hg)
   clear h2 hv hx hsx
   go_simp
   refine all_one (i := 11) (by kernel_rfl) ?_
   refine op_append rfl (by kernel_rfl) (.tmp 40) (.tmp 43) 23 23 rfl (fun g => w.heap.size ≤ g) 3 i0 _ 1 8 Try.underlying23 IP.out.1 IP.out.2.1 IP.out.2.2.1 IP.out.2.2.2 rfl (by decide) v2 (k + 1) _ rfl h2' _ (m - k) _ rfl hs3 (by unfold maxLen; omega) (by omega) ?_
   intro v3 W3 h3 b3
   have hI3 : Below w.heap.size w W3 := hI2.trans (b3.below hI2.size (fun g h => h))
   have h3' := h3.mono (T := fun g => w.heap.size ≤ g) (fun g _ hg => by rcases hg with hg | hg; exact hg; exact Nat.le_trans hI2.size hg)
   clear h3 h2' hs3
   go_simp
   refine wpAny_take (i := 12) (v := ?_) rfl (by kernel_rfl) (by kernel_rfl) (by kernel_rfl) (fun _ _ _ h => h) (Or.inl ⟨by rfl, ?_⟩) ?_
   rotate_left
   ·
    intro w
    go_simp
    try with_reducible rfl
   go_simp
   refine wpAny_done (by kernel_rfl) ?_ _
   go_wp2
   all_goals
    go_ret
    refine ⟨v3, rfl, ?_, hI3⟩
    rw [HX.out]
    exact (Win.ints (n := k + 1 + (m - k)) (by have := HM.out; simp; omega) (by simpa [List.map_append] using h3')).mono HC.out
theorem op_foul (o : Int) : o = 13 ∨ o = 9 ∨ o = 10 ∨ o = 11 ∨ ((o == 13) = false ∧ (o == 9) = false ∧ (o == 10) = false ∧ (o == 11) = false) := by
 simp only [beq_eq_false_iff_ne]; omega
def anyF (cut : Bool) (NU M : Nat → Bool) (L : List Nat) : Bool := if cut = true then (frontL NU L).any M else L.any M
theorem anyF_step {cut : Bool} {NU M : Nat → Bool} {L : List Nat} {i q : Nat} (h : L[i]? = some q) : anyF cut NU M (L.drop i) = (M q || !(cut && !NU q) && anyF cut NU M (L.drop (i + 1))) := by
 obtain ⟨h1, h2⟩ := List.getElem?_eq_some_iff.1 h
 rw [List.drop_eq_getElem_cons h1, h2]
 cases cut with
 | false => simp [anyF]
 | true =>
  unfold anyF
  rw [if_pos rfl, if_pos rfl, frontL]
  cases NU q <;> simp
set_option maxRecDepth 1000000 in
set_option maxHeartbeats 9600000 in
theorem rsea_any (gr : Gj) (a : Gv) (hg : Good gr) (NU M : Nat → Bool) (n u g : Nat) (hn : n < gr.ns.length) (w : World) (hG : HasG w gr a) (hu : Own w u 4 (rowB NU gr.ns.length)) (hm : Own w g 4 (rowB M gr.ns.length)) :
  Calls Try.prog 35 #[grv gr a, .slice (some ⟨u, 0, none⟩) gr.ns.length gr.ns.length, .slice (some ⟨g, 0, none⟩) gr.ns.length gr.ns.length, .int .i64 (n : Int)] w fun e w' => e = .returned (.bool (ledB gr NU M n)) ∧ Below w.heap.size w w' := by
 obtain ⟨x, hx⟩ : ∃ x, gr.ns[n]? = some x := ⟨_, List.getElem?_eq_getElem hn⟩
 have HRU := Lib.hid (show ledB gr NU M n = (if x.op = 13 then true else if x.op = 9 ∨ x.op = 10 then false else if x.op = 11 then M (bodyG gr n) else if x.op = 4 then (frontL NU x.ks).any M else x.ks.any M) from by unfold ledB; rw [hx])
 have HB1 := Lib.hid (show Below w.heap.size w (w.alloc (.cells #[.slice a.mo gr.ms.length a.mc, .slice a.no gr.ns.length a.nc, .slice a.ho gr.hs.length a.hc, .slice a.wo gr.ws.length a.wc, .int .i64 gr.st] 27)) from (Below.refl _ _).alloc (Nat.le_refl _) _)
 have HO1 := Lib.hid (Own.fresh w 27 [.slice a.mo gr.ms.length a.mc, .slice a.no gr.ns.length a.nc, .slice a.ho gr.hs.length a.hc, .slice a.wo gr.ws.length a.wc, .int .i64 gr.st])
 have HM1 := Lib.hid (hm.under HB1.out hm.lt)
 have HU1 := Lib.hid (hu.under HB1.out hu.lt)
 have HG1 := Lib.hid (hG.below HB1.out)
 obtain ⟨b, off, ko, kc, hno, hb, -, c0, c1, c2, c3, c4, c5, c6, c7, c8, c9, hk⟩ := HG1.out.1 n x hx
 have HK1 := Lib.hid hk
 have HNO := Lib.hid hno
 have HQ := Lib.hid (bodyG_lt hg hn)
 have HKD := Lib.hid (hg.kid x (List.mem_of_getElem? hx))
 have hkl := hg.kl x (List.mem_of_getElem? hx)
 have HBO := Lib.hid (fun W h => sbody_any gr a hg n hn W h)
 clear hno hk
 unfold grv
 unfold grv at HBO
 obtain ⟨RES, hRES⟩ : ∃ z, ledB gr NU M n = z := ⟨_, rfl⟩
 obtain ⟨nn, hnn⟩ : ∃ z, gr.ns.length = z := ⟨_, rfl⟩
 obtain ⟨nh, hnh⟩ : ∃ z, gr.hs.length = z := ⟨_, rfl⟩
 obtain ⟨nms, hnms⟩ : ∃ z, gr.ms.length = z := ⟨_, rfl⟩
 obtain ⟨nw, hnw⟩ : ∃ z, gr.ws.length = z := ⟨_, rfl⟩
 obtain ⟨nk, hnk⟩ : ∃ z, x.ks.length = z := ⟨_, rfl⟩
 have HNK := Lib.hid hnk
 obtain ⟨op, hop⟩ : ∃ z, x.op = z := ⟨_, rfl⟩
 obtain ⟨q, hq⟩ : ∃ z, bodyG gr n = z := ⟨_, rfl⟩
 have hn160 : nn ≤ 160 := by rw [← hnn]; exact hg.len
 rw [hnn] at hn
 rw [hRES, hop, hq] at HRU
 rw [hq, hnn] at HQ
 rw [hnn] at HKD
 rw [hnk] at hkl
 rw [hnn, hnh, hnms, hnw, hq] at HBO
 rw [hnn, hnh, hnms, hnw] at HB1 HO1 HM1 HU1 HG1 HK1 c0 c1 c2 c3 c4 c5 c6 c7 c8 c9 hb
 rw [hnk] at c6
 rw [hop] at c0
 rw [hRES, hnn, hnh, hnms, hnw]
 have hn1 : decide ((n : Int) < (nn : Int)) = true := decide_eq_true (by omega)
 have hn2 : decide (n < nn) = true := decide_eq_true hn
 obtain ⟨B, hB⟩ : ∃ B, w.heap.size = B := ⟨_, rfl⟩
 have HW1 := Lib.hid (show (w.alloc (.cells #[.slice a.mo nms a.mc, .slice a.no nn a.nc, .slice a.ho nh a.hc, .slice a.wo nw a.wc, .int .i64 gr.st] 27)).heap.size = B + 1 from by rw [← hB]; simp)
 rw [hB] at HO1
 clear hx hg hG hm hu hRES hnn hnh hnms hnw hnk hop hq
 go_enter Try.func35, Try.ntmps35
 go_upto_region 1 with fail
 generalize w.alloc (.cells #[.slice a.mo nms a.mc, .slice a.no nn a.nc, .slice a.ho nh a.hc, .slice a.wo nw a.wc, .int .i64 gr.st] 27) = w1 at *
 try rw [hB]
 clear hB
 have g0 : w1.cell? ⟨B, 0, none⟩ = some (.slice a.mo nms a.mc) := HO1.out.cell 0
 have g1 : w1.cell? ⟨B, 1, none⟩ = some (.slice a.no nn a.nc) := HO1.out.cell 1
 have g2 : w1.cell? ⟨B, 2, none⟩ = some (.slice a.ho nh a.hc) := HO1.out.cell 2
 have g3 : w1.cell? ⟨B, 3, none⟩ = some (.slice a.wo nw a.wc) := HO1.out.cell 3
 have g4 : w1.cell? ⟨B, 4, none⟩ = some (.int .i64 gr.st) := HO1.out.cell 4
 have gl := HO1.out.lt
 rw [HNO.out] at g1
 have hbl : Below w1.heap.size w1 (w1.alloc (.cells #[.int .i64 op, .string x.tx, .int .u64 x.s0, .int .u64 x.s1, .int .u64 x.s2, .int .u64 x.s3, .slice ko nk kc, .int .i64 x.tg, .int .i64 (x.mo : Int), .int .i64 x.ru] 42)) := (Below.refl _ _).alloc (Nat.le_refl _) _
 have HBL := Lib.hid hbl
 have HB2 := Lib.hid (HB1.out.trans (hbl.mono HB1.out.size))
 have HM2 := Lib.hid (HM1.out.under hbl HM1.out.lt)
 have HU2 := Lib.hid (HU1.out.under hbl HU1.out.lt)
 have HG2 := Lib.hid (HG1.out.below hbl)
 have HK2 := Lib.hid (HK1.out.below hbl)
 have HO2 := Lib.hid (HO1.out.under hbl HO1.out.lt)
 have HN2 := Lib.hid (Own.fresh w1 42 [.int .i64 op, .string x.tx, .int .u64 x.s0, .int .u64 x.s1, .int .u64 x.s2, .int .u64 x.s3, .slice ko nk kc, .int .i64 x.tg, .int .i64 (x.mo : Int), .int .i64 x.ru])
 rw [HW1.out] at HN2
 clear hbl
 go_upto_region 2 with fail
 generalize w1.alloc (.cells #[.int .i64 op, .string x.tx, .int .u64 x.s0, .int .u64 x.s1, .int .u64 x.s2, .int .u64 x.s3, .slice ko nk kc, .int .i64 x.tg, .int .i64 (x.mo : Int), .int .i64 x.ru] 42) = w2 at *
 try rw [HW1.out]
 have y0 : w2.cell? ⟨B + 1, 0, none⟩ = some (.int .i64 op) := HN2.out.cell 0
 have y3 : w2.cell? ⟨B + 1, 6, none⟩ = some (.slice ko nk kc) := HN2.out.cell 6
 have yl := HN2.out.lt
 clear c0 c1 c2 c3 c4 c5 c6 c7 c8 c9 g0 g1 g2 g3 g4 gl hb HO1 HM1 HU1 HG1 HK1 HB1
 rcases op_foul op with rfl | rfl | rfl | rfl | ⟨h13, h9, h10, h11⟩
 ·
  have HE := Lib.hid (show RES = true from by rw [HRU.out]; first | rfl | simp)
  go_wp2
  go_ret
  rw [HE.out]
  exact ⟨rfl, HB2.out⟩
 ·
  have HE := Lib.hid (show RES = false from by rw [HRU.out]; first | rfl | simp)
  go_wp2
  go_ret
  rw [HE.out]
  exact ⟨rfl, HB2.out⟩
 ·
  have HE := Lib.hid (show RES = false from by rw [HRU.out]; first | rfl | simp)
  go_wp2
  go_ret
  rw [HE.out]
  exact ⟨rfl, HB2.out⟩
 ·
  have HE := Lib.hid (show RES = M q from by rw [HRU.out]; first | rfl | simp)
  have d0 : w2.cell? ⟨B, 0, none⟩ = some (.slice a.mo nms a.mc) := HO2.out.cell 0
  have d1 : w2.cell? ⟨B, 1, none⟩ = some (.slice a.no nn a.nc) := HO2.out.cell 1
  have d2 : w2.cell? ⟨B, 2, none⟩ = some (.slice a.ho nh a.hc) := HO2.out.cell 2
  have d3 : w2.cell? ⟨B, 3, none⟩ = some (.slice a.wo nw a.wc) := HO2.out.cell 3
  have d4 : w2.cell? ⟨B, 4, none⟩ = some (.int .i64 gr.st) := HO2.out.cell 4
  have dl := HO2.out.lt
  go_wp2_with fail
  refine (HBO.out w2 HG2.out).mono ?_
  rintro e w3 ⟨he, hb3⟩
  subst he
  have HM3 := Lib.hid (HM2.out.under hb3 HM2.out.lt)
  have HB3 := Lib.hid (HB2.out.trans (hb3.mono HB2.out.size))
  have hqn := HQ.out
  have m0 : w3.cell? ⟨g, q, none⟩ = some (.bool (M q)) := by rw [HM3.out.cell q]; exact rowB_at M nn q hqn
  have ml := HM3.out.lt
  have hq1 : decide ((q : Int) < (nn : Int)) = true := decide_eq_true (by omega)
  have hq2 : decide (q < nn) = true := decide_eq_true hqn
  obtain ⟨z, hz⟩ : ∃ z, M q = z := ⟨_, rfl⟩
  rw [hz] at m0 HE
  clear hb3 hz
  go_wp2
  go_ret
  rw [HE.out]
  exact ⟨rfl, HB3.out⟩
 ·
  obtain ⟨cut, hcu⟩ : ∃ z, (op == 4) = z := ⟨_, rfl⟩
  have HE0 := Lib.hid (show RES = anyF cut NU M (x.ks.drop 0) from by
   rw [HRU.out]
   simp only [beq_eq_false_iff_ne] at h13 h9 h10 h11
   rw [if_neg h13, if_neg (fun h => h.elim h9 h10), if_neg h11]
   unfold anyF
   rw [← hcu]
   show _ = if (op == 4) = true then (frontL NU x.ks).any M else x.ks.any M
   by_cases e : op = 4
   ·
    rw [if_pos e, if_pos (by rw [e]; rfl)]
   ·
    rw [if_neg e, if_neg (by rw [beq_eq_false_iff_ne.2 e]; decide)])
  have ml := HM2.out.lt
  have ul := HU2.out.lt
  go_wp2_with fail
  go_loopw [10] (fun v10 wr => ∃ i : Nat, v10 = .int .i64 (i : Int) ∧ (i : Int) ≤ nk ∧ Hid (RES = anyF cut NU M (x.ks.drop i)) ∧ wr = w2) (fun v10 _ => nk - (intOf v10).toNat)
  case atStart => exact ⟨0, rfl, by omega, HE0, (by first | trivial | rfl)⟩
  case round =>
   obtain ⟨i, rfl, hi, HE1, hwr⟩ := hrel
   subst hwr
   clear HE0
   by_cases hin : (i : Int) < nk
   ·
    have hi1 : decide ((i : Int) < (nk : Int)) = true := decide_eq_true hin
    have hi2 : decide (i < nk) = true := decide_eq_true (by omega)
    have hw2 : IntKind.i64.wrap ((i : Int) + 1) = (i : Int) + 1 := by rw [IntKind.wrap_i64]; omega
    obtain ⟨q1, hq⟩ : ∃ q, x.ks[i]? = some q := ⟨_, List.getElem?_eq_getElem (by have := HNK.out; omega)⟩
    have hqn : q1 < nn := HKD.out q1 (List.mem_of_getElem? hq)
    have HST := Lib.hid (anyF_step (cut := cut) (NU := NU) (M := M) hq)
    obtain ⟨b2, off2, hko, hb2, -, q0⟩ := HK2.out i q1 hq
    subst hko
    have m0 : wr.cell? ⟨g, q1, none⟩ = some (.bool (M q1)) := by rw [HM2.out.cell q1]; exact rowB_at M nn q1 hqn
    have u0 : wr.cell? ⟨u, q1, none⟩ = some (.bool (NU q1)) := by rw [HU2.out.cell q1]; exact rowB_at NU nn q1 hqn
    have hq1 : decide ((q1 : Int) < (nn : Int)) = true := decide_eq_true (by omega)
    have hq2 : decide (q1 < nn) = true := decide_eq_true hqn
    obtain ⟨z, hz⟩ : ∃ z, M q1 = z := ⟨_, rfl⟩
    obtain ⟨y, hy⟩ : ∃ z, NU q1 = z := ⟨_, rfl⟩
    rw [hz, hy] at HST
    rw [hz] at m0
    rw [hy] at u0
    clear hz hy hq
    cases z with
    | true =>
     have HE := Lib.hid (show RES = true from by rw [HE1.out, HST.out]; rfl)
     go_wp2
     go_ret
     rw [HE.out]
     exact ⟨rfl, HB2.out⟩
    | false =>
     cases cut with
     | false =>
      have HE2 := Lib.hid (show RES = anyF false NU M (x.ks.drop (i + 1)) from by rw [HE1.out, HST.out]; simp)
      go_wp2
      go_roundw
      case rel => exact ⟨i + 1, by go_num, by omega, HE2, (by first | trivial | rfl)⟩
      case measure => simp [intOf]; omega
     | true =>
      cases y with
      | true =>
       have HE2 := Lib.hid (show RES = anyF true NU M (x.ks.drop (i + 1)) from by rw [HE1.out, HST.out]; simp)
       go_wp2
       go_roundw
       case rel => exact ⟨i + 1, by go_num, by omega, HE2, (by first | trivial | rfl)⟩
       case measure => simp [intOf]; omega
      | false =>
       have HE := Lib.hid (show RES = false from by rw [HE1.out, HST.out]; rfl)
       go_wp2
       go_ret
       rw [HE.out]
       exact ⟨rfl, HB2.out⟩
   ·
    have hi1 : decide ((i : Int) < (nk : Int)) = false := decide_eq_false hin
    have hi2 : decide (i < nk) = false := decide_eq_false (by omega)
    have HE := Lib.hid (show RES = false from by rw [HE1.out, List.drop_of_length_le (by have := HNK.out; omega)]; cases cut <;> rfl)
    go_wp2
    go_ret
    rw [HE.out]
    exact ⟨rfl, HB2.out⟩
set_option maxRecDepth 1000000 in
set_option maxHeartbeats 3200000 in
theorem rled_any (gr : Gj) (a : Gv) (hg : Good gr) (w : World) (hG : HasG w gr a) : Calls Try.prog 17 #[grv gr a] w (BoE gr (ledG gr) w) := by
 have HB1 := Lib.hid (show Below w.heap.size w (w.alloc (.cells #[.slice a.mo gr.ms.length a.mc, .slice a.no gr.ns.length a.nc, .slice a.ho gr.hs.length a.hc, .slice a.wo gr.ws.length a.wc, .int .i64 gr.st] 27)) from (Below.refl _ _).alloc (Nat.le_refl _) _)
 have HO1 := Lib.hid (Own.fresh w 27 [.slice a.mo gr.ms.length a.mc, .slice a.no gr.ns.length a.nc, .slice a.ho gr.hs.length a.hc, .slice a.wo gr.ws.length a.wc, .int .i64 gr.st])
 have HG1 := Lib.hid ((hG.mono (T := fun b => b < w.heap.size) (fun _ h _ => h)).below HB1.out)
 have HNU := Lib.hid (fun W h => snull_any gr a hg W h)
 have HF := Lib.hid (fun (M : Nat → Bool) n u g W hn h1 h2 h3 => rsea_any gr a hg (nulG gr) M n u g hn W h1 h2 h3)
 obtain ⟨R, hR⟩ : ∃ R, ledB gr (nulG gr) = R := ⟨_, rfl⟩
 obtain ⟨RES, hRES⟩ : ∃ z, ledG gr = z := ⟨_, rfl⟩
 have HR0 := Lib.hid (show leastB R gr.ns.length (gr.ns.length + 1) (fun _ => false) = RES from by rw [← hR, ← hRES]; rfl)
 unfold BoE
 rw [hRES]
 rw [hR] at HF
 unfold BoE at HNU
 unfold grv
 unfold grv at HNU HF
 obtain ⟨nn, hnn⟩ : ∃ z, gr.ns.length = z := ⟨_, rfl⟩
 obtain ⟨nh, hnh⟩ : ∃ z, gr.hs.length = z := ⟨_, rfl⟩
 obtain ⟨nms, hnms⟩ : ∃ z, gr.ms.length = z := ⟨_, rfl⟩
 obtain ⟨nw, hnw⟩ : ∃ z, gr.ws.length = z := ⟨_, rfl⟩
 have hn160 : (nn : Int) ≤ 160 := by have := hg.len; omega
 rw [hnn] at HR0
 rw [hnn, hnh, hnms, hnw] at HNU HF HB1 HO1 HG1
 rw [hnn, hnh, hnms, hnw]
 obtain ⟨B, hB⟩ : ∃ B, w.heap.size = B := ⟨_, rfl⟩
 have HW1 := Lib.hid (show (w.alloc (.cells #[.slice a.mo nms a.mc, .slice a.no nn a.nc, .slice a.ho nh a.hc, .slice a.wo nw a.wc, .int .i64 gr.st] 27)).heap.size = B + 1 from by rw [← hB]; simp)
 have HBE := Lib.hid hB
 rw [hB] at HO1
 clear hg hG hRES hR hnn hnh hnms hnw
 have hmk : ∀ W : World, (Instr.makeSlice 35 (.int .i64 (nn : Int)) (.int .i64 (nn : Int))).run Try.prog W = .ok (.slice (some ⟨W.heap.size, 0, none⟩) nn nn) (W.alloc (.cells (Array.replicate nn (Value.bool false)) 4)) := fun W => run_boolsE nn (by omega) W
 go_enter Try.func17, Try.ntmps17
 go_upto_region 1 with fail
 generalize w.alloc (.cells #[.slice a.mo nms a.mc, .slice a.no nn a.nc, .slice a.ho nh a.hc, .slice a.wo nw a.wc, .int .i64 gr.st] 27) = w1 at *
 try rw [hB]
 clear hB
 have g0 : w1.cell? ⟨B, 0, none⟩ = some (.slice a.mo nms a.mc) := HO1.out.cell 0
 have g1 : w1.cell? ⟨B, 1, none⟩ = some (.slice a.no nn a.nc) := HO1.out.cell 1
 have g2 : w1.cell? ⟨B, 2, none⟩ = some (.slice a.ho nh a.hc) := HO1.out.cell 2
 have g3 : w1.cell? ⟨B, 3, none⟩ = some (.slice a.wo nw a.wc) := HO1.out.cell 3
 have g4 : w1.cell? ⟨B, 4, none⟩ = some (.int .i64 gr.st) := HO1.out.cell 4
 have gl := HO1.out.lt
 go_wp2_with fail
 refine (HNU.out w1 (HG1.out.mono fun _ _ _ => trivial)).mono ?_
 rintro e w2 ⟨u, he, hu, hul, hb2⟩
 subst he
 have HB2 := Lib.hid (HB1.out.trans (hb2.mono HB1.out.size))
 have HO2 := Lib.hid (HO1.out.under hb2 HO1.out.lt)
 have HG2 := Lib.hid (HG1.out.below hb2)
 have HU2 := Lib.hid hu
 have HUL := Lib.hid (show B + 1 ≤ u from by have := HW1.out; omega)
 clear g0 g1 g2 g3 g4 gl hu hul hb2 HO1 HG1 HB1
 have g1 : w2.cell? ⟨B, 1, none⟩ = some (.slice a.no nn a.nc) := HO2.out.cell 1
 have gl := HO2.out.lt
 have hbl : Below w2.heap.size w2 (w2.alloc (.cells (Array.replicate nn (Value.bool false)) 4)) := (Below.refl _ _).alloc (Nat.le_refl _) _
 have HB3 := Lib.hid (HB2.out.trans (hbl.mono HB2.out.size))
 have HG3 := Lib.hid (HG2.out.below hbl)
 have HO3 := Lib.hid (HO2.out.under hbl HO2.out.lt)
 have HU3 := Lib.hid (HU2.out.under hbl HU2.out.lt)
 have HM3 := Lib.hid (show Own (w2.alloc (.cells (Array.replicate nn (Value.bool false)) 4)) w2.heap.size 4 (rowB (fun _ => false) nn) from by
  rw [rowB_zero, ← List.toArray_replicate]; exact Own.fresh w2 4 _)
 have HU2l := Lib.hid HU2.out.lt
 have HO2l := Lib.hid HO2.out.lt
 clear hbl
 go_upto_region 4 with fail
 obtain ⟨C, hC⟩ : ∃ C, w2.heap.size = C := ⟨_, rfl⟩
 rw [hC] at HM3 HU2l HO2l
 generalize w2.alloc (.cells (Array.replicate nn (Value.bool false)) 4) = w3 at *
 try rw [hC]
 clear hC g1 gl hmk HO2 HG2 HB2 HU2
 go_loopg [5] (nn + 1) (fun f v5 wr => ∃ (M : Nat → Bool) (z : Bool), v5 = .bool z ∧ Hid (RES = if z = true then leastB R nn f M else M) ∧ Hid (z = true → lackB M nn < f) ∧ Hid (Own wr C 4 (rowB M nn)) ∧ Hid (Own wr B 27 [.slice a.mo nms a.mc, .slice a.no nn a.nc, .slice a.ho nh a.hc, .slice a.wo nw a.wc, .int .i64 gr.st]) ∧ Hid (Own wr u 4 (rowB (nulG gr) nn)) ∧ Hid (HasGR wr (fun b => b < w.heap.size) gr a) ∧ Hid (Below w.heap.size w wr))
 case atStart => exact ⟨fun _ => false, true, rfl, Lib.hid (by rw [if_pos rfl]; exact HR0.out.symm), Lib.hid (fun _ => by have := lackB_le (fun _ => false) nn; omega), HM3, HO3, HU3, HG3, HB3⟩
 case round =>
  obtain ⟨M, z, rfl, HS, HLK, HM, HO, HU, HG, HB⟩ := hrel
  cases z with
  | false =>
   have HE := Lib.hid (show RES = M from by rw [HS.out, if_neg (by decide)])
   go_wp2
   go_ret
   exact ⟨C, rfl, by rw [HE.out]; exact HM.out, by have := HBE.out; have := HO2l.out; omega, HB.out⟩
  | true =>
   obtain ⟨f, rfl⟩ : ∃ f, gk = f + 1 := ⟨gk - 1, by have := HLK.out rfl; omega⟩
   have HS1 := Lib.hid (show RES = leastB R nn (f + 1) M from by rw [HS.out, if_pos rfl])
   have HL1 := Lib.hid (HLK.out rfl)
   clear HM3 HO3 HG3 HB3 HU3 HS HLK
   have g1 : wr.cell? ⟨B, 1, none⟩ = some (.slice a.no nn a.nc) := HO.out.cell 1
   have gl := HO.out.lt
   go_wp2_with fail
   go_loopg [5, 6] nn (fun j v5 v17 wx => ∃ (k : Nat) (M1 : Nat → Bool) (z : Bool), v5 = .bool z ∧ v17 = .int .i64 (k : Int) ∧ k + j = nn ∧ Hid (passB R nn 0 M false = passB R (nn - k) k M1 z) ∧ Hid (lackB M1 nn + (if z = true then 1 else 0) ≤ lackB M nn) ∧ Hid (Own wx C 4 (rowB M1 nn)) ∧ Hid (Own wx B 27 [.slice a.mo nms a.mc, .slice a.no nn a.nc, .slice a.ho nh a.hc, .slice a.wo nw a.wc, .int .i64 gr.st]) ∧ Hid (Own wx u 4 (rowB (nulG gr) nn)) ∧ Hid (HasGR wx (fun b => b < w.heap.size) gr a) ∧ Hid (Below w.heap.size w wx))
   case atStart => exact ⟨0, M, false, rfl, rfl, by omega, Lib.hid rfl, Lib.hid (Nat.le_refl _), HM, HO, HU, HG, HB⟩
   case round =>
    obtain ⟨k, M1, z, rfl, rfl, hkj, HP, HL, HMx, HOx, HUx, HGx, HBx⟩ := hrel
    clear HM HO HG HB HU g1 gl
    by_cases hk : k < nn
    ·
     obtain ⟨j, rfl⟩ : ∃ j, gk = j + 1 := ⟨gk - 1, by omega⟩
     have hk1 : decide ((k : Int) < (nn : Int)) = true := decide_eq_true (by omega)
     have hk2 : decide (k < nn) = true := decide_eq_true hk
     have hw1 : IntKind.i64.wrap ((k : Int) + 1) = (k : Int) + 1 := by rw [IntKind.wrap_i64]; omega
     have m0 : wr.cell? ⟨C, k, none⟩ = some (.bool (M1 k)) := by rw [HMx.out.cell k]; exact rowB_at M1 nn k hk
     have ml := HMx.out.lt
     have g0 : wr.cell? ⟨B, 0, none⟩ = some (.slice a.mo nms a.mc) := HOx.out.cell 0
     have g1 : wr.cell? ⟨B, 1, none⟩ = some (.slice a.no nn a.nc) := HOx.out.cell 1
     have g2 : wr.cell? ⟨B, 2, none⟩ = some (.slice a.ho nh a.hc) := HOx.out.cell 2
     have g3 : wr.cell? ⟨B, 3, none⟩ = some (.slice a.wo nw a.wc) := HOx.out.cell 3
     have g4 : wr.cell? ⟨B, 4, none⟩ = some (.int .i64 gr.st) := HOx.out.cell 4
     have gl := HOx.out.lt
     obtain ⟨b1, hb1⟩ : ∃ z, M1 k = z := ⟨_, rfl⟩
     have HBK := Lib.hid hb1
     rw [hb1] at m0
     clear hb1
     cases b1 with
     | true =>
      have HPN := Lib.hid (show passB R nn 0 M false = passB R (nn - (k + 1)) (k + 1) M1 z from HP.out.trans (passB_keep hk (by rw [HBK.out]; rfl)))
      go_wp2
      go_roundg j
      case measure => omega
      case rel => exact ⟨k + 1, M1, z, rfl, by go_num, by omega, HPN, HL, HMx, HOx, HUx, HGx, HBx⟩
     | false =>
      have HC := Lib.hid (HF.out M1 k u C wr hk (HGx.out.mono fun _ _ _ => trivial) HUx.out HMx.out)
      go_wp2_with fail
      refine HC.out.mono ?_
      rintro e wy ⟨he, hby⟩
      subst he
      have HMy := Lib.hid (HMx.out.under hby HMx.out.lt)
      have HOy := Lib.hid (HOx.out.under hby HOx.out.lt)
      have HUy := Lib.hid (HUx.out.under hby HUx.out.lt)
      have HGy := Lib.hid (HGx.out.below hby)
      have HBy := Lib.hid (HBx.out.trans (hby.mono HBx.out.size))
      clear hby HMx HOx HUx HGx HBx g0 g1 g2 g3 g4 gl m0 ml HC
      obtain ⟨r, hr⟩ : ∃ z, R M1 k = z := ⟨_, rfl⟩
      have HRK := Lib.hid hr
      rw [hr]
      clear hr
      cases r with
      | false =>
       have HPN := Lib.hid (show passB R nn 0 M false = passB R (nn - (k + 1)) (k + 1) M1 z from HP.out.trans (passB_keep hk (by rw [HBK.out, HRK.out]; rfl)))
       go_wp2
       go_roundg j
       case measure => omega
       case rel => exact ⟨k + 1, M1, z, rfl, by go_num, by omega, HPN, HL, HMy, HOy, HUy, HGy, HBy⟩
      | true =>
       have HPN := Lib.hid (show passB R nn 0 M false = passB R (nn - (k + 1)) (k + 1) (setB M1 k) true from HP.out.trans (passB_mark hk HBK.out HRK.out))
       have HLN := Lib.hid (show lackB (setB M1 k) nn + (if true = true then 1 else 0) ≤ lackB M nn from by
        have h1 := lackB_set M1 k HBK.out nn
        have h2 := lackB_one M1 k HBK.out nn hk
        rw [if_pos hk] at h1
        have h3 := HL.out
        rw [h1, if_pos rfl]
        omega)
       have m0 : wy.cell? ⟨C, k, none⟩ = some (.bool false) := by rw [HMy.out.cell k, rowB_at M1 nn k hk, HBK.out]
       have f0 : wy.frozen? ⟨C, k, none⟩ = false := HMy.out.thaw k
       have ml := HMy.out.lt
       have hbt : But (fun j => j = C) wy (wy.setCell ⟨C, k, none⟩ (.bool true)) := (But.refl (fun j => j = C) wy).setCell (p := ⟨C, k, none⟩) (fun _ => rfl) _
       have HMz := Lib.hid (show Own (wy.setCell ⟨C, k, none⟩ (.bool true)) C 4 (rowB (setB M1 k) nn) from by rw [← rowB_set M1 nn k hk]; exact HMy.out.put k (.bool true))
       have HOz := Lib.hid (HOy.out.but hbt (by have := HO2l.out; show ¬ B = C; omega))
       have HUz := Lib.hid (HUy.out.but hbt (by have := HU2l.out; show ¬ u = C; omega))
       have HGz := Lib.hid (HGy.out.but hbt (fun j _ hj h => by have := HBE.out; have := HO2l.out; have : j = C := h; omega))
       have HBz := Lib.hid (HBy.out.trans (hbt.below (B := w.heap.size) HBy.out.size (fun j h => by have := HBE.out; have := HO2l.out; omega)))
       clear hbt
       go_wp2
       go_roundg j
       case measure => omega
       case rel => exact ⟨k + 1, setB M1 k, true, rfl, by go_num, by omega, HPN, HLN, HMz, HOz, HUz, HGz, HBz⟩
    ·
     have hk1 : decide ((k : Int) < (nn : Int)) = false := decide_eq_false (by omega)
     have hk2 : decide (k < nn) = false := decide_eq_false hk
     have HP2 := Lib.hid (show passB R nn 0 M false = (M1, z) from HP.out.trans (by rw [show nn - k = 0 by omega]; rfl))
     have HSN := Lib.hid (show RES = if z = true then leastB R nn f M1 else M1 from by
      rw [HS1.out]
      show (match passB R nn 0 M false with
       | (M', true) => leastB R nn f M'
       | (M', false) => M') = _
      rw [HP2.out]
      cases z <;> rfl)
     have HLN := Lib.hid (show z = true → lackB M1 nn < f from fun h => by
      have h1 := HL.out
      have h2 := HL1.out
      rw [if_pos h] at h1
      omega)
     go_wp2
     go_roundg f
     case measure => omega
     case rel => exact ⟨M1, z, rfl, HSN, HLN, HMx, HOx, HUx, HGx, HBx⟩
def cutF (cut : Bool) (NU : Nat → Bool) (L : List Nat) : List Nat := if cut = true then frontL NU L else L
theorem cutF_step {V : Nat → Fst → Fst} {cut : Bool} {NU : Nat → Bool} {L : List Nat} {i q : Nat} {t : Fst} (h : L[i]? = some q) : eachF V (cutF cut NU (L.drop i)) t = if (cut && !NU q) = true then V q t else eachF V (cutF cut NU (L.drop (i + 1))) (V q t) := by
 obtain ⟨h1, h2⟩ := List.getElem?_eq_some_iff.1 h
 rw [List.drop_eq_getElem_cons h1, h2]
 cases cut with
 | false => simp [cutF, eachF]
 | true =>
  unfold cutF
  rw [if_pos rfl, if_pos rfl, frontL]
  cases NU q <;> simp [eachF]
theorem cutF_nil {V : Nat → Fst → Fst} {cut : Bool} {NU : Nat → Bool} {t : Fst} : eachF V (cutF cut NU []) t = t := by cases cut <;> rfl
theorem op_thr (o : Int) : o = 11 ∨ o = 9 ∨ o = 10 ∨ ((o == 11) = false ∧ (o == 9) = false ∧ (o == 10) = false) := by
 simp only [beq_eq_false_iff_ne]; omega
set_option maxRecDepth 1000000 in
set_option maxHeartbeats 9600000 in
theorem rvis_step (gr : Gj) (a : Gv) (hg : Good gr) (E p u l m C d : Nat) (hX : ∀ (n : Nat) (s : Fst) (v : Value) (w : World), n < gr.ns.length → lackB s.1 gr.ns.length < d → Fd 67 w E p u l m C gr a s v → Calls Try.prog 33 #[.pointer (some ⟨p, 0, none⟩), .int .i64 (n : Int)] w (FdE 67 w E p u l m C gr a (visF gr d n s)))
  (n : Nat) (s : Fst) (v : Value) (w : World) (hn : n < gr.ns.length) (hd : lackB s.1 gr.ns.length < d + 1) (hF : Fd 67 w E p u l m C gr a s v) : Calls Try.prog 33 #[.pointer (some ⟨p, 0, none⟩), .int .i64 (n : Int)] w (FdE 67 w E p u l m C gr a (visF gr (d + 1) n s)) := by
  have HX := Lib.hid hX
  clear hX
  obtain ⟨x, hx⟩ : ∃ x, gr.ns[n]? = some x := ⟨_, List.getElem?_eq_getElem hn⟩
  have HXM := Lib.hid hx
  have HF0 := Lib.hid hF
  have HD0 := Lib.hid hd
  have HGD := Lib.hid hg
  have HNN := Lib.hid hn
  have hrow : Own w p 67 (fdrow gr a u l m v) := hF.own
  unfold fdrow at hrow
  have HOW := Lib.hid hrow
  obtain ⟨nn, hnn⟩ : ∃ z, gr.ns.length = z := ⟨_, rfl⟩
  have HLN := Lib.hid hnn
  have hn160 : nn ≤ 160 := by rw [← hnn]; exact hg.len
  rw [hnn] at hn hrow
  have hn1 : decide ((n : Int) < (nn : Int)) = true := decide_eq_true (by omega)
  have hn2 : decide (n < nn) = true := decide_eq_true hn
  have g7 : w.cell? ⟨p, 7, none⟩ = some (.slice (some ⟨m, 0, none⟩) nn nn) := hrow.cell 7
  have gl := hrow.lt
  have m0 : w.cell? ⟨m, n, none⟩ = some (.bool (s.1 n)) := by rw [hF.me.cell n]; exact rowB_at s.1 _ n (by rw [hnn]; exact hn)
  have ml := hF.me.lt
  obtain ⟨z, hz⟩ : ∃ z, s.1 n = z := ⟨_, rfl⟩
  have HZ := Lib.hid hz
  rw [hz] at m0
  have HM1 := Lib.hid (fun (h : s.1 n = false) => hF.met (n := n) HNN.out h)
  have hfz : w.frozen? ⟨m, n, none⟩ = false := hF.me.thaw n
  clear hx hF hd hg hnn hrow hz
  go_enter Try.func33, Try.ntmps33
  cases z with
  | true =>
   have HE := Lib.hid (show visF gr (d + 1) n s = s from by rw [visF]; exact if_pos HZ.out)
   rw [HE.out]
   go_wp2
   first
    | (go_end0; exact ⟨rfl, ⟨v, HF0.out⟩, But.refl _ _⟩)
    | (refine bodyPost_ret (results_none rfl _ _ _) rfl ?_; exact ⟨rfl, ⟨v, HF0.out⟩, But.refl _ _⟩)
  | false =>
   have HV := Lib.hid (visF_go (gr := gr) (d := d) HZ.out)
   have HF1 := Lib.hid (HM1.out HZ.out)
   have HB1 := Lib.hid (show But (fun b => b = p ∨ b = m) w (w.setCell ⟨m, n, none⟩ (.bool true)) from (But.put w m n _).mono (fun g _ h => .inr h))
   have HD1 := Lib.hid (show lackB (setB s.1 n) gr.ns.length < d from lackB_step HNN.out HZ.out HD0.out)
   obtain ⟨RES, hRES⟩ : ∃ z, visF gr (d + 1) n s = z := ⟨_, rfl⟩
   rw [hRES] at HV ⊢
   clear hRES HM1
   go_upto_region 2 with fail
   generalize w.setCell ⟨m, n, none⟩ (.bool true) = w1 at *
   clear m0 ml g7 gl hfz HOW
   have hrow : Own w1 p 67 (fdrow gr a u l m v) := HF1.out.own
   unfold fdrow at hrow
   obtain ⟨b, off, ko, kc, hno, hb, hcap, c0, c1, c2, c3, c4, c5, c6, c7, c8, c9, hk⟩ := HF1.out.hg.1 n x HXM.out
   have HK1 := Lib.hid hk
   have HCP := Lib.hid hcap
   obtain ⟨nk, hnk⟩ : ∃ z, x.ks.length = z := ⟨_, rfl⟩
   obtain ⟨op, hop⟩ : ∃ z, x.op = z := ⟨_, rfl⟩
   have HNK := Lib.hid hnk
   have HOP := Lib.hid hop
   have HNO := Lib.hid hno
   rw [hnk] at c6
   rw [hop] at c0
   have g1 : w1.cell? ⟨p, 1, none⟩ = some (.slice (some ⟨b, off, none⟩) nn a.nc) := by rw [← hno, ← HLN.out]; exact hrow.cell 1
   have gl := hrow.lt
   have hbl : Below w1.heap.size w1 (w1.alloc (.cells #[.int .i64 op, .string x.tx, .int .u64 x.s0, .int .u64 x.s1, .int .u64 x.s2, .int .u64 x.s3, .slice ko nk kc, .int .i64 x.tg, .int .i64 (x.mo : Int), .int .i64 x.ru] 42)) := (Below.refl _ _).alloc (Nat.le_refl _) _
   have HF2 := Lib.hid (HF1.out.below hbl)
   have HB2 := Lib.hid (HB1.out.then_below hbl)
   have HK2 := Lib.hid (hk.below hbl)
   have HN2 := Lib.hid (Own.fresh w1 42 [.int .i64 op, .string x.tx, .int .u64 x.s0, .int .u64 x.s1, .int .u64 x.s2, .int .u64 x.s3, .slice ko nk kc, .int .i64 x.tg, .int .i64 (x.mo : Int), .int .i64 x.ru])
   have HXP := Lib.hid (show p < w1.heap.size ∧ m < w1.heap.size from ⟨hrow.lt, HF1.out.me.lt⟩)
   clear hbl hrow hk hcap hnk hop hno
   go_upto_region 3 with fail
   obtain ⟨X, hX⟩ : ∃ z, w1.heap.size = z := ⟨_, rfl⟩
   rw [hX] at HN2 HXP
   generalize w1.alloc (.cells #[.int .i64 op, .string x.tx, .int .u64 x.s0, .int .u64 x.s1, .int .u64 x.s2, .int .u64 x.s3, .slice ko nk kc, .int .i64 x.tg, .int .i64 (x.mo : Int), .int .i64 x.ru] 42) = w2 at *
   try rw [hX]
   clear hX c0 c1 c2 c3 c4 c5 c6 c7 c8 c9 hb g1 gl
   have y0 : w2.cell? ⟨X, 0, none⟩ = some (.int .i64 op) := HN2.out.cell 0
   have y6 : w2.cell? ⟨X, 6, none⟩ = some (.slice ko nk kc) := HN2.out.cell 6
   have yl := HN2.out.lt
   have hrow : Own w2 p 67 (fdrow gr a u l m v) := HF2.out.own
   unfold fdrow at hrow
   have HRW := Lib.hid hrow
   have gl := hrow.lt
   have HTE := Lib.hid ((termB_eq HXM.out).trans (by rw [HOP.out]))
   have HNE := Lib.hid ((nextL_eq HXM.out).trans (by rw [HOP.out]))
   rcases op_thr op with rfl | rfl | rfl | ⟨h11, h9, h10⟩
   ·
    have HE := Lib.hid (show RES = visF gr d (bodyG gr n) (setB s.1 n, s.2) from by
     rw [HV.out, HTE.out, HNE.out]
     rfl)
    have HBO := Lib.hid (sbody_any gr a HGD.out n HNN.out w2 (HF2.out.hg.mono fun _ _ _ => trivial))
    have HC := Lib.hid (fun W vv h => HX.out (bodyG gr n) (setB s.1 n, s.2) vv W (bodyG_lt HGD.out HNN.out) HD1.out h)
    unfold grv at HBO
    have g0 : w2.cell? ⟨p, 0, none⟩ = some (.slice a.mo gr.ms.length a.mc) := hrow.cell 0
    have g1 : w2.cell? ⟨p, 1, none⟩ = some (.slice a.no gr.ns.length a.nc) := hrow.cell 1
    have g2 : w2.cell? ⟨p, 2, none⟩ = some (.slice a.ho gr.hs.length a.hc) := hrow.cell 2
    have g3 : w2.cell? ⟨p, 3, none⟩ = some (.slice a.wo gr.ws.length a.wc) := hrow.cell 3
    have g4 : w2.cell? ⟨p, 4, none⟩ = some (.int .i64 gr.st) := hrow.cell 4
    clear hrow
    go_wp2_with fail
    refine HBO.out.mono ?_
    rintro e w3 ⟨he, hb3⟩
    subst he
    have HF3 := Lib.hid (HF2.out.below hb3)
    have HB3 := Lib.hid (HB2.out.then_below hb3)
    clear hb3 g0 g1 g2 g3 g4
    go_wp2_with fail
    refine (HC.out w3 v HF3.out).mono ?_
    rintro e w4 ⟨he, ⟨v4, hF4⟩, hB4⟩
    subst he
    have HF4 := Lib.hid hF4
    have HB4 := Lib.hid (HB3.out.trans hB4 (fun g _ h => h))
    clear hF4 hB4
    go_wp2
    go_end0
    rw [HE.out]
    exact ⟨rfl, ⟨v4, HF4.out⟩, HB4.out⟩
   ·
    have HE := Lib.hid (show RES = (setB s.1 n, s.2) from by
     rw [HV.out, HTE.out, HNE.out]
     rfl)
    clear hrow
    go_wp2
    go_end0
    rw [HE.out]
    exact ⟨rfl, ⟨v, HF2.out⟩, HB2.out⟩
   ·
    have HE := Lib.hid (show RES = (setB s.1 n, s.2) from by
     rw [HV.out, HTE.out, HNE.out]
     rfl)
    clear hrow
    go_wp2
    go_end0
    rw [HE.out]
    exact ⟨rfl, ⟨v, HF2.out⟩, HB2.out⟩
   ·
    obtain ⟨cut, hcu⟩ : ∃ z, (op == 4) = z := ⟨_, rfl⟩
    obtain ⟨b5, hb5⟩ : ∃ z, (op == 5) = z := ⟨_, rfl⟩
    obtain ⟨q, hq⟩ : ∃ q, ledG gr n = q := ⟨_, rfl⟩
    obtain ⟨z0, hz0⟩ : ∃ z, ((nk : Int) == 0) = z := ⟨_, rfl⟩
    obtain ⟨TB, hTB⟩ : ∃ z, (z0 || ((cut || b5) && !q)) = z := ⟨_, rfl⟩
    have hTE : (x.ks.isEmpty || ((op == 4 || op == 5) && !ledG gr n)) = TB := by
     rw [isEmpty_len, HNK.out, hcu, hb5, hq, ← hTB, ← hz0]
     rfl
    have hno : ¬ (op = 11 ∨ op = 9 ∨ op = 10) := by
     simp only [beq_eq_false_iff_ne] at h11 h9 h10
     omega
    have HT1 := Lib.hid (show termB gr n = TB from by rw [HTE.out, if_neg hno, hTE])
    have HN1 := Lib.hid (show nextL gr n = if TB = true then [] else cutF cut (nulG gr) x.ks from by
     rw [HNE.out, if_neg (fun e => hno (.inl e)), if_neg (fun e => hno (.inr e)), hTE]
     unfold cutF
     rw [← hcu]
     by_cases e : op = 4
     ·
      rw [if_pos e, if_pos (beq_iff_eq.2 e)]
     ·
      rw [if_neg e, if_neg (show ¬ (op == 4) = true by rw [beq_eq_false_iff_ne.2 e]; decide)])
    have l0 : w2.cell? ⟨l, n, none⟩ = some (.bool q) := by rw [HF2.out.le.cell n, ← hq]; exact rowB_at _ _ n HNN.out
    have ll := HF2.out.le.lt
    have g6 : w2.cell? ⟨p, 6, none⟩ = some (.slice (some ⟨l, 0, none⟩) nn nn) := by rw [← HLN.out]; exact hrow.cell 6
    clear hTE hq hrow HTE HNE
    go_upto_region 6 with fail
    go_cut [48] (fun s48 wx => s48 = .bool TB ∧ wx = w2)
    case first =>
     subst hTB
     cases z0 with
     | true =>
      go_wp2
      go_meet
      exact ⟨rfl, rfl⟩
     | false =>
      cases cut <;> cases b5 <;> cases q
      all_goals
       go_wp2
       go_meet
       exact ⟨rfl, rfl⟩
    case rest =>
     obtain ⟨rfl, hwc⟩ := hcut
     subst hwc
     have g8 : wc.cell? ⟨p, 8, none⟩ = some v := HRW.out.cell 8
     clear l0 ll g6 hTB hz0
     cases TB with
     | true =>
      have HE := Lib.hid (show RES = (setB s.1 n, putL s.2 (n : Int)) from by
       rw [HV.out, HT1.out, HN1.out]
       rfl)
      have HPU := Lib.hid (fun W (h : IntsAt W C v s.2) h2 => rput_any s.2 (n : Int) (by have h1 : s.2.length + lackB (setB s.1 n) gr.ns.length ≤ gr.ns.length := HF2.out.len; have := HGD.out.len; omega) v C W h h2)
      go_wp2_with fail
      refine (HPU.out wc HF2.out.fo HF2.out.sz).mono ?_
      rintro e w3 ⟨v3, he, hI3, hb3⟩
      obtain ⟨ao3, n3, cap3, rfl⟩ : ∃ ao n c, v3 = .slice ao n c := by obtain ⟨x1, x2, x3, -⟩ := hI3; exact ⟨x1, _, x2, x3⟩
      subst he
      have HF3 := Lib.hid (HF2.out.below hb3)
      have HB3 := Lib.hid (HB2.out.then_below hb3)
      have HFN := Lib.hid (HF3.out.found hI3 (by have h1 := putL_len (n : Int) s.2; have h2 := HF0.out.len; have h3 := lackB_set s.1 n HZ.out gr.ns.length; have h4 := lackB_one s.1 n HZ.out gr.ns.length HNN.out; rw [if_pos HNN.out] at h3; show (putL s.2 (n : Int)).length + lackB (setB s.1 n) gr.ns.length ≤ gr.ns.length; omega))
      have HBN := Lib.hid (HB3.out.trans (But.put w3 p 8 (.slice ao3 n3 cap3)) (fun g _ h => .inl h))
      have g8 : w3.cell? ⟨p, 8, none⟩ = some v := keepc g8 hb3
      have f8 : w3.frozen? ⟨p, 8, none⟩ = false := HF3.out.own.thaw 8
      have gl := HF3.out.own.lt
      clear hb3 hI3
      go_wp2
      go_end0
      rw [HE.out]
      exact ⟨rfl, ⟨_, HFN.out⟩, HBN.out⟩
     | false =>
      have HE0 := Lib.hid (show RES = eachF (visF gr d) (cutF cut (nulG gr) (x.ks.drop 0)) (setB s.1 n, s.2) from by
       rw [HV.out, HT1.out, HN1.out]
       rfl)
      have hkl : nk ≤ 90001 := by rw [← HNK.out]; exact HGD.out.kl x (List.mem_of_getElem? HXM.out)
      have HB0 := Lib.hid (But.refl (fun b => b = p ∨ b = m) wc)
      have HD2 := Lib.hid (show lackB ((setB s.1 n, s.2) : Fst).1 gr.ns.length < d from HD1.out)
      generalize ((setB s.1 n, s.2) : Fst) = t0 at *
      clear HV HT1 HN1 y0 y6 yl gl g8
      go_wp2_with fail
      go_loopw [5] (fun v5 wr => ∃ (i : Nat) (t : Fst) (vt : Value), v5 = .int .i64 (i : Int) ∧ (i : Int) ≤ nk ∧ Hid (RES = eachF (visF gr d) (cutF cut (nulG gr) (x.ks.drop i)) t) ∧ Hid (lackB t.1 gr.ns.length < d) ∧ Hid (Fd 67 wr E p u l m C gr a t vt) ∧ Hid (Own wr X 42 [.int .i64 op, .string x.tx, .int .u64 x.s0, .int .u64 x.s1, .int .u64 x.s2, .int .u64 x.s3, .slice ko nk kc, .int .i64 x.tg, .int .i64 (x.mo : Int), .int .i64 x.ru]) ∧ Hid (But (fun b => b = p ∨ b = m) wc wr)) (fun v5 _ => nk - (intOf v5).toNat)
      case atStart => exact ⟨0, t0, v, rfl, by omega, HE0, HD2, HF2, HN2, HB0⟩
      case round =>
       obtain ⟨i, t, vt, rfl, hi, HE1, HD, HF, HN, HB⟩ := hrel
       have y0 : wr.cell? ⟨X, 0, none⟩ = some (.int .i64 op) := HN.out.cell 0
       have y6 : wr.cell? ⟨X, 6, none⟩ = some (.slice ko nk kc) := HN.out.cell 6
       have yl := HN.out.lt
       by_cases hin : (i : Int) < nk
       ·
        have hi1 : decide ((i : Int) < (nk : Int)) = true := decide_eq_true hin
        have hi2 : decide (i < nk) = true := decide_eq_true (by omega)
        have hw2 : IntKind.i64.wrap ((i : Int) + 1) = (i : Int) + 1 := by rw [IntKind.wrap_i64]; omega
        obtain ⟨q1, hq⟩ : ∃ q, x.ks[i]? = some q := ⟨_, List.getElem?_eq_getElem (by have := HNK.out; omega)⟩
        have hqn : q1 < gr.ns.length := HGD.out.kid x (List.mem_of_getElem? HXM.out) q1 (List.mem_of_getElem? hq)
        have HST := Lib.hid (HE1.out.trans (cutF_step (V := visF gr d) (cut := cut) (NU := nulG gr) (t := t) hq))
        obtain ⟨b2, off2, hko, hb2, hbe, qq0⟩ := HK2.out i q1 hq
        have q0 := HB.out.cell (by rintro (e | e); have e : b2 = p := e; have := HF.out.lay.ep; omega; have e : b2 = m := e; have := HF.out.lay.em; omega) qq0
        have hb3 : b2 < wr.heap.size := World.block_lt_of_cell? wr _ q0
        subst hko
        have HC := Lib.hid (HX.out q1 t vt wr hqn HD.out HF.out)
        have HQQ := Lib.hid (show b2 < E from hbe)
        have HQ0 := Lib.hid qq0
        have HQN := Lib.hid hqn
        clear hq hb2 hbe qq0 hqn
        go_wp2_with fail
        refine HC.out.mono ?_
        rintro e w4 ⟨he, ⟨v4, hF4⟩, hB4⟩
        subst he
        have HF4 := Lib.hid hF4
        have HB4 := Lib.hid (HB.out.trans hB4 (fun g _ h => h))
        have HN4 := Lib.hid (HN.out.but hB4 (by have := HXP.out; rintro (e | e); have e : X = p := e; omega; have e : X = m := e; omega))
        have HD4 := Lib.hid (show lackB (visF gr d q1 t).1 gr.ns.length < d from Nat.lt_of_le_of_lt (lackB_mono (visF_more gr d q1 t) _) HD.out)
        clear hF4 hB4 y0 y6 yl q0 hb3 HC
        have y0 : w4.cell? ⟨X, 0, none⟩ = some (.int .i64 op) := HN4.out.cell 0
        have y6 : w4.cell? ⟨X, 6, none⟩ = some (.slice (some ⟨b2, off2, none⟩) nk kc) := HN4.out.cell 6
        have yl := HN4.out.lt
        have q0 := HB4.out.cell (by have := HQQ.out; rintro (e | e); have e : b2 = p := e; have := HF4.out.lay.ep; omega; have e : b2 = m := e; have := HF4.out.lay.em; omega) HQ0.out
        have hb3 : b2 < w4.heap.size := World.block_lt_of_cell? w4 _ q0
        have hrow : Own w4 p 67 (fdrow gr a u l m v4) := HF4.out.own
        unfold fdrow at hrow
        have g5 : w4.cell? ⟨p, 5, none⟩ = some (.slice (some ⟨u, 0, none⟩) nn nn) := by rw [← HLN.out]; exact hrow.cell 5
        have gl := hrow.lt
        have u0 : w4.cell? ⟨u, q1, none⟩ = some (.bool (nulG gr q1)) := by rw [HF4.out.nu.cell q1]; exact rowB_at _ _ q1 HQN.out
        have ul := HF4.out.nu.lt
        have hq1 : decide ((q1 : Int) < (nn : Int)) = true := decide_eq_true (by have := HQN.out; have := HLN.out; omega)
        have hq2 : decide (q1 < nn) = true := decide_eq_true (by have := HQN.out; have := HLN.out; omega)
        have hqlt : q1 < nn := by have := HQN.out; have := HLN.out; omega
        obtain ⟨y, hy⟩ : ∃ z, nulG gr q1 = z := ⟨_, rfl⟩
        rw [hy] at HST u0
        clear hrow hy
        have hor : (cut = true ∧ y = false) ∨ (cut && !y) = false := by cases cut <;> cases y <;> simp
        rcases hor with ⟨rfl, rfl⟩ | hgo
        ·
         have HE := Lib.hid (show RES = visF gr d q1 t from HST.out.trans (if_pos rfl))
         go_wp2_with fail
         go_quiet (fail)
         have hbd := below_drewN (Below.refl w4.heap.size w4) nq
         have HF5 := Lib.hid (HF4.out.below hbd)
         have HB5 := Lib.hid (HB2.out.trans (HB4.out.then_below hbd) (fun g _ h => h))
         clear hbd
         go_wp2
         go_end0
         rw [HE.out]
         exact ⟨rfl, ⟨v4, HF5.out⟩, HB5.out⟩
        ·
         have HE2 := Lib.hid (show RES = eachF (visF gr d) (cutF cut (nulG gr) (x.ks.drop (i + 1))) (visF gr d q1 t) from HST.out.trans (if_neg (by rw [hgo]; decide)))
         cases cut <;> cases y <;> first | (exact absurd hgo (by decide)) | skip
         all_goals
          go_wp2_with fail
          go_quiet (fail)
          have hbd := below_drewN (Below.refl w4.heap.size w4) nq
          have HF5 := Lib.hid (HF4.out.below hbd)
          have HB5 := Lib.hid (HB4.out.then_below hbd)
          have HN5 := Lib.hid (HN4.out.under hbd HN4.out.lt)
          clear hbd
          go_wp2
          go_roundw
          case rel => exact ⟨i + 1, visF gr d q1 t, v4, by go_num, by omega, HE2, HD4, HF5, HN5, HB5⟩
          case measure => simp [intOf]; omega
       ·
        have hi1 : decide ((i : Int) < (nk : Int)) = false := decide_eq_false hin
        have hi2 : decide (i < nk) = false := decide_eq_false (by omega)
        have HE := Lib.hid (show RES = t from by rw [HE1.out, List.drop_of_length_le (by have := HNK.out; omega)]; exact cutF_nil)
        have HB5 := Lib.hid (HB2.out.trans HB.out (fun g _ h => h))
        go_wp2
        go_end0
        rw [HE.out]
        exact ⟨rfl, ⟨vt, HF.out⟩, HB5.out⟩
theorem rvis_any (gr : Gj) (a : Gv) (hg : Good gr) (E p u l m C : Nat) : ∀ (d n : Nat) (s : Fst) (v : Value) (w : World), n < gr.ns.length → lackB s.1 gr.ns.length < d → Fd 67 w E p u l m C gr a s v → Calls Try.prog 33 #[.pointer (some ⟨p, 0, none⟩), .int .i64 (n : Int)] w (FdE 67 w E p u l m C gr a (visF gr d n s)) := fun d => by
 induction d with
 | zero => intro n s v w _ h _; omega
 | succ d ih => exact fun n s v w hn hd hF => rvis_step gr a hg E p u l m C d ih n s v w hn hd hF
set_option maxRecDepth 1000000 in
set_option maxHeartbeats 3200000 in
theorem rlead_any (gr : Gj) (a : Gv) (hg : Good gr) (n : Int) (w : World) (hG : HasG w gr a) : Calls Try.prog 12 #[grv gr a, .int .i64 n] w (LeE gr (leadI gr n) w) := by
 have HGD := Lib.hid hg
 have HB1 := Lib.hid (show Below w.heap.size w (w.alloc (.cells #[.slice a.mo gr.ms.length a.mc, .slice a.no gr.ns.length a.nc, .slice a.ho gr.hs.length a.hc, .slice a.wo gr.ws.length a.wc, .int .i64 gr.st] 27)) from (Below.refl _ _).alloc (Nat.le_refl _) _)
 have HO1 := Lib.hid (Own.fresh w 27 [.slice a.mo gr.ms.length a.mc, .slice a.no gr.ns.length a.nc, .slice a.ho gr.hs.length a.hc, .slice a.wo gr.ws.length a.wc, .int .i64 gr.st])
 have HG1 := Lib.hid ((hG.mono (T := fun b => b < w.heap.size) (fun _ h _ => h)).below HB1.out)
 have HNU := Lib.hid (fun W h => snull_any gr a hg W h)
 have HLD := Lib.hid (fun W h => rled_any gr a hg W h)
 have HFI := Lib.hid (fun E p u l m C k v W h1 h2 h3 => rvis_any gr a hg E p u l m C (gr.ns.length + 1) k (fun _ => false, []) v W h1 h2 h3)
 have HRES := Lib.hid (show ∀ k : Nat, k < gr.ns.length → leadI gr (k : Int) = (visF gr (gr.ns.length + 1) k (fun _ => false, [])).2 from fun k hk => by
  unfold leadI
  rw [if_pos (by omega), Int.toNat_natCast]
  rfl)
 have HNO := Lib.hid (show ∀ k : Int, (k < 0 ∨ (gr.ns.length : Int) ≤ k) → leadI gr k = [] from fun k hk => by
  unfold leadI
  exact if_neg (by omega))
 unfold LeE
 obtain ⟨RES, hRES⟩ : ∃ z, leadI gr n = z := ⟨_, rfl⟩
 have HRS := Lib.hid hRES
 rw [hRES]
 clear hRES
 unfold BoE at HNU HLD
 unfold grv
 unfold grv at HNU HLD
 have HRW := Lib.hid (fun u l m v => show fdrow gr a u l m v = [.slice a.mo gr.ms.length a.mc, .slice a.no gr.ns.length a.nc, .slice a.ho gr.hs.length a.hc, .slice a.wo gr.ws.length a.wc, .int .i64 gr.st, .slice (some ⟨u, 0, none⟩) gr.ns.length gr.ns.length, .slice (some ⟨l, 0, none⟩) gr.ns.length gr.ns.length, .slice (some ⟨m, 0, none⟩) gr.ns.length gr.ns.length, v] from rfl)
 obtain ⟨nn, hnn⟩ : ∃ z, gr.ns.length = z := ⟨_, rfl⟩
 obtain ⟨nh, hnh⟩ : ∃ z, gr.hs.length = z := ⟨_, rfl⟩
 obtain ⟨nms, hnms⟩ : ∃ z, gr.ms.length = z := ⟨_, rfl⟩
 obtain ⟨nw, hnw⟩ : ∃ z, gr.ws.length = z := ⟨_, rfl⟩
 have HLN := Lib.hid hnn
 have hn160 : (nn : Int) ≤ 160 := by have := hg.len; omega
 rw [hnn, hnh, hnms, hnw] at HNU HLD HB1 HO1 HG1
 rw [hnn] at HRES HNO HFI
 simp only [hnn, hnh, hnms, hnw] at HRW
 rw [hnn, hnh, hnms, hnw]
 obtain ⟨B, hB⟩ : ∃ B, w.heap.size = B := ⟨_, rfl⟩
 have HW1 := Lib.hid (show (w.alloc (.cells #[.slice a.mo nms a.mc, .slice a.no nn a.nc, .slice a.ho nh a.hc, .slice a.wo nw a.wc, .int .i64 gr.st] 27)).heap.size = B + 1 from by rw [← hB]; simp)
 have HBE := Lib.hid hB
 rw [hB] at HO1
 clear hg hG hnn hnh hnms hnw
 have hmk : ∀ W : World, (Instr.makeSlice 35 (.int .i64 (nn : Int)) (.int .i64 (nn : Int))).run Try.prog W = .ok (.slice (some ⟨W.heap.size, 0, none⟩) nn nn) (W.alloc (.cells (Array.replicate nn (Value.bool false)) 4)) := fun W => run_boolsE nn (by omega) W
 have HMK := Lib.hid hmk
 clear hmk
 go_enter Try.func12, Try.ntmps12
 go_upto_region 1 with fail
 generalize w.alloc (.cells #[.slice a.mo nms a.mc, .slice a.no nn a.nc, .slice a.ho nh a.hc, .slice a.wo nw a.wc, .int .i64 gr.st] 27) = w1 at *
 try rw [hB]
 clear hB
 have g0 : w1.cell? ⟨B, 0, none⟩ = some (.slice a.mo nms a.mc) := HO1.out.cell 0
 have g1 : w1.cell? ⟨B, 1, none⟩ = some (.slice a.no nn a.nc) := HO1.out.cell 1
 have g2 : w1.cell? ⟨B, 2, none⟩ = some (.slice a.ho nh a.hc) := HO1.out.cell 2
 have g3 : w1.cell? ⟨B, 3, none⟩ = some (.slice a.wo nw a.wc) := HO1.out.cell 3
 have g4 : w1.cell? ⟨B, 4, none⟩ = some (.int .i64 gr.st) := HO1.out.cell 4
 have gl := HO1.out.lt
 by_cases hlo : n < 0
 ·
  have hlo1 : decide (n < 0) = true := decide_eq_true hlo
  have HE := Lib.hid (HRS.out.symm.trans (HNO.out n (.inl hlo)))
  go_wp2
  go_ret
  rw [HE.out]
  exact ⟨_, rfl, IntsAt.nil _ _, HB1.out⟩
 by_cases hhi : (nn : Int) ≤ n
 ·
  have hlo1 : decide (n < 0) = false := decide_eq_false hlo
  have hhi1 : decide ((nn : Int) ≤ n) = true := decide_eq_true hhi
  have HE := Lib.hid (HRS.out.symm.trans (HNO.out n (.inr hhi)))
  go_wp2
  go_ret
  rw [HE.out]
  exact ⟨_, rfl, IntsAt.nil _ _, HB1.out⟩
 obtain ⟨k, rfl⟩ : ∃ k : Nat, n = (k : Int) := ⟨n.toNat, by omega⟩
 have hlo1 : decide ((k : Int) < 0) = false := decide_eq_false hlo
 have hhi1 : decide ((nn : Int) ≤ (k : Int)) = false := decide_eq_false hhi
 have hhi2 : decide (nn ≤ k) = false := decide_eq_false (by omega)
 have hkn : k < nn := by omega
 have HE := Lib.hid (HRS.out.symm.trans (HRES.out k hkn))
 clear hlo hhi
 go_upto_region 3 with fail
 go_cut [5] (fun s5 wx => ∃ u l m p, s5 = .pointer (some ⟨p, 0, none⟩) ∧ Hid (Own wx p 67 [.slice a.mo nms a.mc, .slice a.no nn a.nc, .slice a.ho nh a.hc, .slice a.wo nw a.wc, .int .i64 gr.st, .slice (some ⟨u, 0, none⟩) nn nn, .slice (some ⟨l, 0, none⟩) nn nn, .slice (some ⟨m, 0, none⟩) nn nn, .slice none 0 0]) ∧ Hid (Own wx u 4 (rowB (nulG gr) nn)) ∧ Hid (Own wx l 4 (rowB (ledG gr) nn)) ∧ Hid (Own wx m 4 (rowB (fun _ => false) nn)) ∧ Hid (B + 1 ≤ u ∧ B + 1 ≤ l ∧ B + 1 ≤ m ∧ u ≠ m ∧ l ≠ m ∧ u < p ∧ l < p ∧ m < p) ∧ Hid (Below w1.heap.size w1 wx))
 case first =>
  refine wp_region_held (S := fun Wx => B < Wx.heap.size ∧ Wx.cell? ⟨B, 0, none⟩ = some (.slice a.mo nms a.mc) ∧ Wx.cell? ⟨B, 1, none⟩ = some (.slice a.no nn a.nc) ∧ Wx.cell? ⟨B, 2, none⟩ = some (.slice a.ho nh a.hc) ∧ Wx.cell? ⟨B, 3, none⟩ = some (.slice a.wo nw a.wc) ∧ Wx.cell? ⟨B, 4, none⟩ = some (.int .i64 gr.st)) (by kernel_rfl) ?_
  change wpAnyH _ _ _ _ _ _ _ _ (World.drew _)
  have HKS := Lib.hid (fun (W : World) (h : Below w1.heap.size w1 W) => show B < W.heap.size ∧ W.cell? ⟨B, 0, none⟩ = some (.slice a.mo nms a.mc) ∧ W.cell? ⟨B, 1, none⟩ = some (.slice a.no nn a.nc) ∧ W.cell? ⟨B, 2, none⟩ = some (.slice a.ho nh a.hc) ∧ W.cell? ⟨B, 3, none⟩ = some (.slice a.wo nw a.wc) ∧ W.cell? ⟨B, 4, none⟩ = some (.int .i64 gr.st) from ⟨Nat.lt_of_lt_of_le gl h.size, keepc g0 h, keepc g1 h, keepc g2 h, keepc g3 h, keepc g4 h⟩)
  have HSS := Lib.hid (HKS.out (World.drew w1) (Below.refl _ _).drew)
  clear g0 g1 g2 g3 g4 gl
  refine tkG 0 ?_ rfl HSS.out (by rfl) ?_ ?_; rotate_left; · rintro W ⟨a0, a1, a2, a3, a4, a5⟩; go_simp; try with_reducible rfl
  go_simp
  refine tkG 1 ?_ rfl HSS.out (by rfl) ?_ ?_; rotate_left; · rintro W ⟨a0, a1, a2, a3, a4, a5⟩; go_simp; try with_reducible rfl
  go_simp
  refine tkG 3 ?_ rfl HSS.out (by rfl) ?_ ?_; rotate_left; · rintro W ⟨a0, a1, a2, a3, a4, a5⟩; go_simp; try with_reducible rfl
  go_simp
  refine tkG 5 ?_ rfl HSS.out (by rfl) ?_ ?_; rotate_left; · rintro W ⟨a0, a1, a2, a3, a4, a5⟩; go_simp; try with_reducible rfl
  go_simp
  refine tkG 6 ?_ rfl HSS.out (by rfl) ?_ ?_; rotate_left; · rintro W ⟨a0, a1, a2, a3, a4, a5⟩; go_simp; try with_reducible rfl
  go_simp
  refine tkG 7 ?_ rfl HSS.out (by rfl) ?_ ?_; rotate_left; · rintro W ⟨a0, a1, a2, a3, a4, a5⟩; go_simp; try with_reducible rfl
  go_simp
  have hb0 : Below w1.heap.size w1 (World.drew w1) := (Below.refl _ _).drew
  refine held_two (i := 2) (k := 8) (by kernel_rfl) (op_call (f := 21) (vs := #[.agg #[.slice a.mo nms a.mc, .slice a.no nn a.nc, .slice a.ho nh a.hc, .slice a.wo nw a.wc, .int .i64 gr.st]]) rfl (by kernel_rfl) (by go_simp) ((HNU.out (World.drew w1) (HG1.out.below hb0 |>.mono fun _ _ _ => trivial)).mono ?_)) (op_value (v := .slice (some ⟨(World.drew w1).heap.size, 0, none⟩) nn nn) (w' := (World.drew w1).alloc (.cells (Array.replicate nn (Value.bool false)) 4)) rfl (by kernel_rfl) (by go_simp; rw [HMK.out]; rfl) ?_)
  ·
   rintro e v1 ⟨u, he, hu, hul, hbq⟩
   have hb1 := hb0.trans (hbq.mono hb0.size)
   have hul : w1.heap.size ≤ u := hul
   refine ⟨_, he, HKS.out v1 hb1, ?_⟩
   go_simp
   refine held_two (i := 4) (k := 8) (by kernel_rfl) (op_call (f := 17) (vs := #[.agg #[.slice a.mo nms a.mc, .slice a.no nn a.nc, .slice a.ho nh a.hc, .slice a.wo nw a.wc, .int .i64 gr.st]]) rfl (by kernel_rfl) (by go_simp) ((HLD.out v1 (HG1.out.below hb1 |>.mono fun _ _ _ => trivial)).mono ?_)) (op_value (v := .slice (some ⟨v1.heap.size, 0, none⟩) nn nn) (w' := v1.alloc (.cells (Array.replicate nn (Value.bool false)) 4)) rfl (by kernel_rfl) (by go_simp; rw [HMK.out]; rfl) ?_)
   ·
    rintro e v2 ⟨l, he2, hl, hll, hbq2⟩
    have hb2 := hb1.trans (hbq2.mono hb1.size)
    have hu2 := hu.under hbq2 hu.lt
    refine ⟨_, he2, HKS.out v2 hb2, ?_⟩
    go_simp
    have hbq3 : Below v2.heap.size v2 (v2.alloc (.cells (Array.replicate nn (Value.bool false)) 4)) := (Below.refl _ _).alloc (Nat.le_refl _) _
    have hb3 := hb2.trans (hbq3.mono hb2.size)
    refine held_one (i := 8) (by kernel_rfl) (op_value (v := .slice (some ⟨v2.heap.size, 0, none⟩) nn nn) (w' := v2.alloc (.cells (Array.replicate nn (Value.bool false)) 4)) rfl (by kernel_rfl) (by go_simp; rw [HMK.out]; rfl) ?_)
    refine ⟨HKS.out _ hb3, ?_⟩
    obtain ⟨m, hm0⟩ : ∃ m, v2.heap.size = m := ⟨_, rfl⟩
    have hm : Own (v2.alloc (.cells (Array.replicate nn (Value.bool false)) 4)) m 4 (rowB (fun _ => false) nn) := by rw [← hm0]; rw [rowB_zero, ← List.toArray_replicate]; exact Own.fresh v2 4 _
    have hu3 := hu2.under hbq3 hu2.lt
    have hl3 := hl.under hbq3 hl.lt
    have f1 := hu2.lt
    have f2 := hl.lt
    have f3 := hb1.size
    have f4 := hb2.size
    rw [hm0] at f1 f2 f4
    clear hbq3 hbq2 hbq hu hu2 hl
    have hu := hu3
    have hl := hl3
    clear hu3 hl3
    generalize v2.alloc (.cells (Array.replicate nn (Value.bool false)) 4) = v3 at *
    try rw [hm0]
    clear hm0
    go_simp
    refine tkG 9 ?_ rfl (HKS.out v3 hb3) (by rfl) ?_ ?_; rotate_left; · rintro W h; go_simp; try with_reducible rfl
    go_simp
    have hbx : Below v3.heap.size v3 (v3.alloc (.cells #[.slice a.mo nms a.mc, .slice a.no nn a.nc, .slice a.ho nh a.hc, .slice a.wo nw a.wc, .int .i64 gr.st, .slice (some ⟨u, 0, none⟩) nn nn, .slice (some ⟨l, 0, none⟩) nn nn, .slice (some ⟨m, 0, none⟩) nn nn, .slice none 0 0] 67)) := (Below.refl _ _).alloc (Nat.le_refl _) _
    have hbz := hb3.trans (hbx.mono hb3.size)
    refine held_one (i := 10) (by kernel_rfl) (op_value (v := .pointer (some ⟨v3.heap.size, 0, none⟩)) (w' := v3.alloc (.cells #[.slice a.mo nms a.mc, .slice a.no nn a.nc, .slice a.ho nh a.hc, .slice a.wo nw a.wc, .int .i64 gr.st, .slice (some ⟨u, 0, none⟩) nn nn, .slice (some ⟨l, 0, none⟩) nn nn, .slice (some ⟨m, 0, none⟩) nn nn, .slice none 0 0] 67)) rfl (by kernel_rfl) (by go_simp; try rfl) ?_)
    refine ⟨HKS.out _ hbz, ?_⟩
    go_simp
    refine tkG 11 ?_ rfl (HKS.out _ hbz) (by rfl) ?_ ?_; rotate_left; · rintro W h; go_simp; try with_reducible rfl
    go_simp
    refine wpAnyH_done (by kernel_rfl) ?_ _
    go_simp
    try go_wp2
    go_meet
    have hw1 := HW1.out
    exact ⟨u, l, m, v3.heap.size, rfl, Lib.hid (Own.fresh v3 67 [.slice a.mo nms a.mc, .slice a.no nn a.nc, .slice a.ho nh a.hc, .slice a.wo nw a.wc, .int .i64 gr.st, .slice (some ⟨u, 0, none⟩) nn nn, .slice (some ⟨l, 0, none⟩) nn nn, .slice (some ⟨m, 0, none⟩) nn nn, .slice none 0 0]), Lib.hid (hu.under hbx hu.lt), Lib.hid (hl.under hbx hl.lt), Lib.hid (hm.under hbx hm.lt), Lib.hid ⟨by omega, by omega, by omega, by omega, by omega, hu.lt, hl.lt, hm.lt⟩, Lib.hid hbz⟩
   ·
    have hbq2 : Below v1.heap.size v1 (v1.alloc (.cells (Array.replicate nn (Value.bool false)) 4)) := (Below.refl _ _).alloc (Nat.le_refl _) _
    have hb2 := hb1.trans (hbq2.mono hb1.size)
    refine ⟨HKS.out _ hb2, ?_⟩
    obtain ⟨m, hm0⟩ : ∃ m, v1.heap.size = m := ⟨_, rfl⟩
    have hm : Own (v1.alloc (.cells (Array.replicate nn (Value.bool false)) 4)) m 4 (rowB (fun _ => false) nn) := by rw [← hm0]; rw [rowB_zero, ← List.toArray_replicate]; exact Own.fresh v1 4 _
    have hu2 := hu.under hbq2 hu.lt
    have f1 := hu.lt
    have f3 := hb1.size
    rw [hm0] at f1 f3
    have f4 : m < (v1.alloc (.cells (Array.replicate nn (Value.bool false)) 4)).heap.size := hm.lt
    clear hbq2 hbq hu
    generalize v1.alloc (.cells (Array.replicate nn (Value.bool false)) 4) = v2 at *
    try rw [hm0]
    clear hm0
    go_simp
    refine held_one (i := 4) (by kernel_rfl) (op_call (f := 17) (vs := #[.agg #[.slice a.mo nms a.mc, .slice a.no nn a.nc, .slice a.ho nh a.hc, .slice a.wo nw a.wc, .int .i64 gr.st]]) rfl (by kernel_rfl) (by go_simp) ((HLD.out v2 (HG1.out.below hb2 |>.mono fun _ _ _ => trivial)).mono ?_))
    rintro e v3 ⟨l, he2, hl, hll, hbq2⟩
    have hb3 := hb2.trans (hbq2.mono hb2.size)
    have hu := hu2.under hbq2 hu2.lt
    have hm2 := hm.under hbq2 hm.lt
    clear hm
    have hm := hm2
    clear hm2
    refine ⟨_, he2, HKS.out v3 hb3, ?_⟩
    go_simp
    refine tkG 9 ?_ rfl (HKS.out v3 hb3) (by rfl) ?_ ?_; rotate_left; · rintro W h; go_simp; try with_reducible rfl
    go_simp
    have hbx : Below v3.heap.size v3 (v3.alloc (.cells #[.slice a.mo nms a.mc, .slice a.no nn a.nc, .slice a.ho nh a.hc, .slice a.wo nw a.wc, .int .i64 gr.st, .slice (some ⟨u, 0, none⟩) nn nn, .slice (some ⟨l, 0, none⟩) nn nn, .slice (some ⟨m, 0, none⟩) nn nn, .slice none 0 0] 67)) := (Below.refl _ _).alloc (Nat.le_refl _) _
    have hbz := hb3.trans (hbx.mono hb3.size)
    refine held_one (i := 10) (by kernel_rfl) (op_value (v := .pointer (some ⟨v3.heap.size, 0, none⟩)) (w' := v3.alloc (.cells #[.slice a.mo nms a.mc, .slice a.no nn a.nc, .slice a.ho nh a.hc, .slice a.wo nw a.wc, .int .i64 gr.st, .slice (some ⟨u, 0, none⟩) nn nn, .slice (some ⟨l, 0, none⟩) nn nn, .slice (some ⟨m, 0, none⟩) nn nn, .slice none 0 0] 67)) rfl (by kernel_rfl) (by go_simp; try rfl) ?_)
    refine ⟨HKS.out _ hbz, ?_⟩
    go_simp
    refine tkG 11 ?_ rfl (HKS.out _ hbz) (by rfl) ?_ ?_; rotate_left; · rintro W h; go_simp; try with_reducible rfl
    go_simp
    refine wpAnyH_done (by kernel_rfl) ?_ _
    go_simp
    try go_wp2
    go_meet
    have hw1 := HW1.out
    exact ⟨u, l, m, v3.heap.size, rfl, Lib.hid (Own.fresh v3 67 [.slice a.mo nms a.mc, .slice a.no nn a.nc, .slice a.ho nh a.hc, .slice a.wo nw a.wc, .int .i64 gr.st, .slice (some ⟨u, 0, none⟩) nn nn, .slice (some ⟨l, 0, none⟩) nn nn, .slice (some ⟨m, 0, none⟩) nn nn, .slice none 0 0]), Lib.hid (hu.under hbx hu.lt), Lib.hid (hl.under hbx hl.lt), Lib.hid (hm.under hbx hm.lt), Lib.hid ⟨by omega, by omega, by omega, by omega, by omega, hu.lt, hl.lt, hm.lt⟩, Lib.hid hbz⟩
  ·
   have hbq1 : Below (World.drew w1).heap.size (World.drew w1) ((World.drew w1).alloc (.cells (Array.replicate nn (Value.bool false)) 4)) := (Below.refl _ _).alloc (Nat.le_refl _) _
   have hb1 := hb0.trans (hbq1.mono hb0.size)
   refine ⟨HKS.out _ hb1, ?_⟩
   obtain ⟨m, hm0⟩ : ∃ m, (World.drew w1).heap.size = m := ⟨_, rfl⟩
   have hm : Own ((World.drew w1).alloc (.cells (Array.replicate nn (Value.bool false)) 4)) m 4 (rowB (fun _ => false) nn) := by rw [← hm0]; rw [rowB_zero, ← List.toArray_replicate]; exact Own.fresh (World.drew w1) 4 _
   have f3 : w1.heap.size ≤ m := Nat.le_of_eq hm0
   have f4 : m < ((World.drew w1).alloc (.cells (Array.replicate nn (Value.bool false)) 4)).heap.size := hm.lt
   clear hbq1
   generalize (World.drew w1).alloc (.cells (Array.replicate nn (Value.bool false)) 4) = v1 at *
   try rw [hm0]
   clear hm0
   go_simp
   refine held_one (i := 2) (by kernel_rfl) (op_call (f := 21) (vs := #[.agg #[.slice a.mo nms a.mc, .slice a.no nn a.nc, .slice a.ho nh a.hc, .slice a.wo nw a.wc, .int .i64 gr.st]]) rfl (by kernel_rfl) (by go_simp) ((HNU.out v1 (HG1.out.below hb1 |>.mono fun _ _ _ => trivial)).mono ?_))
   rintro e v2 ⟨u, he, hu, hul, hbq⟩
   have hb2 := hb1.trans (hbq.mono hb1.size)
   have hm2 := hm.under hbq hm.lt
   have f5 := hb1.size
   have f6 := hbq.size
   refine ⟨_, he, HKS.out v2 hb2, ?_⟩
   go_simp
   refine held_one (i := 4) (by kernel_rfl) (op_call (f := 17) (vs := #[.agg #[.slice a.mo nms a.mc, .slice a.no nn a.nc, .slice a.ho nh a.hc, .slice a.wo nw a.wc, .int .i64 gr.st]]) rfl (by kernel_rfl) (by go_simp) ((HLD.out v2 (HG1.out.below hb2 |>.mono fun _ _ _ => trivial)).mono ?_))
   rintro e v3 ⟨l, he2, hl, hll, hbq2⟩
   have hb3 := hb2.trans (hbq2.mono hb2.size)
   have hu2 := hu.under hbq2 hu.lt
   have hm3 := hm2.under hbq2 hm2.lt
   clear hu hm hm2
   have hu := hu2
   have hm := hm3
   clear hu2 hm3
   refine ⟨_, he2, HKS.out v3 hb3, ?_⟩
   go_simp
   refine tkG 9 ?_ rfl (HKS.out v3 hb3) (by rfl) ?_ ?_; rotate_left; · rintro W h; go_simp; try with_reducible rfl
   go_simp
   have hbx : Below v3.heap.size v3 (v3.alloc (.cells #[.slice a.mo nms a.mc, .slice a.no nn a.nc, .slice a.ho nh a.hc, .slice a.wo nw a.wc, .int .i64 gr.st, .slice (some ⟨u, 0, none⟩) nn nn, .slice (some ⟨l, 0, none⟩) nn nn, .slice (some ⟨m, 0, none⟩) nn nn, .slice none 0 0] 67)) := (Below.refl _ _).alloc (Nat.le_refl _) _
   have hbz := hb3.trans (hbx.mono hb3.size)
   refine held_one (i := 10) (by kernel_rfl) (op_value (v := .pointer (some ⟨v3.heap.size, 0, none⟩)) (w' := v3.alloc (.cells #[.slice a.mo nms a.mc, .slice a.no nn a.nc, .slice a.ho nh a.hc, .slice a.wo nw a.wc, .int .i64 gr.st, .slice (some ⟨u, 0, none⟩) nn nn, .slice (some ⟨l, 0, none⟩) nn nn, .slice (some ⟨m, 0, none⟩) nn nn, .slice none 0 0] 67)) rfl (by kernel_rfl) (by go_simp; try rfl) ?_)
   refine ⟨HKS.out _ hbz, ?_⟩
   go_simp
   refine tkG 11 ?_ rfl (HKS.out _ hbz) (by rfl) ?_ ?_; rotate_left; · rintro W h; go_simp; try with_reducible rfl
   go_simp
   refine wpAnyH_done (by kernel_rfl) ?_ _
   go_simp
   try go_wp2
   go_meet
   have hw1 := HW1.out
   exact ⟨u, l, m, v3.heap.size, rfl, Lib.hid (Own.fresh v3 67 [.slice a.mo nms a.mc, .slice a.no nn a.nc, .slice a.ho nh a.hc, .slice a.wo nw a.wc, .int .i64 gr.st, .slice (some ⟨u, 0, none⟩) nn nn, .slice (some ⟨l, 0, none⟩) nn nn, .slice (some ⟨m, 0, none⟩) nn nn, .slice none 0 0]), Lib.hid (hu.under hbx hu.lt), Lib.hid (hl.under hbx hl.lt), Lib.hid (hm.under hbx hm.lt), Lib.hid ⟨by omega, by omega, by omega, by omega, by omega, hu.lt, hl.lt, hm.lt⟩, Lib.hid hbz⟩
 case rest =>
  obtain ⟨u, l, m, p, rfl, HP, HU, HL, HM, HQ, HB⟩ := hcut
  have hB3 := HB1.out.trans (HB.out.mono HB1.out.size)
  have HBZ := Lib.hid hB3
  have hfd : Fd 67 wc B p u l m wc.heap.size gr a (fun _ => false, []) (.slice none 0 0) := by
   have q := HQ.out
   have hbe := HBE.out
   refine ⟨⟨by omega, by omega, by omega, by omega, by omega, by omega, by omega, HP.out.lt, HM.out.lt⟩, ?_, ?_, ?_, ?_, IntsAt.nil _ _, ?_, ?_, Nat.le_refl _⟩
   ·
    rw [HRW.out]; exact HP.out
   ·
    rw [HLN.out]; exact HU.out
   ·
    rw [HLN.out]; exact HL.out
   ·
    rw [HLN.out]; exact HM.out
   ·
    have := HG1.out.below HB.out
    rw [hbe] at this
    exact this
   ·
    have := lackB_le (fun _ => false) gr.ns.length
    show 0 + lackB (fun _ => false) gr.ns.length ≤ _
    omega
  have HC := Lib.hid (HFI.out B p u l m wc.heap.size k (.slice none 0 0) wc hkn (by rw [← HLN.out]; have := lackB_le (fun _ => false) gr.ns.length; show lackB (fun _ => false) gr.ns.length < _; omega) hfd)
  clear hfd hB3 g0 g1 g2 g3 g4 gl
  generalize visF gr (nn + 1) k (fun _ => false, []) = RS at *
  go_wp2_with fail
  refine HC.out.mono ?_
  rintro e w4 ⟨he, ⟨v4, hF4⟩, hB4⟩
  subst he
  have hrow := hF4.own
  rw [HRW.out] at hrow
  have g8 : w4.cell? ⟨p, 8, none⟩ = some v4 := hrow.cell 8
  have gl := hrow.lt
  have HF4 := Lib.hid hF4
  have HZ := Lib.hid (show Below w.heap.size w w4 from HBZ.out.trans (hB4.below (B := w.heap.size) HBZ.out.size (fun j h => by have := HQ.out; have := HBE.out; rcases h with h | h <;> omega)))
  clear hrow hF4 hB4
  go_wp2
  go_ret
  exact ⟨v4, rfl, by rw [HE.out]; exact HF4.out.fo.mono (HBZ.out.size), HZ.out⟩
 end Go.Proofs.Ytbjgojdpfehnmaa
