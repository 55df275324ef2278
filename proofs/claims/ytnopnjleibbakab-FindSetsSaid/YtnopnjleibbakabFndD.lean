/- What queries lead to: a step: the walk of Step. -/
import Derived.Test.YtnopnjleibbakabGj
import Derived.Deep.RegionLaw
import Derived.Deep.CutBlock
namespace Go.Proofs.Ytnopnjleibbakab
set_option linter.unusedVariables false
open Go.RowKit Go.Sort

theorem mem_sel {P : Nat → Bool} : ∀ {n : Nat} {y : Int}, y ∈ sel P n ↔ ∃ k : Nat, k < n ∧ P k = true ∧ y = (k : Int)
  | 0, y => by simp [sel]
  | n + 1, y => by
    by_cases h : P n = true
    · rw [sel_yes h, List.mem_append, mem_sel, List.mem_singleton]
      constructor
      · rintro (⟨k, h1, h2, h3⟩ | h1)
        · exact ⟨k, by omega, h2, h3⟩
        · exact ⟨n, by omega, h, h1⟩
      · rintro ⟨k, h1, h2, h3⟩
        by_cases e : k = n
        · subst e; exact .inr h3
        · exact .inl ⟨k, by omega, h2, h3⟩
    · rw [sel_no (by simpa using h), mem_sel]
      constructor
      · rintro ⟨k, h1, h2, h3⟩; exact ⟨k, by omega, h2, h3⟩
      · rintro ⟨k, h1, h2, h3⟩
        by_cases e : k = n
        · subst e; exact absurd h2 h
        · exact ⟨k, by omega, h2, h3⟩
theorem up_at {l : Nodes} {i : Int} {y : Int} (h : y ∈ upL l i) : ∃ j : Nat, i = (j : Int) ∧ j < l.n ∧ 0 ≤ l.up j ∧ y = l.up j := by
  unfold upL at h
  split at h
  · rename_i g
    rw [List.mem_singleton] at h
    exact ⟨i.toNat, by omega, by omega, g.2.2, h⟩
  · cases h
theorem way_in {l : Nodes} (ht : treeB l l.n = true) {i ax y : Int} (h : y ∈ wayL l i ax) : 0 ≤ y ∧ y < l.n := by
  unfold wayL at h
  split at h
  · obtain ⟨k, h1, _, h3⟩ := mem_sel.1 h; omega
  · split at h
    · unfold belowL at h
      split at h
      · obtain ⟨k, h1, _, h3⟩ := mem_sel.1 h; omega
      · cases h
    · split at h
      · obtain ⟨j, h1, h2, h3, h4⟩ := up_at h
        have := (right_ok ht j h2).2
        omega
      · split at h
        · unfold nextL at h
          split at h
          · obtain ⟨k, h1, _, h3⟩ := mem_sel.1 h; omega
          · cases h
        · cases h
theorem way_len (l : Nodes) (i ax : Int) : (wayL l i ax).length ≤ l.n + 1 := by
  have hs : ∀ P, (sel P l.n).length ≤ l.n := fun P => sel_len P l.n
  unfold wayL
  split
  · have := hs (fun k => decide (l.up k = i) && decide (-1 ≤ i)); unfold kidsL; omega
  · split
    · unfold belowL; split
      · have := hs (inB l i); omega
      · simp
    · split
      · unfold upL; split <;> simp
      · split
        · unfold nextL; split
          · have := hs (fun k => decide (i.toNat + 1 ≤ k) && decide (l.up k = l.up i.toNat)); omega
          · simp
        · simp
theorem pick_mem {f : Int → Bool} {n : Int} {y : Int} : ∀ (L : List Int) (c : Int), y ∈ pickN f n L c → y ∈ L
  | [], c, h => by cases h
  | z :: L, c, h => by
    unfold pickN at h
    generalize (if f z = true then c + 1 else c) = d at h
    split at h
    · rw [List.mem_singleton] at h; subst h; exact List.mem_cons_self ..
    · exact List.mem_cons_of_mem _ (pick_mem L d h)
theorem pick_len {f : Int → Bool} {n : Int} : ∀ (L : List Int) (c : Int), (pickN f n L c).length ≤ 1
  | [], c => Nat.zero_le _
  | z :: L, c => by
    unfold pickN
    generalize (if f z = true then c + 1 else c) = d
    split
    · exact Nat.le_refl _
    · exact pick_len L d
/-- The places to which a step leads from one. -/
def plcN (l : Nodes) (s : ByteArray) (x : Hp) (i : Int) : List Int := if 0 < x.nth then pickN (fun y => isB l s y.toNat x) x.nth (wayL l i x.ax) 0 else wayL l i x.ax
def metF (l : Nodes) (s : ByteArray) (x : Hp) (L : List Int) (j : Nat) : Bool := L.any fun i => inL (plcN l s x i) j
def stepL (l : Nodes) (s : ByteArray) (L : List Int) (x : Hp) : List Int := if treeB l l.n = true then sel (fun j => metF l s x L j && isB l s j x) l.n else []
theorem met_snoc {l : Nodes} {s : ByteArray} {x : Hp} {L : List Int} {k : Nat} {i : Int} (h : L[k]? = some i) (j : Nat) : metF l s x (L.take (k + 1)) j = (metF l s x (L.take k) j || inL (plcN l s x i) j) := by
  unfold metF
  rw [List.take_add_one, h, List.any_append]
  simp
/-- What is in a node that is in another one is in that. -/
theorem in_trans {l : Nodes} (ht : treeB l l.n = true) {a : Int} {i : Nat} (hi : i < l.n) (ha : inB l a i = true) : ∀ (b j : Nat), j ≤ b → j < l.n → inB l (i : Int) j = true → inB l a j = true := by
  intro b
  induction b with
  | zero =>
    intro j hb hj h
    rw [in_step ht hj] at h ⊢
    have hr := right_ok ht j hj
    simp only [Bool.or_eq_true, Bool.and_eq_true, decide_eq_true_eq] at h ⊢
    omega
  | succ b ih =>
    intro j hb hj h
    rw [in_step ht hj] at h ⊢
    have hr := right_ok ht j hj
    simp only [Bool.or_eq_true, Bool.and_eq_true, decide_eq_true_eq] at h ⊢
    rcases h with h | ⟨h0, h⟩
    · right
      refine ⟨by omega, ?_⟩
      rw [h]; exact ha
    · right
      exact ⟨h0, ih _ (by omega) (by omega) h⟩
/-- Below a node that was met so, all is met already. -/
theorem met_skip {l : Nodes} (ht : treeB l l.n = true) {s : ByteArray} {x : Hp} (h2 : x.ax = 2) (hn : ¬ 0 < x.nth) {L : List Int} {i : Nat} (hi : i < l.n) (hm : metF l s x L i = true) (j : Nat) (hj : j < l.n) : (metF l s x L j || inL (plcN l s x (i : Int)) j) = metF l s x L j := by
  have hp : ∀ a, plcN l s x a = belowL l a := fun a => by unfold plcN wayL; rw [if_neg hn, h2]; rfl
  cases hmj : metF l s x L j with
  | true => rfl
  | false =>
    rw [Bool.false_or, hp]
    cases hb : inL (belowL l (i : Int)) j with
    | false => rfl
    | true =>
      exfalso
      unfold metF at hm hmj
      obtain ⟨a, ha1, ha2⟩ := List.any_eq_true.1 hm
      have hmj' := List.any_eq_false.1 hmj a ha1
      rw [hp] at ha2 hmj'
      apply hmj'
      unfold inL at ha2 hb ⊢
      rw [decide_eq_true_eq] at ha2 hb ⊢
      unfold belowL at ha2 hb ⊢
      split at ha2
      · rename_i g
        rw [if_pos ⟨ht, by omega⟩] at hb
        obtain ⟨k, k1, k2, k3⟩ := mem_sel.1 ha2
        obtain ⟨m, m1, m2, m3⟩ := mem_sel.1 hb
        have ek : k = i := by omega
        have em : m = j := by omega
        subst ek em
        rw [if_pos g]
        exact mem_sel.2 ⟨m, m1, in_trans ht hi k2 m m (Nat.le_refl _) hj m2, rfl⟩
      · cases ha2
theorem plc_in {l : Nodes} (ht : treeB l l.n = true) {s : ByteArray} {x : Hp} {i y : Int} (h : y ∈ plcN l s x i) : 0 ≤ y ∧ y < l.n := by
  unfold plcN at h
  split at h
  · exact way_in ht (pick_mem _ _ h)
  · exact way_in ht h
theorem plc_len (l : Nodes) (s : ByteArray) (x : Hp) (i : Int) : (plcN l s x i).length ≤ l.n + 1 := by
  unfold plcN; split
  · have := pick_len (f := fun y => isB l s y.toNat x) (n := x.nth) (wayL l i x.ax) 0; omega
  · exact way_len l i x.ax
theorem sel_filter (M P : Nat → Bool) : ∀ n, sel (fun j => M j && P j) n = (sel M n).filter (fun y => P y.toNat)
  | 0 => rfl
  | n + 1 => by
    cases hm : M n with
    | false => rw [sel_no (by simp [hm]), sel_no hm]; exact sel_filter M P n
    | true =>
      rw [sel_yes hm, List.filter_append, ← sel_filter M P n]
      cases hp : P n with
      | true => rw [sel_yes (by simp [hm, hp])]; simp [hp]
      | false => rw [sel_no (by simp [hm, hp])]; simp [hp]
theorem filter_snoc {f : Int → Bool} {K : List Int} {q : Nat} {y : Int} (h : K[q]? = some y) : (K.take (q + 1)).filter f = (K.take q).filter f ++ (if f y = true then [y] else []) := by
  rw [List.take_add_one, h, List.filter_append]
  cases hf : f y <;> simp [hf]
theorem Owns.low {w : World} {B D : Nat} {v : Value} {L : List Int} (h : Owns w B v L) (hD : D ≤ B) : Owns w D v L := by
  obtain ⟨hl, hcase⟩ := h
  refine ⟨hl, ?_⟩
  rcases hcase with h1 | ⟨g, cap, cur, e, hg, r⟩
  · exact .inl h1
  · exact .inr ⟨g, cap, cur, e, Nat.le_trans hD hg, r⟩
theorem info_bools : (Try.prog.info? 4).map (fun i => (i.zero, i.size, i.bytes)) = some (some (.bool false), 1, 1) := by kernel_rfl
set_option maxRecDepth 1000000 in
set_option maxHeartbeats 3200000 in
theorem step_any (l : Nodes) (ao : Option Addr) (cap : Nat) (s : ByteArray) (hs : (s.size : Int) ≤ 1000) (x : Hp) (B : Nat) (hn : (l.n : Int) ≤ 900) (v : Value) (L : List Int) (C : Nat) (hLn : (L.length : Int) ≤ 1000)
    (w : World) (hB : B ≤ w.heap.size) (hl : Has w ao B l) (hm : Mx w) (hv : IntsAt w C v L) :
    Calls Try.prog 9 #[.slice ao l.n cap, .string s, v, .agg #[.int .i64 x.ax, .int .i64 x.kd, .string x.nm, .string x.is, .string x.has, .int .i64 x.nth]] w fun e w' => ∃ v', e = .returned v' ∧ Owns w' w.heap.size v' (stepL l s L x) ∧ Below w.heap.size w w' := by
  have HST := Lib.hid (show stepL l s L x = if treeB l l.n = true then sel (fun j => metF l s x L j && isB l s j x) l.n else [] from rfl)
  generalize stepL l s L x = RES at *
  have HB0 := Lib.hid ((Below.refl w.heap.size w).alloc (Nat.le_refl _) (.cells #[.int .i64 x.ax, .int .i64 x.kd, .string x.nm, .string x.is, .string x.has, .int .i64 x.nth] 33))
  have HO0 := Lib.hid (Own.fresh w 33 [.int .i64 x.ax, .int .i64 x.kd, .string x.nm, .string x.is, .string x.has, .int .i64 x.nth])
  have HRI := Lib.hid (fun (W : World) (hb : Below w.heap.size w W) => right_any l ao cap B (by omega) W (Nat.le_trans hB hb.size) (hl.keep hb hB))
  obtain ⟨tr, htr⟩ : ∃ t, treeB l l.n = t := ⟨_, rfl⟩
  have HTR := Lib.hid htr
  rw [htr] at HRI HST
  have HIS := Lib.hid (fun (i : Nat) (hi : i < l.n) (W : World) (hb : Below w.heap.size w W) => is_any l ao cap s hs i hi x B (by omega) W (Nat.le_trans hB hb.size) (hl.keep hb hB) (hm.below hb))
  have HWA := Lib.hid (fun (i : Int) (W : World) (hb : Below w.heap.size w W) => way_any l ao cap i x.ax B (by omega) W (Nat.le_trans hB hb.size) (hl.keep hb hB))
  have HNT := Lib.hid (fun (hx : 0 < x.nth) (i : Int) (u : Value) (ht : treeB l l.n = true) (W : World) (hb : Below w.heap.size w W) (D : Nat) (hu : IntsAt W D u (wayL l i x.ax)) => fnth_any l ao cap s hs x hx B (by omega) u (wayL l i x.ax) D (fun y hy => way_in ht hy) (by have := way_len l i x.ax; omega) W (Nat.le_trans hB hb.size) (hl.keep hb hB) (hm.below hb) hu)
  obtain ⟨vo, vc, rfl, hvc, hA⟩ := hv
  have HA := Lib.hid hA
  obtain ⟨m, hm2⟩ : ∃ m, L.length = m := ⟨_, rfl⟩
  have HMM := Lib.hid hm2
  rw [hm2] at hLn HA hvc ⊢
  clear hB hl hm hA hm2 htr
  go_enter Try.func9, Try.ntmps9
  go_wp2_with fail
  generalize World.alloc w _ = w1 at *
  refine (HRI.out _ HB0.out).mono ?_
  rintro e w2 ⟨rfl, hb2⟩
  have HB2 := Lib.hid (keepb HB0.out hb2)
  have HO2 := Lib.hid (HO0.out.under hb2 HO0.out.lt)
  clear hb2 HB0 HO0 HRI
  cases tr with
  | false =>
    have HE := Lib.hid (show RES = [] by rw [HST.out, if_neg (by decide)])
    go_wp2
    go_ret
    exact ⟨_, rfl, by rw [HE.out]; exact Owns.none _ _, HB2.out⟩
  | true =>
    rw [if_pos rfl] at HST
    obtain ⟨N, hN⟩ : ∃ N, l.n = N := ⟨_, rfl⟩
    have HN := Lib.hid hN
    have hmk : ∀ W : World, (Instr.makeSlice 52 (.int .i64 (N : Int)) (.int .i64 (N : Int))).run Try.prog W = .ok (.slice (some ⟨W.heap.size, 0, none⟩) N N) (W.alloc (.cells (Array.replicate N (Value.bool false)) 4)) := fun W => run_bools N (by omega) W
    rw [hN] at hn HST ⊢
    simp only [hN] at HWA HNT HIS
    have HTRN := Lib.hid (show treeB l N = true by rw [← hN]; exact HTR.out)
    obtain ⟨G, hG⟩ : ∃ G, w2.heap.size = G := ⟨_, rfl⟩
    have HR3 := Lib.hid (show Own (w2.alloc (.cells (Array.replicate N (Value.bool false)) 4)) G 4 (rowM (metF l s x (L.take 0)) N) by
      have e : rowM (metF l s x (L.take 0)) N = rowM (fun _ => false) N := rowM_congr (fun j _ => rfl)
      rw [e, rowM_zero, ← List.toArray_replicate, ← hG]; exact Own.fresh w2 4 _)
    have HB3 := Lib.hid (HB2.out.alloc HB2.out.size (.cells (Array.replicate N (Value.bool false)) 4))
    have HO3 := Lib.hid (HO2.out.on_alloc (.cells (Array.replicate N (Value.bool false)) 4))
    have HGG := Lib.hid (show w.heap.size < G by rw [← hG]; exact HO2.out.lt)
    go_upto_region 4 with fail
    generalize World.alloc w2 _ = w3 at *
    clear HB2 HO2 hmk hG
    go_wp2_with fail
    go_loopw [23] (fun b23 wr => ∃ k : Nat, b23 = .int .i64 (k : Int) ∧ (k : Int) ≤ m ∧ Hid (Own wr G 4 (rowM (metF l s x (L.take k)) N)) ∧ Hid (Own wr w.heap.size 33 [.int .i64 x.ax, .int .i64 x.kd, .string x.nm, .string x.is, .string x.has, .int .i64 x.nth]) ∧ Hid (Below w.heap.size w wr)) (fun b23 _ => m - (intOf b23).toNat)
    case atStart => exact ⟨0, rfl, by omega, HR3, HO3, HB3⟩
    case round =>
      obtain ⟨k, rfl, hk, HR, HO, HB⟩ := hrel
      clear HR3 HO3 HB3
      by_cases h1 : (k : Int) < m
      · obtain ⟨b, off, rfl, hb, hbC, hcl⟩ := HA.out k (by omega)
        obtain ⟨i, hi⟩ : ∃ i, L[k]? = some i := ⟨_, List.getElem?_eq_getElem (by have := HMM.out; omega)⟩
        rw [getD_of hi] at hcl
        have hcw := keepc hcl HB.out
        have hbl : b < wr.heap.size := Nat.lt_of_lt_of_le hb HB.out.size
        have hw1 : IntKind.i64.wrap ((k : Int) + 1) = (k : Int) + 1 := by rw [IntKind.wrap_i64]; omega
        have HSN := Lib.hid (fun j => met_snoc (l := l) (s := s) (x := x) hi j)
        obtain ⟨x0, x1, x2, x3, x4, x5, xg, -⟩ := HO.out.six
        clear hi hcl hb
        have HGW := Lib.hid (show G < wr.heap.size from HR.out.lt)
        have HPI := Lib.hid (fun y hy => plc_in (s := s) (x := x) (i := i) (y := y) HTR.out hy)
        have HPN := Lib.hid (plc_len l s x i)
        rw [HN.out] at HPI HPN
        go_upto_block 1 with (fail)
        go_cut [] (fun wx => Hid (Own wx G 4 (rowM (fun j => metF l s x (L.take k) j || inL (plcN l s x i) j) N)) ∧ Hid (Own wx w.heap.size 33 [.int .i64 x.ax, .int .i64 x.kd, .string x.nm, .string x.is, .string x.has, .int .i64 x.nth]) ∧ Hid (Below w.heap.size w wx))
        case first =>
          by_cases h2 : 0 < x.nth
          · have HPL := Lib.hid (show plcN l s x i = pickN (fun y => isB l s y.toNat x) x.nth (wayL l i x.ax) 0 from if_pos h2)
            have HBd := Lib.hid (show Below w.heap.size w wr.drew from HB.out.drew)
            have HOd := Lib.hid (show Own wr.drew w.heap.size 33 [.int .i64 x.ax, .int .i64 x.kd, .string x.nm, .string x.is, .string x.has, .int .i64 x.nth] from HO.out.on_drew)
            have HRd := Lib.hid (show Own wr.drew G 4 (rowM (metF l s x (L.take k)) N) from HR.out.on_drew)
            go_upto_region 8 with fail
            go_region_law ((go_simp; first
              | (go_at_call 22; refine (HWA.out i _ HBd.out).mono ?_; rintro e wy ⟨u, rfl, hu, hbw⟩; have HU := Lib.hid hu.ints; have HBY := Lib.hid (keepb HBd.out hbw); have HOY := Lib.hid (HOd.out.under hbw HOd.out.lt); have HRY := Lib.hid (HRd.out.under hbw HRd.out.lt); clear hu hbw; obtain ⟨y0, y1, y2, y3, y4, y5, yg, -⟩ := HOY.out.six)
              | (go_at_call 21; refine (HNT.out h2 i u HTRN.out _ HBY.out _ HU.out).mono ?_; rintro e wz ⟨u2, rfl, hu2, hbz⟩; have HU2 := Lib.hid hu2; have HBZ := Lib.hid (keepb HBY.out hbz); have HOZ := Lib.hid (HOY.out.under hbz HOY.out.lt); have HRZ := Lib.hid (HRY.out.under hbz HRY.out.lt); clear hu2 hbz)
              | (go_at_call 20; refine (mark_any G N _ u2 _ _ HGW.out (fun y hy => HPI.out y (by rw [HPL.out]; exact hy)) (by rw [← HPL.out]; have := HPN.out; omega) N (Nat.le_refl _) _ HRZ.out HU2.out).mono ?_; rintro e wm ⟨rfl, hrm, hbm⟩; have HRM := Lib.hid hrm; have HBM := Lib.hid hbm; clear hrm hbm)))
            all_goals go_wp2_with fail
            all_goals go_meet
            all_goals exact ⟨by rw [HPL.out]; exact HRM, Lib.hid (HOZ.out.but HBM.out (by have := HGG.out; omega)), Lib.hid (HBZ.out.trans (HBM.out.below (B := w.heap.size) HBZ.out.size (fun g hg => by have := HGG.out; omega)))⟩
          · have HPL := Lib.hid (show plcN l s x i = wayL l i x.ax from if_neg h2)
            by_cases h3 : x.ax = 2
            · have e3 : (x.ax != 2) = false := by simp [h3]
              by_cases h4 : i < 0
              · have e4 : decide (i < 0) = true := decide_eq_true h4
                clear h3
                go_wp2_with fail
                refine (HWA.out _ _ HB.out).mono ?_
                rintro e wy ⟨u, rfl, hu, hbw⟩
                have HU := Lib.hid hu.ints
                have HBY := Lib.hid (keepb HB.out hbw)
                have HOY := Lib.hid (HO.out.under hbw HO.out.lt)
                have HRY := Lib.hid (HR.out.under hbw HR.out.lt)
                clear hu hbw
                go_wp2_with fail
                refine (mark_any G N _ u _ _ HGW.out (fun y hy => HPI.out y (by rw [HPL.out]; exact hy)) (by rw [← HPL.out]; have := HPN.out; omega) N (Nat.le_refl _) _ HRY.out HU.out).mono ?_
                rintro e wm ⟨rfl, hrm, hbm⟩
                have HRM := Lib.hid hrm
                have HBM := Lib.hid hbm
                clear hrm hbm
                go_wp2_with fail
                go_meet
                exact ⟨by rw [HPL.out]; exact HRM, Lib.hid (HOY.out.but HBM.out (by have := HGG.out; omega)), Lib.hid (HBY.out.trans (HBM.out.below (B := w.heap.size) HBY.out.size (fun g hg => by have := HGG.out; omega)))⟩
              · obtain ⟨q, rfl⟩ : ∃ q : Nat, i = (q : Int) := ⟨i.toNat, by omega⟩
                by_cases h5 : (N : Int) ≤ q
                · clear h3
                  go_wp2_with fail
                  refine (HWA.out _ _ HB.out).mono ?_
                  rintro e wy ⟨u, rfl, hu, hbw⟩
                  have HU := Lib.hid hu.ints
                  have HBY := Lib.hid (keepb HB.out hbw)
                  have HOY := Lib.hid (HO.out.under hbw HO.out.lt)
                  have HRY := Lib.hid (HR.out.under hbw HR.out.lt)
                  clear hu hbw
                  go_wp2_with fail
                  refine (mark_any G N _ u _ _ HGW.out (fun y hy => HPI.out y (by rw [HPL.out]; exact hy)) (by rw [← HPL.out]; have := HPN.out; omega) N (Nat.le_refl _) _ HRY.out HU.out).mono ?_
                  rintro e wm ⟨rfl, hrm, hbm⟩
                  have HRM := Lib.hid hrm
                  have HBM := Lib.hid hbm
                  clear hrm hbm
                  go_wp2_with fail
                  go_meet
                  exact ⟨by rw [HPL.out]; exact HRM, Lib.hid (HOY.out.but HBM.out (by have := HGG.out; omega)), Lib.hid (HBY.out.trans (HBM.out.below (B := w.heap.size) HBY.out.size (fun g hg => by have := HGG.out; omega)))⟩
                · obtain ⟨bm, hbm⟩ : ∃ b, metF l s x (L.take k) q = b := ⟨_, rfl⟩
                  have hcq : wr.cell? ⟨G, q, none⟩ = some (.bool bm) := by rw [HR.out.cell, rowM_get (by omega), hbm]
                  have HBQ := Lib.hid hbm
                  clear hbm
                  cases bm with
                  | false =>
                    clear h3
                    go_wp2_with fail
                    refine (HWA.out _ _ HB.out).mono ?_
                    rintro e wy ⟨u, rfl, hu, hbw⟩
                    have HU := Lib.hid hu.ints
                    have HBY := Lib.hid (keepb HB.out hbw)
                    have HOY := Lib.hid (HO.out.under hbw HO.out.lt)
                    have HRY := Lib.hid (HR.out.under hbw HR.out.lt)
                    clear hu hbw
                    go_wp2_with fail
                    refine (mark_any G N _ u _ _ HGW.out (fun y hy => HPI.out y (by rw [HPL.out]; exact hy)) (by rw [← HPL.out]; have := HPN.out; omega) N (Nat.le_refl _) _ HRY.out HU.out).mono ?_
                    rintro e wm ⟨rfl, hrm, hbm⟩
                    have HRM := Lib.hid hrm
                    have HBM := Lib.hid hbm
                    clear hrm hbm
                    go_wp2_with fail
                    go_meet
                    exact ⟨by rw [HPL.out]; exact HRM, Lib.hid (HOY.out.but HBM.out (by have := HGG.out; omega)), Lib.hid (HBY.out.trans (HBM.out.below (B := w.heap.size) HBY.out.size (fun g hg => by have := HGG.out; omega)))⟩
                  | true =>
                    have HRS := Lib.hid (show Own wr G 4 (rowM (fun j => metF l s x (L.take k) j || inL (plcN l s x (q : Int)) j) N) by
                      rw [rowM_congr (N := metF l s x (L.take k)) (fun j hj => met_skip HTR.out h3 h2 (by rw [HN.out]; omega) HBQ.out j (by rw [HN.out]; exact hj))]; exact HR.out)
                    clear h3
                    go_wp2_with fail
                    go_meet
                    exact ⟨HRS, HO, HB⟩
            · have e3 : (x.ax != 2) = true := by simp [h3]
              go_wp2_with fail
              refine (HWA.out _ _ HB.out).mono ?_
              rintro e wy ⟨u, rfl, hu, hbw⟩
              have HU := Lib.hid hu.ints
              have HBY := Lib.hid (keepb HB.out hbw)
              have HOY := Lib.hid (HO.out.under hbw HO.out.lt)
              have HRY := Lib.hid (HR.out.under hbw HR.out.lt)
              clear hu hbw
              go_wp2_with fail
              refine (mark_any G N _ u _ _ HGW.out (fun y hy => HPI.out y (by rw [HPL.out]; exact hy)) (by rw [← HPL.out]; have := HPN.out; omega) N (Nat.le_refl _) _ HRY.out HU.out).mono ?_
              rintro e wm ⟨rfl, hrm, hbm⟩
              have HRM := Lib.hid hrm
              have HBM := Lib.hid hbm
              clear hrm hbm
              go_wp2_with fail
              go_meet
              exact ⟨by rw [HPL.out]; exact HRM, Lib.hid (HOY.out.but HBM.out (by have := HGG.out; omega)), Lib.hid (HBY.out.trans (HBM.out.below (B := w.heap.size) HBY.out.size (fun g hg => by have := HGG.out; omega)))⟩
        case rest =>
          obtain ⟨HR2, HO2, HB2⟩ := hcut
          have HR3 := Lib.hid (show Own wc G 4 (rowM (metF l s x (L.take (k + 1))) N) by rw [rowM_congr (fun j _ => HSN.out j)]; exact HR2.out)
          clear HR HO HB HR2 x0 x1 x2 x3 x4 x5 xg
          go_wp2
          go_roundw
          case rel => exact ⟨k + 1, by go_num, by omega, HR3, HO2, HB2⟩
          case measure => simp [intOf]; omega
      · obtain rfl : k = m := by omega
        have hMT : L.take k = L := List.take_of_length_le (by rw [HMM.out]; omega)
        rw [hMT] at HR
        have HRES := Lib.hid (show RES = (sel (metF l s x L) N).filter (fun y => isB l s y.toNat x) by rw [HST.out]; exact sel_filter _ _ N)
        obtain ⟨K, hK⟩ : ∃ K, sel (metF l s x L) N = K := ⟨_, rfl⟩
        have HKI := Lib.hid (show ∀ y ∈ K, 0 ≤ y ∧ y < N from fun y hy => by rw [← hK] at hy; obtain ⟨q, h1, h2, h3⟩ := mem_sel.1 hy; omega)
        have HKL := Lib.hid (show K.length ≤ N by rw [← hK]; exact sel_len _ _)
        rw [hK] at HRES
        have HMK := Lib.hid (fun W h => marked_any G N (metF l s x L) N (by omega) W h)
        rw [hK] at HMK
        obtain ⟨i0, hi, hz0, hz1, hz2⟩ := info_parts info_int
        clear hMT hK
        go_wp2_with fail
        refine (HMK.out _ HR.out).mono ?_
        rintro e wy ⟨u, rfl, hu, hbw⟩
        obtain ⟨uo, uc, rfl, hA2⟩ := hu.form
        have HA2 := Lib.hid hA2
        have HBY := Lib.hid (keepb HB.out hbw)
        have HOY := Lib.hid (HO.out.under hbw HO.out.lt)
        obtain ⟨mm, hmm⟩ : ∃ mm, K.length = mm := ⟨_, rfl⟩
        have HMN := Lib.hid hmm
        rw [hmm] at HA2 HKL ⊢
        have hml : mm ≤ N := HKL.out
        have HW0 := Lib.hid (Owns.none wy wy.heap.size)
        have HY0 := Lib.hid (Below.refl wy.heap.size wy)
        clear hu hA2 hbw HR HO HB hmm
        go_wp2_with fail
        go_loopw [12, 72] (fun v12 b72 wr2 => ∃ q : Nat, b72 = .int .i64 (q : Int) ∧ (q : Int) ≤ mm ∧ Hid (Owns wr2 wy.heap.size v12 ((K.take q).filter (fun y => isB l s y.toNat x))) ∧ Hid (Below wy.heap.size wy wr2)) (fun _ b72 _ => mm - (intOf b72).toNat)
        case atStart => exact ⟨0, rfl, by omega, HW0, HY0⟩
        case round =>
          obtain ⟨q, rfl, hq, HW, HY⟩ := hrel
          clear HW0 HY0
          by_cases h6 : (q : Int) < mm
          · obtain ⟨b, rfl, hb, hbC, hcl⟩ := HA2.out q (by omega)
            obtain ⟨y, hy⟩ : ∃ y, K[q]? = some y := ⟨_, List.getElem?_eq_getElem (by have := HMN.out; omega)⟩
            have hmem := HKI.out y (List.mem_of_getElem? hy)
            obtain ⟨j, rfl⟩ : ∃ j : Nat, y = (j : Int) := ⟨y.toNat, by omega⟩
            rw [getD_of hy] at hcl
            have hcw := keepc hcl HY.out
            have hbl := Nat.lt_of_lt_of_le hb HY.out.size
            have HBR := Lib.hid (keepb HBY.out HY.out)
            have HOR := Lib.hid (HOY.out.under HY.out HOY.out.lt)
            have hw1 : IntKind.i64.wrap ((q : Int) + 1) = (q : Int) + 1 := by rw [IntKind.wrap_i64]; omega
            have HFS := Lib.hid (filter_snoc (f := fun y => isB l s y.toNat x) hy)
            have HIJ := Lib.hid (HIS.out j (by omega) _ HBR.out)
            obtain ⟨fb, hfb⟩ : ∃ b, isB l s j x = b := ⟨_, rfl⟩
            rw [Int.toNat_natCast, hfb] at HFS
            rw [hfb] at HIJ
            obtain ⟨x0, x1, x2, x3, x4, x5, xg, -⟩ := HOR.out.six
            clear hfb hy hcl hb
            go_wp2_with fail
            refine HIJ.out.mono ?_
            rintro e w5 ⟨rfl, hb5⟩
            have HW5 := Lib.hid (HW.out.keep hb5)
            have HY5 := Lib.hid (keepb HY.out hb5)
            have HB5 := Lib.hid (keepb HBR.out hb5)
            clear hb5 HW HY HBR HOR x0 x1 x2 x3 x4 x5 xg hcw
            have hfl : ((K.take q).filter (fun y => isB l s y.toNat x)).length ≤ q := by
              have h7 := List.length_filter_le (fun y => isB l s y.toNat x) (K.take q)
              rw [List.length_take] at h7; omega
            cases fb with
            | true =>
              rw [if_pos rfl] at HFS
              have ho' := HW5.out
              unfold Owns at ho'
              have hbs := HY5.out.size
              generalize (K.take q).filter (fun y => isB l s y.toNat x) = KF at *
              go_wp2_with (first
                | (at_builtin; refine wpList_append_own _ rfl _ _ 29 rfl wy.heap.size 3 i0 (.int .i64 0) 1 8 Try.underlying29 hi hz0 hz1 hz2 rfl (by decide) _ _ _ rfl (ho'.alloc _) ⟨w5.heap.size, 0, none⟩ 1 1 [.int .i64 (j : Int)] rfl rfl ?c1 ?c2 ?c3 ?c4 ?c5 ?_))
              case c1 =>
                intro j' u hj
                match j', hj with
                | 0, hj => simp at hj; subst hj; simp [Addr.add]
              case c2 => intro u hu; simp at hu; subst hu; rfl
              case c3 => unfold maxLen; omega
              case c4 => omega
              case c5 => simp; omega
              intro v' w6 hown' hgrow _
              have hO := Lib.hid (Owns.step hown')
              rw [← HFS.out] at hO
              have hY6 := Lib.hid (below_grow HY5.out ho' hgrow)
              clear hown' ho' HW5 hgrow
              go_wp2
              go_roundw
              case rel => exact ⟨q + 1, by go_num, by omega, hO, hY6⟩
              case measure => simp [intOf]; omega
            | false =>
              rw [if_neg (by decide), List.append_nil] at HFS
              go_wp2
              go_roundw
              case rel => exact ⟨q + 1, by go_num, by omega, Lib.hid (by rw [HFS.out]; exact HW5.out), HY5⟩
              case measure => simp [intOf]; omega
          · obtain rfl : q = mm := by omega
            have HE := Lib.hid (show (K.take q).filter (fun y => isB l s y.toNat x) = RES by rw [HRES.out, List.take_of_length_le (by rw [HMN.out]; omega)])
            rw [HE.out] at HW
            go_wp2
            go_ret
            exact ⟨_, rfl, Owns.low HW.out HBY.out.size, keepb HBY.out HY.out⟩
end Go.Proofs.Ytnopnjleibbakab
