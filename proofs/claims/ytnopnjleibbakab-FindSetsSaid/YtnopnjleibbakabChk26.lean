/- Checks and names: the walk of the law FindChecks. -/
import Derived.Test.YtnopnjleibbakabGk
import Derived.Test.YtnopnjleibbakabSteps
import Derived.Test.YtnopnjleibbakabQuiet
namespace Go.Proofs.Ytnopnjleibbakab
set_option linter.unusedVariables false
open Go.RowKit Go.Sort

theorem wide_no {P : List (List Hp)} (h : wideQ P = false) : P.length ≤ 20 ∧ ∀ p ∈ P, p.length ≤ 20 ∧ ∀ x ∈ p, x.nm.size ≤ 60 := by
  unfold wideQ at h
  rw [List.any_eq_false] at h
  have hh : ∀ p ∈ P, P.length ≤ 20 ∧ p.length ≤ 20 ∧ ∀ x ∈ p, x.nm.size ≤ 60 := fun p hp => by
    have h1 := h p hp
    unfold wideF at h1
    simp only [Bool.or_eq_true, decide_eq_true_eq, not_or, List.any_eq_true, not_exists, not_and] at h1
    refine ⟨by omega, by omega, fun x hx => ?_⟩
    have h2 := h1.2 x hx
    unfold wideH at h2
    simp only [Bool.or_eq_true, decide_eq_true_eq, not_or] at h2
    omega
  refine ⟨?_, fun p hp => (hh p hp).2⟩
  cases P with
  | nil => simp
  | cons p P => exact (hh p (List.mem_cons_self ..)).1
/-- The law's code: the names, each with an op of its own place. -/
def cK (N : List ByteArray) (k : Nat) : List (Int × ByteArray) := (List.range k).map fun i => (6 + ((i % 7 : Nat) : Int), N.getD i ⟨#[]⟩)
def rowC (L : List (Int × ByteArray)) : List Value := (L.map fun x => irow x.1 x.2).flatten
theorem cK_succ (N : List ByteArray) (k : Nat) : cK N (k + 1) = cK N k ++ [(6 + ((k % 7 : Nat) : Int), N.getD k ⟨#[]⟩)] := by
  unfold cK; rw [List.range_succ, List.map_append]; rfl
theorem cK_len (N : List ByteArray) (k : Nat) : (cK N k).length = k := by unfold cK; simp
theorem rowC_snoc (L : List (Int × ByteArray)) (a : Int) (t : ByteArray) : rowC (L ++ [(a, t)]) = rowC L ++ irow a t := by
  unfold rowC; simp
theorem rowC_cons (x : Int × ByteArray) (L : List (Int × ByteArray)) : rowC (x :: L) = irow x.1 x.2 ++ rowC L := by unfold rowC; simp
theorem irow_len (a : Int) (t : ByteArray) : (irow a t).length = 14 := rfl
theorem rowC_at : ∀ {L : List (Int × ByteArray)} {k : Nat} {a : Int} {t : ByteArray}, L[k]? = some (a, t) → ∀ j, j < 14 → (rowC L)[k * 14 + j]? = (irow a t)[j]?
  | [], k, a, t, h, j, hj => by simp at h
  | x :: L, 0, a, t, h, j, hj => by
    simp only [List.getElem?_cons_zero, Option.some.injEq] at h
    subst h
    rw [rowC_cons, List.getElem?_append_left (by rw [irow_len]; omega)]
    simp
  | x :: L, k + 1, a, t, h, j, hj => by
    simp only [List.getElem?_cons_succ] at h
    rw [rowC_cons, List.getElem?_append_right (by rw [irow_len]; omega), irow_len, ← rowC_at h j hj]
    congr 1; omega
theorem HasI.of_win {T : Nat → Prop} {w : World} {v : Value} {L : List (Int × ByteArray)} {n : Nat} (hn : L.length = n) (h : Win T 44 14 w v n (rowC L)) : ∃ co cc, v = .slice co n cc ∧ HasI w co L := by
  obtain ⟨ao, cap, e, _, _, hf⟩ := h.form
  refine ⟨ao, cap, e, fun k a t hk => ?_⟩
  have hkl : k < n := by have := (List.getElem?_eq_some_iff.1 hk).1; omega
  obtain ⟨g, off, e1, _, hg, _⟩ := hf (k * 14) (by omega)
  refine ⟨g, off, e1, hg, fun j v hv => ?_⟩
  have hj : j < 14 := by have := (List.getElem?_eq_some_iff.1 hv).1; rw [irow_len] at this; exact this
  obtain ⟨g', off', e2, _, _, hc⟩ := hf (k * 14 + j) (by omega)
  rw [e1] at e2
  simp only [Option.some.injEq, Addr.mk.injEq, and_true] at e2
  obtain ⟨rfl, rfl⟩ := e2
  have hc1 := hc.1
  rw [Nat.add_assoc, hc1, rowC_at hk j hj]
  exact hv
theorem info_ins : (Try.prog.info? 44).map (fun i => (i.zero, i.size, i.bytes)) = some (some (.agg #[.int .i64 0, .string ⟨#[]⟩, .int .u64 0, .int .u64 0, .int .u64 0, .int .u64 0, .slice none 0 0, .int .u64 0, .int .u64 0, .int .u64 0, .int .u64 0, .bool false, .slice none 0 0, .int .i64 0]), 14, 152) := by kernel_rfl
theorem irow_one (a : Int) (t : ByteArray) : ∀ u ∈ irow a t, u.oneCell' = true := by
  intro u hu
  unfold irow at hu
  simp only [List.mem_cons, List.not_mem_nil, or_false] at hu
  rcases hu with rfl | rfl | rfl | rfl | rfl | rfl | rfl | rfl | rfl | rfl | rfl | rfl | rfl | rfl <;> rfl

set_option maxRecDepth 1000000 in
set_option maxHeartbeats 3200000 in
theorem checks_walk (HAW : ∀ w, Mx w → Calls Try.prog 7 #[] w fun e w' => e = .returned (.bool true) ∧ Below w.heap.size w w') (P : List (List Hp)) (qo : Option Addr) (qc : Nat) (Nm : List ByteArray) (ao : Option Addr) (ac : Nat)
    (hP : P.length ≤ maxLen) (hPL : ∀ p ∈ P, p.length ≤ maxLen) (W : World) (hmx : Mx W) (hq : HasQ W qo P) (hnm : HasNm W ao Nm) :
    Calls Try.prog 4 #[.agg #[.slice qo P.length qc], .slice ao Nm.length ac] W fun e w' => e = .returned (.bool true) ∧ Below W.heap.size W w' := by
  have HQ := Lib.hid hq
  have HN := Lib.hid hnm
  have HM := Lib.hid hmx
  have HA := Lib.hid HAW
  obtain ⟨i0, hi, hz0, hz1, hz2⟩ := info_parts info_ins
  have IP := Lib.hid (And.intro hi (And.intro hz0 (And.intro hz1 hz2)))
  clear hi hz0 hz1 hz2
  have HW := Lib.hid (fun W' (hb : Below W.heap.size W W') => wide_any P qo qc (by unfold maxLen at hP; omega) (fun p hp => by have := hPL p hp; unfold maxLen at this; omega) W' (hq.below hb))
  have HB0 := Lib.hid ((Below.refl W.heap.size W).alloc (Nat.le_refl _) (.cells #[.slice qo P.length qc] 25))
  have HO0 := Lib.hid (Own.fresh W 25 [.slice qo P.length qc])
  obtain ⟨n, hnn⟩ : ∃ n, Nm.length = n := ⟨_, rfl⟩
  have HNN := Lib.hid hnn
  rw [hnn]
  clear hq hnm hmx HAW hP hPL hnn
  go_enter Try.func4, Try.ntmps4
  go_upto_region 1 with fail
  generalize World.alloc W _ = w1 at *
  have o0 : w1.cell? ⟨W.heap.size, 0, none⟩ = some (.slice qo P.length qc) := HO0.out.cell 0
  have ol := HO0.out.lt
  go_wp2_with fail
  refine (HW.out _ HB0.out).mono ?_
  rintro e w2 ⟨rfl, hb2⟩
  have HB2 := Lib.hid (keepb HB0.out hb2)
  have HO2 := Lib.hid (HO0.out.under hb2 ol)
  clear hb2 o0 ol HB0 HO0
  cases hwd : wideQ P with
  | true =>
    go_wp2_with fail
    refine (HA.out w2 (HM.out.below HB2.out)).mono ?_
    rintro e w3 ⟨rfl, hb3⟩
    go_wp2
    go_ret
    exact ⟨rfl, keepb HB2.out hb3⟩
  | false =>
    have HWN := Lib.hid (wide_no hwd)
    clear hwd
    by_cases hn20 : (20 : Int) < n
    · go_wp2_with fail
      refine (HA.out w2 (HM.out.below HB2.out)).mono ?_
      rintro e w3 ⟨rfl, hb3⟩
      go_wp2
      go_ret
      exact ⟨rfl, keepb HB2.out hb3⟩
    · have HB3 := Lib.hid (HB2.out.alloc HB2.out.size (.cells #[.slice none 0 0] 39))
      have HO3 := Lib.hid (HO2.out.on_alloc (.cells #[.slice none 0 0] 39))
      have HC3 := Lib.hid (Own.fresh w2 39 [.slice none 0 0])
      have HSZ := Lib.hid HO2.out.lt
      clear HB2 HO2
      go_upto_region 4 with fail
      generalize World.alloc w2 _ = w3 at *
      obtain ⟨b, hb⟩ : ∃ b, w2.heap.size = b := ⟨_, rfl⟩
      rw [hb] at HC3 HSZ
      rw [hb]
      clear hb
      go_wp2_with fail
      go_loopw [6] (fun b6 wr => ∃ (k : Nat) (v : Value), b6 = .int .i64 (k : Int) ∧ (k : Int) ≤ n ∧ Hid (Below W.heap.size W wr) ∧ Hid (Own wr W.heap.size 25 [.slice qo P.length qc]) ∧ Hid (Own wr b 39 [v]) ∧ Hid (Win (fun g => b < g) 44 14 wr v k (rowC (cK Nm k)))) (fun b6 _ => n - (intOf b6).toNat)
      case atStart => exact ⟨0, _, rfl, by omega, HB3, HO3, HC3, Lib.hid ⟨by simp [rowC, cK], .inl ⟨rfl, rfl⟩⟩⟩
      case round =>
        obtain ⟨k, v, rfl, hk, HB, HO, HC, HW⟩ := hrel
        clear HB3 HO3 HC3
        by_cases h1 : (k : Int) < n
        · obtain ⟨s, hs⟩ : ∃ y, Nm[k]? = some y := ⟨_, List.getElem?_eq_getElem (by have := HNN.out; omega)⟩
          obtain ⟨g, off, rfl, hg, hcell⟩ := HN.out k s hs
          have HS := Lib.hid hs
          have c0 := keepc hcell HB.out
          have hgw := Nat.lt_of_lt_of_le hg HB.out.size
          obtain ⟨av, cv, rfl, hcv, -, -⟩ := HW.out.form
          have b0 : wr.cell? ⟨b, 0, none⟩ = some (.slice av k cv) := HC.out.cell 0
          have bl := HC.out.lt
          have bt := HC.out.thaw 0
          clear hs hcell hg
          have K1 : k + 1 ≤ maxLen := by unfold maxLen; omega
          have K2 : (k + 1) * 152 ≤ 140737488355328 := Nat.le_trans (Nat.mul_le_mul_right 152 (show k + 1 ≤ 21 by omega)) (by decide)
          obtain ⟨X, hX⟩ : ∃ X : Int, 6 + ((k % 7 : Nat) : Int) = X := ⟨_, rfl⟩
          have hx : IntKind.i64.wrap (6 + ((k : Int).tmod 7)) = X := by
            have e : ((k : Int).tmod 7) = ((k % 7 : Nat) : Int) := by rw [Int.tmod_eq_emod_of_nonneg (by omega)]; omega
            rw [e, IntKind.wrap_i64]; omega
          have hw1 : IntKind.i64.wrap ((k : Int) + 1) = (k : Int) + 1 := by rw [IntKind.wrap_i64]; omega
          have HX := Lib.hid hX
          clear hX
          have FN := Lib.hid (fresh_news wr 44 (irow X s))
          have FB := Lib.hid ((Below.refl wr.heap.size wr).alloc (Nat.le_refl _) (.cells (irow X s).toArray 44))
          have NP : Hid (¬ b < b) := Lib.hid (by omega)
          have b0a : (wr.alloc (.cells (irow X s).toArray 44)).cell? ⟨b, 0, none⟩ = some (.slice av k cv) := (HC.out.on_alloc _).cell 0
          go_wp2_with fail
          go_region_law ((refine step_append_win rfl _ _ 37 rfl (fun g => b < g) 44 _ _ 14 152 Try.underlying37 IP.out.1 IP.out.2.1 IP.out.2.2.1 IP.out.2.2.2 rfl (by decide) _ k (rowC (cK Nm k)) rfl (HW.out.below (FB.out.drew)) ⟨wr.heap.size, 0, none⟩ 1 1 (irow X s) rfl rfl FN.out (irow_one X s) K1 K2 ?_); intro v' w' hw hb; obtain ⟨g2, off2, cap2, rfl, -, -, -⟩ := hw.has (by omega); have hO := Lib.hid (((HC.out.on_alloc _).on_drew).but hb NP.out); have d0 := hO.out.cell 0; have dt := hO.out.thaw 0; have dl := hO.out.lt; have hw2 := Lib.hid hw; have hb2 := Lib.hid hb; clear hw hb)
          all_goals
            have HSX : (wr.alloc (.cells (irow X s).toArray 44)).drew.heap.size = wr.heap.size + 1 := World.size_alloc _ _
            have HR := Lib.hid (show Win (fun g => b < g) 44 14 (w'.setCell ⟨b, 0, none⟩ (.slice (some ⟨g2, off2, none⟩) (k + 1) cap2)) (.slice (some ⟨g2, off2, none⟩) (k + 1) cap2) (k + 1) (rowC (cK Nm (k + 1))) from by
              rw [cK_succ, rowC_snoc, HX.out, show Nm.getD k ⟨#[]⟩ = s by rw [List.getD_eq_getElem?_getD, HS.out]; rfl]
              exact (hw2.out.mono (fun g _ hg => by
                rcases hg with hg | hg
                · exact hg
                · exact Nat.lt_of_lt_of_le bl (Nat.le_trans (Nat.le_succ _) (Nat.le_trans (Nat.le_of_eq HSX.symm) hg)))).keep (T := fun g => g = b) (But.put _ _ _ _) (fun g _ hg he => by omega))
            have HOO := Lib.hid (hO.out.put 0 (.slice (some ⟨g2, off2, none⟩) (k + 1) cap2))
            have HBB := Lib.hid (((HB.out.alloc HB.out.size (.cells (irow X s).toArray 44)).drew).trans (hb2.out.below (by have := HSZ.out; have := HB.out.size; simp <;> omega) (fun g hg => by have := HSZ.out; omega)))
            have HBC := Lib.hid (HBB.out.setCell (p := ⟨b, 0, none⟩) (by have := HSZ.out; show W.heap.size ≤ b; omega) (.slice (some ⟨g2, off2, none⟩) (k + 1) cap2))
            have HQQ := Lib.hid ((((HO.out.on_alloc (.cells (irow X s).toArray 44)).on_drew).but hb2.out (by have := HSZ.out; omega)).off (p := ⟨b, 0, none⟩) (by have := HSZ.out; show W.heap.size ≠ b; omega) (.slice (some ⟨g2, off2, none⟩) (k + 1) cap2))
            clear HSX d0 dt dl
            go_wp2
            go_roundw
            case rel => exact ⟨k + 1, _, by go_num, by omega, HBC, HQQ, HOO, HR⟩
            case measure => simp [intOf]; omega
        · obtain rfl : k = n := by omega
          obtain ⟨co, cc, rfl, hci⟩ := HasI.of_win (cK_len Nm k) HW.out
          have HI := Lib.hid hci
          obtain ⟨C, hC⟩ : ∃ C, cK Nm k = C := ⟨_, rfl⟩
          have hCl : C.length = k := by rw [← hC]; exact cK_len Nm k
          rw [hC] at HI
          have HCL := Lib.hid hCl
          clear hci hC hCl HW
          go_wp2_with fail
          go_loopw [7] (fun b7 ws => ∃ j : Nat, b7 = .int .i64 (j : Int) ∧ (j : Int) ≤ k ∧ Hid (Below W.heap.size W ws) ∧ Hid (Own ws W.heap.size 25 [.slice qo P.length qc]) ∧ Hid (Own ws b 39 [.slice co k cc]) ∧ Hid (HasI ws co C)) (fun b7 _ => k - (intOf b7).toNat)
          case atStart => exact ⟨0, rfl, by omega, HB, HO, HC, HI⟩
          case round =>
            obtain ⟨j, rfl, hj, HB, HO, HC, HI⟩ := hrel
            have b0 : wr.cell? ⟨b, 0, none⟩ = some (.slice co k cc) := HC.out.cell 0
            have bl := HC.out.lt
            have b0' := cell_regrown b0
            by_cases h2 : (j : Int) < k
            · obtain ⟨s, hs⟩ : ∃ y, Nm[j]? = some y := ⟨_, List.getElem?_eq_getElem (by have := HNN.out; omega)⟩
              obtain ⟨g, off, rfl, hg, hcell⟩ := HN.out j s hs
              have c0 := keepc hcell HB.out
              have c0' := cell_regrown c0
              have hgw := Nat.lt_of_lt_of_le hg HB.out.size
              have hw1 : IntKind.i64.wrap ((j : Int) + 1) = (j : Int) + 1 := by rw [IntKind.wrap_i64]; omega
              obtain ⟨z, hz⟩ : ∃ z, knownB C s = z := ⟨_, rfl⟩
              have HZ := Lib.hid hz
              have CKN := Lib.hid (fun (dq : Nat) (os : Array Obj) => show Calls Try.prog 13 #[.agg #[.slice co k cc], .string s] (grow (redrawn wr dq) os) fun e w' => e = .returned (.bool z) ∧ Below (grow (redrawn wr dq) os).heap.size (grow (redrawn wr dq) os) w' from by
                have h := known_any C co cc s (by have := HCL.out; omega) _ (HI.out.below (below_regrown wr dq os))
                rw [HCL.out, HZ.out] at h
                exact h)
              have CRK := Lib.hid (fun (dq : Nat) (os : Array Obj) => show Calls Try.prog 14 #[.agg #[.slice co k cc], .string s] (grow (redrawn wr dq) os) fun e w' => e = .returned (.bool z) ∧ Below (grow (redrawn wr dq) os).heap.size (grow (redrawn wr dq) os) w' from by
                have h := rknown_any C co cc s (by have := HCL.out; omega) _ (HI.out.below (below_regrown wr dq os))
                rw [HCL.out, HZ.out] at h
                exact h)
              clear hs hcell hg hz
              go_wp2_with fail
              refine wp_region_quiet_below (by kernel_rfl) (by kernel_rfl) ?_
              repeat (go_big_quiet_step (first
                | (go_at_call 13; with_reducible exact Calls.regrown_of (CKN.out _ _))
                | (go_at_call 14; with_reducible exact Calls.regrown_of (CRK.out _ _))))
              refine wpQuiet_nil ?_
              intro _ hw'
              obtain ⟨⟨dq, osq⟩, hw''⟩ := hw'
              subst hw''
              have hbr := below_regrown wr dq osq
              clear b0 b0' c0 c0' bl hgw
              generalize grow (redrawn wr dq) osq = wt at *
              have HB2 := Lib.hid (keepb HB.out hbr)
              have HO2 := Lib.hid (HO.out.under hbr HO.out.lt)
              have HC2 := Lib.hid (HC.out.under hbr HC.out.lt)
              have HI2 := Lib.hid (HI.out.below hbr)
              clear hbr HB HO HC HI CKN CRK
              go_wp2
              go_roundw
              case rel => exact ⟨j + 1, by go_num, by omega, HB2, HO2, HC2, HI2⟩
              case measure => simp [intOf]; omega
            · have q0 : wr.cell? ⟨W.heap.size, 0, none⟩ = some (.slice qo P.length qc) := HO.out.cell 0
              have ql := HO.out.lt
              have q0' := cell_regrown q0
              obtain ⟨⟨V1, V2, V3⟩, hV⟩ : ∃ V, chkV P C = V := ⟨_, rfl⟩
              have HV := Lib.hid hV
              have CAW := Lib.hid (fun (dq : Nat) (os : Array Obj) => show Calls Try.prog 7 #[] (grow (redrawn wr dq) os) fun e w' => e = .returned (.bool true) ∧ Below (grow (redrawn wr dq) os).heap.size (grow (redrawn wr dq) os) w' from HA.out _ ((HM.out.below HB.out).below (below_regrown wr dq os)))
              have CCK := Lib.hid (fun (dq : Nat) (os : Array Obj) => show Calls Try.prog 15 #[.agg #[.slice qo P.length qc], .agg #[.slice co k cc]] (grow (redrawn wr dq) os) fun e w' => e = .returned (.agg #[.int .i64 V1, .int .i64 0, .int .i64 V2, .int .i64 V3]) ∧ Below (grow (redrawn wr dq) os).heap.size (grow (redrawn wr dq) os) w' from by
                have h := check_any P qo qc (by have := HWN.out.1; omega) (fun p hp => ⟨by have := (HWN.out.2 p hp).1; omega, fun x hx => by have := (HWN.out.2 p hp).2 x hx; unfold maxLen; omega⟩) C co cc (by have := HCL.out; omega) _ ((HQ.out.below HB.out).below (below_regrown wr dq os)) (HI.out.below (below_regrown wr dq os))
                rw [HCL.out, HV.out] at h
                exact h)
              have CRC := Lib.hid (fun (dq : Nat) (os : Array Obj) => show Calls Try.prog 16 #[.agg #[.slice qo P.length qc], .agg #[.slice co k cc]] (grow (redrawn wr dq) os) fun e w' => e = .returned (.agg #[.int .i64 V1, .int .i64 0, .int .i64 V2, .int .i64 V3]) ∧ Below (grow (redrawn wr dq) os).heap.size (grow (redrawn wr dq) os) w' from by
                have h := rcheck_any P qo qc (by have := HWN.out.1; omega) (fun p hp => ⟨by have := (HWN.out.2 p hp).1; omega, fun x hx => by have := (HWN.out.2 p hp).2 x hx; unfold maxLen; omega⟩) C co cc (by have := HCL.out; omega) _ ((HQ.out.below HB.out).below (below_regrown wr dq os)) (HI.out.below (below_regrown wr dq os))
                rw [HCL.out, HV.out] at h
                exact h)
              clear hV
              go_wp2_with fail
              refine wp_region_quiet_below (by kernel_rfl) (by kernel_rfl) ?_
              repeat (go_big_quiet_step (first
                | (go_at_call 7; with_reducible exact Calls.regrown_of (CAW.out _ _))
                | (go_at_call 15; with_reducible exact Calls.regrown_of (CCK.out _ _))
                | (go_at_call 16; with_reducible exact Calls.regrown_of (CRC.out _ _))))
              refine wpQuiet_nil ?_
              intro _ hw'
              obtain ⟨⟨dq, osq⟩, hw''⟩ := hw'
              subst hw''
              have hbr := below_regrown wr dq osq
              clear b0 b0' q0 q0' bl ql
              generalize grow (redrawn wr dq) osq = wt at *
              go_wp2
              go_ret
              exact ⟨rfl, keepb HB.out hbr⟩
end Go.Proofs.Ytnopnjleibbakab
