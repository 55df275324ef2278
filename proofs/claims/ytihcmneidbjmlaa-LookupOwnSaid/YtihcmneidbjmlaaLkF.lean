/- What a reference means, by the reference. -/
import Derived.Test.YtihcmneidbjmlaaGr
namespace Go.Proofs.Ytihcmneidbjmlaa
set_option linter.unusedVariables false
open Go.RowKit Go.Sort

def offC (mod x : ByteArray) : Bool := !(mod.toList == []) && !(mod.toList == x.toList)
theorem beq_turn (a b : List UInt8) : (a == b) = (b == a) := by
  by_cases h : a = b
  · subst h; rfl
  · rw [beq_eq_false_iff_ne.2 h, beq_eq_false_iff_ne.2 (fun e => h e.symm)]
theorem offC_eq (mod x nm : ByteArray) (h : nm.toList = x.toList) : offC mod x = offB mod nm := by
  unfold offC offB
  rw [h, beq_turn mod.toList x.toList]
def rresF (l : List Md) (i0 : Int) (mod name : ByteArray) : Nat → List ByteArray → Rv
  | _, [] => (0, 0, false)
  | i, x :: r => if offC mod x = true then rresF l i0 mod name (i + 1) r
    else if (if 0 < i then findN l x else i0) < 0 then rresF l i0 mod name (i + 1) r
    else match l[(if 0 < i then findN l x else i0).toNat]? with
      | none => (0, 0, false)
      | some m => if 0 ≤ ruleN m name then ((if 0 < i then findN l x else i0), ruleN m name, true) else rresF l i0 mod name (i + 1) r
theorem find_at {l : List Md} {x : ByteArray} (h : 0 ≤ findN l x) : ∃ m, l[(findN l x).toNat]? = some m ∧ m.nm.toList = x.toList := by
  obtain ⟨m, h1, h2⟩ := idxF_at (fun m : Md => m.nm.toList == x.toList) 0 l h
  exact ⟨m, by rw [Nat.sub_zero] at h1; exact h1, by simpa using h2⟩
theorem rres_tail (l : List Md) (i0 : Int) (mod name : ByteArray) : ∀ (im : List ByteArray) (j : Nat), 0 < j → rresF l i0 mod name j im = resF l mod name ((im.map (findN l)).filter (fun k => decide (0 ≤ k)))
  | [], j, hj => rfl
  | x :: r, j, hj => by
    have ih := rres_tail l i0 mod name r (j + 1) (by omega)
    unfold rresF
    rw [if_pos hj, ih, List.map_cons]
    by_cases h : 0 ≤ findN l x
    · rw [List.filter_cons_of_pos (by simpa using h)]
      obtain ⟨m, h1, h2⟩ := find_at h
      conv => rhs; unfold resF
      rw [h1, offC_eq mod x m.nm h2, if_neg (by omega : ¬ findN l x < 0)]
    · rw [List.filter_cons_of_neg (by simpa using h), if_pos (by omega : findN l x < 0)]
      split <;> rfl
theorem rres_eq {l : List Md} {i : Nat} {m : Md} (hm : l[i]? = some m) (mod name : ByteArray) : rresF l (i : Int) mod name 0 (m.nm :: m.im) = resF l mod name (seenL l m i) := by
  have h := rres_tail l (i : Int) mod name m.im 1 (by omega)
  unfold rresF seenL
  rw [resF_cons hm, h, if_neg (by omega : ¬ (0 : Nat) < 0), offC_eq mod m.nm m.nm rfl, if_neg (by omega : ¬ (i : Int) < 0), Int.toNat_natCast, hm]

set_option maxRecDepth 1000000 in
set_option maxHeartbeats 1600000 in
theorem rresolve_any (ML : List Md) (D : Nat) (mo : Option Addr) (mc : Nat) (i : Int) (ref : ByteArray) (hr : ref.size ≤ 1000000) (hf : Few ML) (w : World) (hM : HasMs w D mo ML) :
    Calls Try.prog 9 #[.slice mo ML.length mc, .int .i64 i, .string ref] w fun e w' => e = .returned (rvV (resO ML i ref)) ∧ Below w.heap.size w w' := by
  have HSP := Lib.hid (rsplit_any ref hr w)
  have HM0 := Lib.hid hM
  have HFW := Lib.hid hf
  have hn := hf.1
  have HRS := Lib.hid (show resO ML i ref = if splitB ref = true ∧ 0 ≤ i ∧ i < ML.length then (match ML[i.toNat]? with | none => (0, 0, false) | some m => resF ML (splitM ref) (splitR ref) (seenL ML m i)) else (0, 0, false) from rfl)
  have HFD := Lib.hid (fun (s : ByteArray) W (hW : HasMs W D mo ML) => rfind_any ML D mo mc s hf.1 W hW)
  generalize resO ML i ref = RES at *
  obtain ⟨mod, hmod⟩ : ∃ z, splitM ref = z := ⟨_, rfl⟩
  obtain ⟨nam, hnam⟩ : ∃ z, splitR ref = z := ⟨_, rfl⟩
  obtain ⟨z, hz⟩ : ∃ z, splitB ref = z := ⟨_, rfl⟩
  rw [hmod, hnam, hz] at HSP HRS
  clear hM hf hmod hnam hz
  obtain ⟨n, hnn⟩ : ∃ n, ML.length = n := ⟨_, rfl⟩
  have HN := Lib.hid hnn
  rw [hnn] at hn HRS HFD ⊢
  clear hnn
  go_enter Try.func9, Try.ntmps9
  go_wp2_with fail
  refine HSP.out.mono ?_
  rintro e w1 ⟨rfl, hb1⟩
  have HB1 := Lib.hid hb1
  have HM1 := Lib.hid (HM0.out.below hb1)
  clear hb1 HSP
  cases z with
  | false =>
    have HE := Lib.hid (show RES = (0, 0, false) from by rw [HRS.out, if_neg (by simp)])
    go_wp2
    go_ret3
    exact ⟨by rw [HE.out]; rfl, HB1.out⟩
  | true =>
    by_cases h0 : i < 0
    · have h0' : decide (i < 0) = true := decide_eq_true h0
      have HE := Lib.hid (show RES = (0, 0, false) from by rw [HRS.out, if_neg (by omega)])
      go_wp2
      go_ret3
      exact ⟨by rw [HE.out]; rfl, HB1.out⟩
    · have h0' : decide (i < 0) = false := decide_eq_false h0
      by_cases h1 : (n : Int) ≤ i
      · have h1' : decide ((n : Int) ≤ i) = true := decide_eq_true h1
        have HE := Lib.hid (show RES = (0, 0, false) from by rw [HRS.out, if_neg (by omega)])
        go_wp2
        go_ret3
        exact ⟨by rw [HE.out]; rfl, HB1.out⟩
      · obtain ⟨q, rfl⟩ : ∃ q : Nat, i = (q : Int) := ⟨i.toNat, by omega⟩
        have h1' : decide ((n : Int) ≤ (q : Int)) = false := decide_eq_false h1
        have h1n : decide (n ≤ q) = false := decide_eq_false (by omega)
        have hqn : (q : Int) < n := by omega
        obtain ⟨m, hm⟩ : ∃ m, ML[q]? = some m := ⟨_, List.getElem?_eq_getElem (by have := HN.out; omega)⟩
        have HE0 := Lib.hid (show RES = rresF ML (q : Int) mod nam 0 (m.nm :: m.im) from by rw [HRS.out, if_pos ⟨rfl, by omega, by omega⟩, Int.toNat_natCast, hm, rres_eq hm])
        have HIL := Lib.hid ((HFW.out.2 m (List.mem_of_getElem? hm)).1)
        have HMb := Lib.hid (HM1.out.below (Below.refl _ _).drew)
        have HBb := Lib.hid HB1.out.drew
        obtain ⟨nn, hMr⟩ := HMb.out
        obtain ⟨b, off, io, ic, ko, kc, ro, rc, hmo, hb, _, c0, c1, -, -, -, -, -, -, -, -, -, hnr, -⟩ := hMr q m hm
        have HNR := Lib.hid hnr.hasN
        obtain ⟨ni, hni⟩ : ∃ z, m.im.length = z := ⟨_, rfl⟩
        have HNI := Lib.hid hni
        rw [hni] at c1 HIL
        have hil := HIL.out
        clear hMr hnr HRS h1 hni
        rw [hmo]
        go_upto_region 4 with fail
        refine wp_region_held (S := fun Wx => b < Wx.heap.size ∧ Wx.cell? ⟨b, off + q * 11, none⟩ = some (.string m.nm) ∧ Wx.cell? ⟨b, off + q * 11 + 1, none⟩ = some (.slice io ni ic)) (by kernel_rfl) ?_
        change wpAnyH _ _ _ _ _ _ _ _ (World.drew _)
        clear HM1 HB1
        generalize World.drew _ = wb at *
        have HS := Lib.hid (show b < wb.heap.size ∧ wb.cell? ⟨b, off + q * 11, none⟩ = some (.string m.nm) ∧ wb.cell? ⟨b, off + q * 11 + 1, none⟩ = some (.slice io ni ic) from ⟨hb, c0, c1⟩)
        clear hb c0 c1
        refine wpAnyH_take (i := 0) (v := ?_) rfl (by kernel_rfl) (by kernel_rfl) (by kernel_rfl) (fun _ _ _ h => h) (Or.inl ⟨by rfl, ?_⟩) HS.out ?_
        rotate_left
        · intro Wx hWx
          obtain ⟨q0, q1, q2⟩ := hWx
          go_simp
          try with_reducible rfl
        go_simp
        refine wpAnyH_take (i := 1) (v := ?_) rfl (by kernel_rfl) (by kernel_rfl) (by kernel_rfl) (fun _ _ _ h => h) (Or.inl ⟨by rfl, ?_⟩) HS.out ?_
        rotate_left
        · intro Wx hWx
          obtain ⟨q0, q1, q2⟩ := hWx
          go_simp
          try with_reducible rfl
        go_simp
        refine wpAnyH_take (i := 2) (v := ?_) rfl (by kernel_rfl) (by kernel_rfl) (by kernel_rfl) (fun _ _ _ h => h) (Or.inl ⟨by rfl, ?_⟩) HS.out ?_
        rotate_left
        · intro Wx hWx
          obtain ⟨q0, q1, q2⟩ := hWx
          go_simp
          try with_reducible rfl
        go_simp
        refine wpAnyH_take (i := 3) (v := ?_) rfl (by kernel_rfl) (by kernel_rfl) (by kernel_rfl) (fun _ _ _ h => h) (Or.inl ⟨by rfl, ?_⟩) HS.out ?_
        rotate_left
        · intro Wx hWx
          obtain ⟨q0, q1, q2⟩ := hWx
          go_simp
          try with_reducible rfl
        go_simp
        refine wpAnyH_take (i := 4) (v := ?_) rfl (by kernel_rfl) (by kernel_rfl) (by kernel_rfl) (fun _ _ _ h => h) (Or.inl ⟨by rfl, ?_⟩) HS.out ?_
        rotate_left
        · intro Wx hWx
          obtain ⟨q0, q1, q2⟩ := hWx
          go_simp
          try with_reducible rfl
        go_simp
        refine wpAnyH_take (i := 6) (v := ?_) rfl (by kernel_rfl) (by kernel_rfl) (by kernel_rfl) (fun _ _ _ h => h) (Or.inl ⟨by rfl, ?_⟩) HS.out ?_
        rotate_left
        · intro Wx hWx
          obtain ⟨q0, q1, q2⟩ := hWx
          go_simp
          try with_reducible rfl
        go_simp
        refine wpAnyH_take (i := 7) (v := ?_) rfl (by kernel_rfl) (by kernel_rfl) (by kernel_rfl) (fun _ _ _ h => h) (Or.inl ⟨by rfl, ?_⟩) HS.out ?_
        rotate_left
        · intro Wx hWx
          obtain ⟨q0, q1, q2⟩ := hWx
          go_simp
          try with_reducible rfl
        go_simp
        refine wpAnyH_take (i := 8) (v := ?_) rfl (by kernel_rfl) (by kernel_rfl) (by kernel_rfl) (fun _ _ _ h => h) (Or.inl ⟨by rfl, ?_⟩) HS.out ?_
        rotate_left
        · intro Wx hWx
          obtain ⟨q0, q1, q2⟩ := hWx
          go_simp
          try with_reducible rfl
        go_simp
        refine wpAnyH_take (i := 9) (v := ?_) rfl (by kernel_rfl) (by kernel_rfl) (by kernel_rfl) (fun _ _ _ h => h) (Or.inl ⟨by rfl, ?_⟩) HS.out ?_
        rotate_left
        · intro Wx hWx
          obtain ⟨q0, q1, q2⟩ := hWx
          go_simp
          try with_reducible rfl
        go_simp
        refine wpAnyH_take (i := 10) (v := ?_) rfl (by kernel_rfl) (by kernel_rfl) (by kernel_rfl) (fun _ _ _ h => h) (Or.inl ⟨by rfl, ?_⟩) HS.out ?_
        rotate_left
        · intro Wx hWx
          obtain ⟨q0, q1, q2⟩ := hWx
          go_simp
          try with_reducible rfl
        go_simp
        obtain ⟨i0, hi0, hz0, hz1, hz2⟩ := info_parts7 info_str
        have hbl1 : Below wb.heap.size wb (wb.alloc (.cells #[.string m.nm] 9)) := (Below.refl _ _).alloc (Nat.le_refl _) _
        refine held_one (i := 5) (by kernel_rfl) (op_value (v := .slice (some ⟨wb.heap.size, 0, none⟩) 1 1) (w' := wb.alloc (.cells #[.string m.nm] 9)) rfl (by kernel_rfl) (by go_simp) ?_)
        have HO3 := Lib.hid (Own.fresh wb 9 [.string m.nm])
        have HB3 := Lib.hid (HBb.out.trans (hbl1.mono HBb.out.size))
        have HM3 := Lib.hid (HMb.out.below hbl1)
        have HNR3 := Lib.hid (HNR.out.below hbl1)
        have HS3 := Lib.hid (show b < (wb.alloc (.cells #[.string m.nm] 9)).heap.size ∧ (wb.alloc (.cells #[.string m.nm] 9)).cell? ⟨b, off + q * 11, none⟩ = some (.string m.nm) ∧ (wb.alloc (.cells #[.string m.nm] 9)).cell? ⟨b, off + q * 11 + 1, none⟩ = some (.slice io ni ic) from ⟨Nat.lt_of_lt_of_le HS.out.1 hbl1.size, keepc HS.out.2.1 hbl1, keepc HS.out.2.2 hbl1⟩)
        have HGB := Lib.hid (show w.heap.size ≤ wb.heap.size ∧ b < wb.heap.size from ⟨HBb.out.size, HS.out.1⟩)
        clear hbl1 HBb HMb HNR HS
        have HS := HS3
        clear HS3
        generalize wb.alloc (.cells #[.string m.nm] 9) = wc at *
        generalize wb.heap.size = G1 at *
        refine ⟨HS.out, ?_⟩
        go_simp
        refine held_one (i := 11) (by kernel_rfl) (op_appendn rfl (by kernel_rfl) _ _ 22 22 rfl (fun b => b = G1) 9 i0 _ 1 16 Try.underlying22 hi0 hz0 hz1 hz2 rfl (by decide) (.slice (some ⟨G1, 0, none⟩) 1 1) 1 [.string m.nm] rfl (Win.one HO3.out rfl) (.slice io ni ic) ni (m.im.map Value.string) rfl (by have := Src.ofNames (cap := ic) HNR3.out; rw [HNI.out] at this; exact this) (by unfold maxLen; omega) (by omega) ?_)
        intro v2 wd hw2 hb2
        have hS1 : ∀ j, j = G1 → w.heap.size ≤ j ∧ j ≠ b := fun j e => by have := HGB.out; omega
        have HB4 := Lib.hid (HB3.out.trans (hb2.below (B := w.heap.size) HB3.out.size (fun j e => (hS1 j e).1)))
        have HM4 := Lib.hid (show HasMs wd D mo ML from HM0.out.below HB4.out)
        obtain ⟨no, nc, hv2, -⟩ := hw2.form
        subst hv2
        have HN2 := Lib.hid (show HasN wd no (m.nm :: m.im) from hasN_of (c := nc) (n := 1 + ni) (S := fun g => g = G1 ∨ wc.heap.size ≤ g) (l := m.nm :: m.im) hw2)
        have HS4 := Lib.hid (show b < wd.heap.size ∧ wd.cell? ⟨b, off + q * 11, none⟩ = some (.string m.nm) ∧ wd.cell? ⟨b, off + q * 11 + 1, none⟩ = some (.slice io ni ic) from ⟨Nat.lt_of_lt_of_le HS.out.1 hb2.size, hb2.cell (fun e => (hS1 _ e).2 rfl) HS.out.2.1, hb2.cell (fun e => (hS1 _ e).2 rfl) HS.out.2.2⟩)
        clear hw2 hb2 HB3 HM3 HNR3 HO3 HS hS1
        have HS := HS4
        clear HS4
        refine ⟨HS.out, ?_⟩
        go_simp
        refine wpAnyH_take (i := 12) (v := ?_) rfl (by kernel_rfl) (by kernel_rfl) (by kernel_rfl) (fun _ _ _ h => h) (Or.inl ⟨by rfl, ?_⟩) HS.out ?_
        rotate_left
        · intro Wx hWx
          obtain ⟨q0, q1, q2⟩ := hWx
          go_simp
          try with_reducible rfl
        go_simp
        refine wpAnyH_done (by kernel_rfl) ?_ _
        clear HS
        have hmoE := Lib.hid hmo
        clear hmo
        obtain ⟨NS, hNS⟩ : ∃ l, m.nm :: m.im = l := ⟨_, rfl⟩
        rw [hNS] at HN2 HE0
        have HNL := Lib.hid (show NS.length = 1 + ni from by rw [← hNS, List.length_cons, HNI.out, Nat.add_comm])
        clear hNS
        have HQ0 := Lib.hid (show RES = rresF ML (q : Int) mod nam 0 (NS.drop 0) from by rw [List.drop_zero]; exact HE0.out)
        clear HE0
        go_wp2_with fail
        go_loopw [13] (fun v13 wr => ∃ k : Nat, v13 = .int .i64 (k : Int) ∧ (k : Int) ≤ 1 + (ni : Int) ∧ Hid (RES = rresF ML (q : Int) mod nam k (NS.drop k)) ∧ Hid (HasMs wr D mo ML) ∧ Hid (HasN wr no NS) ∧ Hid (Below w.heap.size w wr)) (fun v13 _ => 1 + ni - (intOf v13).toNat)
        case atStart => exact ⟨0, rfl, by omega, HQ0, HM4, HN2, HB4⟩
        case round =>
          obtain ⟨k, rfl, hk, HQ, HM, HI, HB⟩ := hrel
          clear HQ0 HM4 HN2 HB4
          by_cases hlt : (k : Int) < 1 + (ni : Int)
          · obtain ⟨x, hx⟩ : ∃ x, NS[k]? = some x := ⟨_, List.getElem?_eq_getElem (by have := HNL.out; omega)⟩
            have HD := Lib.hid (show NS.drop k = x :: NS.drop (k + 1) from by
              obtain ⟨h1, h2⟩ := List.getElem?_eq_some_iff.1 hx
              rw [List.drop_eq_getElem_cons h1, h2])
            obtain ⟨b1, off1, hso1, hb1, d0⟩ := HI.out k _ hx
            have HZ := Lib.hid (show RES = if offC mod x = true then rresF ML (q : Int) mod nam (k + 1) (NS.drop (k + 1)) else if (if 0 < k then findN ML x else (q : Int)) < 0 then rresF ML (q : Int) mod nam (k + 1) (NS.drop (k + 1)) else match ML[(if 0 < k then findN ML x else (q : Int)).toNat]? with | none => (0, 0, false) | some m => if 0 ≤ ruleN m nam then ((if 0 < k then findN ML x else (q : Int)), ruleN m nam, true) else rresF ML (q : Int) mod nam (k + 1) (NS.drop (k + 1)) from by
              rw [HQ.out, HD.out]
              conv => lhs; unfold rresF)
            have hw1 : IntKind.i64.wrap ((k : Int) + 1) = (k : Int) + 1 := by rw [IntKind.wrap_i64]; omega
            obtain ⟨za, hza⟩ : ∃ z, (mod.toList == []) = z := ⟨_, rfl⟩
            obtain ⟨zb, hzb⟩ : ∃ z, (mod.toList == x.toList) = z := ⟨_, rfl⟩
            have HOB := Lib.hid (show offC mod x = (!za && !zb) from by unfold offC; rw [hza, hzb])
            have hltn : decide ((k : Int) < 1 + (ni : Int)) = true := decide_eq_true hlt
            clear hx
            subst hso1
        
            cases za with
            | true =>
              have HZ2 := Lib.hid (HZ.out.trans (if_neg (by rw [HOB.out]; simp)))
              clear hzb HZ
              by_cases hk0 : 0 < k
              · have hk0i : decide ((0 : Int) < (k : Int)) = true := decide_eq_true (by omega)
                have hk0n : decide (0 < k) = true := decide_eq_true hk0
                have HFC := Lib.hid (HFD.out x wr HM.out)
                have HBDX := Lib.hid (idxF_bd (fun m : Md => m.nm.toList == x.toList) 0 ML)
                have HZ3' := Lib.hid (show RES = if findN ML x < 0 then rresF ML (q : Int) mod nam (k + 1) (NS.drop (k + 1)) else match ML[(findN ML x).toNat]? with | none => (0, 0, false) | some m => if 0 ≤ ruleN m nam then (findN ML x, ruleN m nam, true) else rresF ML (q : Int) mod nam (k + 1) (NS.drop (k + 1)) from by rw [HZ2.out, if_pos hk0])
                have hbd : findN ML x = -1 ∨ (0 ≤ findN ML x ∧ findN ML x < n) := by
                  rcases HBDX.out with h5 | h5
                  · exact .inl h5
                  · have h6 : (0 : Int) ≤ findN ML x := h5.1
                    have h7 : findN ML x < ((0 : Nat) : Int) + ML.length := h5.2
                    exact .inr ⟨h6, by have := HN.out; omega⟩
                obtain ⟨kq, hkq⟩ : ∃ z, findN ML x = z := ⟨_, rfl⟩
                rw [hkq] at HFC HZ3' hbd
                rw [hmoE.out] at HFC
                clear hkq HBDX HZ2
                go_wp2_with fail
                refine HFC.out.mono ?_
                rintro e wq ⟨rfl, rfl⟩
                by_cases hq0 : kq < 0
                · have hq0' : decide (kq < 0) = true := decide_eq_true hq0
                  have HE := Lib.hid (HZ3'.out.trans (if_pos hq0))
                  go_wp2
                  go_roundw
                  case rel => exact ⟨k + 1, by go_num, by omega, HE, HM, HI, HB⟩
                  case measure => simp [intOf]; omega
                · have hq0' : decide (kq < 0) = false := decide_eq_false hq0
                  obtain ⟨jj, rfl⟩ : ∃ j : Nat, kq = (j : Int) := ⟨kq.toNat, by omega⟩
                  have HZ3 := HZ3'
                  obtain ⟨mj, hmj⟩ : ∃ m, ML[jj]? = some m := ⟨_, List.getElem?_eq_getElem (by have := HN.out; omega)⟩
                  obtain ⟨nn2, hMr⟩ := HM.out
                  obtain ⟨b5, off5, io5, ic5, ko5, kc5, ro5, rc5, hmo5, hb5, _, g0, g1, g2, g3, g4, g5, g6, g7, g8, g9, gA, -, -, hru⟩ := hMr jj mj hmj
                  have HRC := Lib.hid (fun W (hW : Below wr.heap.size wr W) => rrule_any mj D nn2 io5 ic5 ko5 kc5 ro5 rc5 nam ((HFW.out.2 mj (List.mem_of_getElem? hmj)).2) W (hru.but (But.of_below (S := fun _ => False) hW) (fun _ h => h.elim)))
                  have hee : b = b5 ∧ off = off5 := by
                    have h9 := hmo5
                    rw [hmoE.out] at h9
                    injection h9 with h9; injection h9 with h9 h10
                    exact ⟨h9, h10⟩
                  obtain ⟨rfl, rfl⟩ := hee
                  have HZ1 := Lib.hid (show RES = if 0 ≤ ruleN mj nam then ((jj : Int), ruleN mj nam, true) else rresF ML (q : Int) mod nam (k + 1) (NS.drop (k + 1)) from by rw [HZ3.out, if_neg (by omega), Int.toNat_natCast, hmj])
                  have hjn : (jj : Int) < n := by have := (List.getElem?_eq_some_iff.1 hmj).1; have := HN.out; omega
                  clear hMr hru hmj hmo5
                  go_wp2_with fail
                  refine (HRC.out _ (Below.refl _ _)).mono ?_
                  rintro e w3 ⟨rfl, hb3⟩
                  have HB3 := Lib.hid (HB.out.trans (hb3.mono HB.out.size))
                  have HM3 := Lib.hid (HM.out.below hb3)
                  have HI3 := Lib.hid (HI.out.below hb3)
                  obtain ⟨qq, hq⟩ : ∃ q, ruleN mj nam = q := ⟨_, rfl⟩
                  rw [hq] at HZ1
                  rw [hq]
                  clear hb3 hq
                  by_cases h0q : 0 ≤ qq
                  · have h0q' : decide (0 ≤ qq) = true := decide_eq_true h0q
                    have HE := Lib.hid (HZ1.out.trans (if_pos h0q))
                    go_wp2
                    go_ret3
                    exact ⟨by rw [HE.out]; rfl, HB3.out⟩
                  · have h0q' : decide (0 ≤ qq) = false := decide_eq_false h0q
                    have HE := Lib.hid (HZ1.out.trans (if_neg h0q))
                    go_wp2
                    go_roundw
                    case rel => exact ⟨k + 1, by go_num, by omega, HE, HM3, HI3, HB3⟩
                    case measure => simp [intOf]; omega
              · have hk0i : decide ((0 : Int) < (k : Int)) = false := decide_eq_false (by omega)
                have hk0n : decide (0 < k) = false := decide_eq_false hk0
                have hq0' : decide ((q : Int) < 0) = false := decide_eq_false (by omega)
                have HZ3 := Lib.hid (show RES = if (q : Int) < 0 then rresF ML (q : Int) mod nam (k + 1) (NS.drop (k + 1)) else match ML[((q : Int)).toNat]? with | none => (0, 0, false) | some m => if 0 ≤ ruleN m nam then ((q : Int), ruleN m nam, true) else rresF ML (q : Int) mod nam (k + 1) (NS.drop (k + 1)) from by rw [HZ2.out, if_neg hk0])
                obtain ⟨mj, hmj⟩ : ∃ m, ML[q]? = some m := ⟨_, List.getElem?_eq_getElem (by have := HN.out; omega)⟩
                obtain ⟨nn2, hMr⟩ := HM.out
                obtain ⟨b5, off5, io5, ic5, ko5, kc5, ro5, rc5, hmo5, hb5, _, g0, g1, g2, g3, g4, g5, g6, g7, g8, g9, gA, -, -, hru⟩ := hMr q mj hmj
                have HRC := Lib.hid (fun W (hW : Below wr.heap.size wr W) => rrule_any mj D nn2 io5 ic5 ko5 kc5 ro5 rc5 nam ((HFW.out.2 mj (List.mem_of_getElem? hmj)).2) W (hru.but (But.of_below (S := fun _ => False) hW) (fun _ h => h.elim)))
                have hee : b = b5 ∧ off = off5 := by
                  have h9 := hmo5
                  rw [hmoE.out] at h9
                  injection h9 with h9; injection h9 with h9 h10
                  exact ⟨h9, h10⟩
                obtain ⟨rfl, rfl⟩ := hee
                have HZ1 := Lib.hid (show RES = if 0 ≤ ruleN mj nam then ((q : Int), ruleN mj nam, true) else rresF ML (q : Int) mod nam (k + 1) (NS.drop (k + 1)) from by rw [HZ3.out, if_neg (by omega), Int.toNat_natCast, hmj])
                have hjn : (q : Int) < n := by have := (List.getElem?_eq_some_iff.1 hmj).1; have := HN.out; omega
                clear hMr hru hmj hmo5
                go_wp2_with fail
                refine (HRC.out _ (Below.refl _ _)).mono ?_
                rintro e w3 ⟨rfl, hb3⟩
                have HB3 := Lib.hid (HB.out.trans (hb3.mono HB.out.size))
                have HM3 := Lib.hid (HM.out.below hb3)
                have HI3 := Lib.hid (HI.out.below hb3)
                obtain ⟨qq, hq⟩ : ∃ q, ruleN mj nam = q := ⟨_, rfl⟩
                rw [hq] at HZ1
                rw [hq]
                clear hb3 hq
                by_cases h0q : 0 ≤ qq
                · have h0q' : decide (0 ≤ qq) = true := decide_eq_true h0q
                  have HE := Lib.hid (HZ1.out.trans (if_pos h0q))
                  go_wp2
                  go_ret3
                  exact ⟨by rw [HE.out]; rfl, HB3.out⟩
                · have h0q' : decide (0 ≤ qq) = false := decide_eq_false h0q
                  have HE := Lib.hid (HZ1.out.trans (if_neg h0q))
                  go_wp2
                  go_roundw
                  case rel => exact ⟨k + 1, by go_num, by omega, HE, HM3, HI3, HB3⟩
                  case measure => simp [intOf]; omega
            | false =>
              cases zb with
              | true =>
                have HZ2 := Lib.hid (HZ.out.trans (if_neg (by rw [HOB.out]; simp)))
                clear HZ
                by_cases hk0 : 0 < k
                · have hk0i : decide ((0 : Int) < (k : Int)) = true := decide_eq_true (by omega)
                  have hk0n : decide (0 < k) = true := decide_eq_true hk0
                  have HFC := Lib.hid (HFD.out x wr HM.out)
                  have HBDX := Lib.hid (idxF_bd (fun m : Md => m.nm.toList == x.toList) 0 ML)
                  have HZ3' := Lib.hid (show RES = if findN ML x < 0 then rresF ML (q : Int) mod nam (k + 1) (NS.drop (k + 1)) else match ML[(findN ML x).toNat]? with | none => (0, 0, false) | some m => if 0 ≤ ruleN m nam then (findN ML x, ruleN m nam, true) else rresF ML (q : Int) mod nam (k + 1) (NS.drop (k + 1)) from by rw [HZ2.out, if_pos hk0])
                  have hbd : findN ML x = -1 ∨ (0 ≤ findN ML x ∧ findN ML x < n) := by
                    rcases HBDX.out with h5 | h5
                    · exact .inl h5
                    · have h6 : (0 : Int) ≤ findN ML x := h5.1
                      have h7 : findN ML x < ((0 : Nat) : Int) + ML.length := h5.2
                      exact .inr ⟨h6, by have := HN.out; omega⟩
                  obtain ⟨kq, hkq⟩ : ∃ z, findN ML x = z := ⟨_, rfl⟩
                  rw [hkq] at HFC HZ3' hbd
                  rw [hmoE.out] at HFC
                  clear hkq HBDX HZ2
                  go_wp2_with fail
                  refine HFC.out.mono ?_
                  rintro e wq ⟨rfl, rfl⟩
                  by_cases hq0 : kq < 0
                  · have hq0' : decide (kq < 0) = true := decide_eq_true hq0
                    have HE := Lib.hid (HZ3'.out.trans (if_pos hq0))
                    go_wp2
                    go_roundw
                    case rel => exact ⟨k + 1, by go_num, by omega, HE, HM, HI, HB⟩
                    case measure => simp [intOf]; omega
                  · have hq0' : decide (kq < 0) = false := decide_eq_false hq0
                    obtain ⟨jj, rfl⟩ : ∃ j : Nat, kq = (j : Int) := ⟨kq.toNat, by omega⟩
                    have HZ3 := HZ3'
                    obtain ⟨mj, hmj⟩ : ∃ m, ML[jj]? = some m := ⟨_, List.getElem?_eq_getElem (by have := HN.out; omega)⟩
                    obtain ⟨nn2, hMr⟩ := HM.out
                    obtain ⟨b5, off5, io5, ic5, ko5, kc5, ro5, rc5, hmo5, hb5, _, g0, g1, g2, g3, g4, g5, g6, g7, g8, g9, gA, -, -, hru⟩ := hMr jj mj hmj
                    have HRC := Lib.hid (fun W (hW : Below wr.heap.size wr W) => rrule_any mj D nn2 io5 ic5 ko5 kc5 ro5 rc5 nam ((HFW.out.2 mj (List.mem_of_getElem? hmj)).2) W (hru.but (But.of_below (S := fun _ => False) hW) (fun _ h => h.elim)))
                    have hee : b = b5 ∧ off = off5 := by
                      have h9 := hmo5
                      rw [hmoE.out] at h9
                      injection h9 with h9; injection h9 with h9 h10
                      exact ⟨h9, h10⟩
                    obtain ⟨rfl, rfl⟩ := hee
                    have HZ1 := Lib.hid (show RES = if 0 ≤ ruleN mj nam then ((jj : Int), ruleN mj nam, true) else rresF ML (q : Int) mod nam (k + 1) (NS.drop (k + 1)) from by rw [HZ3.out, if_neg (by omega), Int.toNat_natCast, hmj])
                    have hjn : (jj : Int) < n := by have := (List.getElem?_eq_some_iff.1 hmj).1; have := HN.out; omega
                    clear hMr hru hmj hmo5
                    go_wp2_with fail
                    refine (HRC.out _ (Below.refl _ _)).mono ?_
                    rintro e w3 ⟨rfl, hb3⟩
                    have HB3 := Lib.hid (HB.out.trans (hb3.mono HB.out.size))
                    have HM3 := Lib.hid (HM.out.below hb3)
                    have HI3 := Lib.hid (HI.out.below hb3)
                    obtain ⟨qq, hq⟩ : ∃ q, ruleN mj nam = q := ⟨_, rfl⟩
                    rw [hq] at HZ1
                    rw [hq]
                    clear hb3 hq
                    by_cases h0q : 0 ≤ qq
                    · have h0q' : decide (0 ≤ qq) = true := decide_eq_true h0q
                      have HE := Lib.hid (HZ1.out.trans (if_pos h0q))
                      go_wp2
                      go_ret3
                      exact ⟨by rw [HE.out]; rfl, HB3.out⟩
                    · have h0q' : decide (0 ≤ qq) = false := decide_eq_false h0q
                      have HE := Lib.hid (HZ1.out.trans (if_neg h0q))
                      go_wp2
                      go_roundw
                      case rel => exact ⟨k + 1, by go_num, by omega, HE, HM3, HI3, HB3⟩
                      case measure => simp [intOf]; omega
                · have hk0i : decide ((0 : Int) < (k : Int)) = false := decide_eq_false (by omega)
                  have hk0n : decide (0 < k) = false := decide_eq_false hk0
                  have hq0' : decide ((q : Int) < 0) = false := decide_eq_false (by omega)
                  have HZ3 := Lib.hid (show RES = if (q : Int) < 0 then rresF ML (q : Int) mod nam (k + 1) (NS.drop (k + 1)) else match ML[((q : Int)).toNat]? with | none => (0, 0, false) | some m => if 0 ≤ ruleN m nam then ((q : Int), ruleN m nam, true) else rresF ML (q : Int) mod nam (k + 1) (NS.drop (k + 1)) from by rw [HZ2.out, if_neg hk0])
                  obtain ⟨mj, hmj⟩ : ∃ m, ML[q]? = some m := ⟨_, List.getElem?_eq_getElem (by have := HN.out; omega)⟩
                  obtain ⟨nn2, hMr⟩ := HM.out
                  obtain ⟨b5, off5, io5, ic5, ko5, kc5, ro5, rc5, hmo5, hb5, _, g0, g1, g2, g3, g4, g5, g6, g7, g8, g9, gA, -, -, hru⟩ := hMr q mj hmj
                  have HRC := Lib.hid (fun W (hW : Below wr.heap.size wr W) => rrule_any mj D nn2 io5 ic5 ko5 kc5 ro5 rc5 nam ((HFW.out.2 mj (List.mem_of_getElem? hmj)).2) W (hru.but (But.of_below (S := fun _ => False) hW) (fun _ h => h.elim)))
                  have hee : b = b5 ∧ off = off5 := by
                    have h9 := hmo5
                    rw [hmoE.out] at h9
                    injection h9 with h9; injection h9 with h9 h10
                    exact ⟨h9, h10⟩
                  obtain ⟨rfl, rfl⟩ := hee
                  have HZ1 := Lib.hid (show RES = if 0 ≤ ruleN mj nam then ((q : Int), ruleN mj nam, true) else rresF ML (q : Int) mod nam (k + 1) (NS.drop (k + 1)) from by rw [HZ3.out, if_neg (by omega), Int.toNat_natCast, hmj])
                  have hjn : (q : Int) < n := by have := (List.getElem?_eq_some_iff.1 hmj).1; have := HN.out; omega
                  clear hMr hru hmj hmo5
                  go_wp2_with fail
                  refine (HRC.out _ (Below.refl _ _)).mono ?_
                  rintro e w3 ⟨rfl, hb3⟩
                  have HB3 := Lib.hid (HB.out.trans (hb3.mono HB.out.size))
                  have HM3 := Lib.hid (HM.out.below hb3)
                  have HI3 := Lib.hid (HI.out.below hb3)
                  obtain ⟨qq, hq⟩ : ∃ q, ruleN mj nam = q := ⟨_, rfl⟩
                  rw [hq] at HZ1
                  rw [hq]
                  clear hb3 hq
                  by_cases h0q : 0 ≤ qq
                  · have h0q' : decide (0 ≤ qq) = true := decide_eq_true h0q
                    have HE := Lib.hid (HZ1.out.trans (if_pos h0q))
                    go_wp2
                    go_ret3
                    exact ⟨by rw [HE.out]; rfl, HB3.out⟩
                  · have h0q' : decide (0 ≤ qq) = false := decide_eq_false h0q
                    have HE := Lib.hid (HZ1.out.trans (if_neg h0q))
                    go_wp2
                    go_roundw
                    case rel => exact ⟨k + 1, by go_num, by omega, HE, HM3, HI3, HB3⟩
                    case measure => simp [intOf]; omega
              | false =>
                have HE := Lib.hid (HZ.out.trans (if_pos (by rw [HOB.out]; rfl)))
                go_wp2
                go_roundw
                case rel => exact ⟨k + 1, by go_num, by omega, HE, HM, HI, HB⟩
                case measure => simp [intOf]; omega
          · have HE := Lib.hid (show RES = (0, 0, false) from by rw [HQ.out, List.drop_eq_nil_of_le (by have := HNL.out; omega)]; rfl)
            have hlt' : decide ((k : Int) < 1 + (ni : Int)) = false := decide_eq_false hlt
            go_wp2
            go_ret3
            exact ⟨by rw [HE.out]; rfl, HB.out⟩
end Go.Proofs.Ytihcmneidbjmlaa
