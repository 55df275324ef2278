/- A query, as it is written: the program's Print. -/
import Derived.Test.YtialpofiagiclaaDoorQpH
import Derived.Lib.Join
namespace Go.Proofs.YtialpofiagiclaaDoor
set_option linter.unusedVariables false
set_option maxRecDepth 1000000
open Go.RowKit Go.Sort

/-- A path, as it is written; a query. -/
def pthL (p : List Hp) : List UInt8 := p.flatMap fun x => (hpS x).data.toList
def qpL (P : List (List Hp)) : List UInt8 := Lib.join (P.map pthL) [124]
def qpS (P : List (List Hp)) : ByteArray := ⟨(qpL P).toArray⟩
/-- What is asked of a query to be written. -/
structure SmlQ (P : List (List Hp)) : Prop where
  n : P.length ≤ 20
  p : ∀ p ∈ P, p.length ≤ 20
  x : ∀ p ∈ P, ∀ x ∈ p, Sml x
theorem pthL_len : ∀ {p : List Hp}, (∀ x ∈ p, Sml x) → (pthL p).length ≤ 571 * p.length
  | [], _ => Nat.le_refl _
  | x :: r, h => by
    have ih := pthL_len (p := r) fun y hy => h y (.tail _ hy)
    have hx := hpS_size (h x (.head _))
    have e : pthL (x :: r) = (hpS x).data.toList ++ pthL r := rfl
    rw [e, List.length_append, List.length_cons]
    have : (hpS x).data.toList.length = (hpS x).size := by simp
    omega
theorem pthL_snoc {p : List Hp} {q : Nat} {x : Hp} (h : p[q]? = some x) : pthL (p.take (q + 1)) = pthL (p.take q) ++ (hpS x).data.toList := by
  rw [List.take_add_one, h]
  unfold pthL
  rw [List.flatMap_append]
  simp
/-- The strings that are there, and those that aren't yet. -/
def strR (X : List ByteArray) (m : Nat) : List Value := X.map Value.string ++ List.replicate (m - X.length) (.string ⟨#[]⟩)
theorem strR_set {X : List ByteArray} {m : Nat} (h : X.length < m) (y : ByteArray) : (strR X m).set X.length (.string y) = strR (X ++ [y]) m := by
  unfold strR
  obtain ⟨r, hr⟩ : ∃ r, m - X.length = r + 1 := ⟨m - X.length - 1, by omega⟩
  have h2 : m - (X ++ [y]).length = r := by rw [List.length_append]; simp; omega
  rw [hr, h2, List.set_append, if_neg (by simp)]
  simp [List.replicate_succ]
theorem info_str : (Tryd.prog.info? 9).map (fun i => (i.zero, i.size, i.bytes)) = some (some (.string ⟨#[]⟩), 1, 16) := by kernel_rfl
theorem run_strs (n : Nat) (hn : (n : Int) ≤ 1000) (w : World) : (Instr.makeSlice 52 (.int .i64 (n : Int)) (.int .i64 (n : Int))).run Tryd.prog w = .ok (.slice (some ⟨w.heap.size, 0, none⟩) n n) (w.alloc (.cells (Array.replicate n (Value.string ⟨#[]⟩)) 9)) := by
  obtain ⟨j0, hj, hy0, hy1, hy2⟩ := info_parts9 info_str
  have h := run_make (P := Tryd.prog) w 52 9 j0 (.string ⟨#[]⟩) Tryd.underlying52 hj hy0 .i64 .i64 n n (by omega) (Int.le_refl _) (by rw [hy2]; omega) (by omega)
  rw [h, hy1, Int.toNat_natCast, Nat.mul_one, ← List.toArray_replicate, ← toList_madeCells_one]
  rfl
/-- The paths' strings. -/
def pthS (p : List Hp) : ByteArray := ⟨(pthL p).toArray⟩
theorem join_le {k : Nat} : ∀ {xs : List (List UInt8)}, (∀ x ∈ xs, x.length ≤ k) → (Lib.join xs [124]).length ≤ (k + 1) * xs.length
  | [], _ => Nat.zero_le _
  | x :: r, h => by
    rw [Lib.join_length]
    have hs : ∀ {ys : List (List UInt8)}, (∀ y ∈ ys, y.length ≤ k) → Lib.lens ys ≤ k * ys.length := fun {ys} h => by
      induction ys with
      | nil => exact Nat.zero_le _
      | cons y r ih =>
        have h1 := h y (.head _)
        have h2 := ih fun z hz => h z (.tail _ hz)
        have e : Lib.lens (y :: r) = y.length + Lib.lens r := by simp [Lib.lens]
        rw [e, List.length_cons, Nat.mul_succ]; omega
    have h3 := hs h
    rw [List.length_cons, Nat.mul_add, Nat.mul_one] at h3
    have e : ([124] : List UInt8).length * r.length = r.length := by rw [List.length_singleton, Nat.one_mul]
    rw [e, List.length_cons, Nat.add_mul, Nat.mul_add, Nat.one_mul, Nat.mul_one]
    omega
theorem pqp_len {P : List (List Hp)} (h : SmlQ P) : (qpL P).length ≤ 300000 := by
  have h1 := join_le (k := 11420) (xs := P.map pthL) fun y hy => by
    obtain ⟨p, hp, rfl⟩ := List.mem_map.1 hy
    have h2 := pthL_len (h.x p hp)
    have h3 := h.p p hp
    omega
  have h2 := h.n
  rw [List.length_map] at h1
  show (Lib.join (P.map pthL) [124]).length ≤ _
  omega
theorem pthS_map (P : List (List Hp)) : (P.map pthS).map (·.data.toList) = P.map pthL := by
  rw [List.map_map]
  exact List.map_congr_left fun p _ => by simp [pthS]

set_option maxRecDepth 1000000 in
set_option maxHeartbeats 6400000 in
theorem pprint_any (P : List (List Hp)) (qo : Option Addr) (qc : Nat) (hP : SmlQ P) (w : World) (hq : HasQ w qo P) (ht : Tab w) :
    Calls Tryd.prog 11 #[.agg #[.slice qo P.length qc]] w fun e w' => e = .returned (.string (qpS P)) ∧ Below w.heap.size w w' := by
  have HQ := Lib.hid hq
  have HPS := Lib.hid hP
  obtain ⟨m, hm⟩ : ∃ m, P.length = m := ⟨_, rfl⟩
  have HM := Lib.hid hm
  have hm20 : m ≤ 20 := by rw [← hm]; exact hP.n
  obtain ⟨A, hA⟩ : ∃ A, w.heap.size = A := ⟨_, rfl⟩
  have HAW := Lib.hid hA
  have HT0 := Lib.hid ht
  rw [hm]
  have hmk : ∀ W : World, (Instr.makeSlice 52 (.int .i64 (m : Int)) (.int .i64 (m : Int))).run Tryd.prog W = .ok (.slice (some ⟨W.heap.size, 0, none⟩) m m) (W.alloc (.cells (Array.replicate m (Value.string ⟨#[]⟩)) 9)) := fun W => run_strs m (by omega) W
  have HB1 := Lib.hid (show Below A w ((w.alloc (.cells #[.slice qo m qc] 24)).alloc (.cells (Array.replicate m (Value.string ⟨#[]⟩)) 9)) from ((Below.refl A w).alloc (by omega) _).alloc (by rw [← hA]; exact ((Below.refl A w).alloc (by omega) _).size) _)
  have HX1 := Lib.hid (show Own ((w.alloc (.cells #[.slice qo m qc] 24)).alloc (.cells (Array.replicate m (Value.string ⟨#[]⟩)) 9)) (A + 1) 9 (strR ((P.take 0).map pthS) m) from by
    show Own _ _ _ (List.replicate m _)
    rw [← List.toArray_replicate]
    exact Own.fresh' (by simp [hA]) _ _)
  clear hq hP hm ht
  go_enter Tryd.func11, Tryd.ntmps11
  go_upto_region 1 with fail
  have HO1 := Lib.hid (show Own (w.alloc (.cells #[.slice qo m qc] 24)) A 24 [.slice qo m qc] from Own.fresh' hA.symm _ _)
  try rw [hA]
  have HA1 := Lib.hid (show (w.alloc (.cells #[.slice qo m qc] 24)).heap.size = A + 1 from by simp [hA])
  generalize World.alloc w _ = w1 at *
  have o0 : w1.cell? ⟨A, 0, none⟩ = some (.slice qo m qc) := HO1.out.cell 0
  have ol := HO1.out.lt
  have HO2 := Lib.hid (HO1.out.on_alloc (.cells (Array.replicate m (Value.string ⟨#[]⟩)) 9))
  clear hA
  go_upto_region 2 with fail
  try rw [HA1.out]
  generalize World.alloc w1 _ = w2 at *
  clear o0 ol HO1 hmk HA1
  have HT2 := Lib.hid (HT0.out.below (by rw [HAW.out]; exact HB1.out))
  have o0 : w2.cell? ⟨A, 0, none⟩ = some (.slice qo m qc) := HO2.out.cell 0
  have ol := HO2.out.lt
  go_upto_block 0 with fail
  clear o0 ol HO2
  go_wp2_with fail
  go_loopw [16] (fun b16 wr => ∃ k : Nat, b16 = .int .i64 (k : Int) ∧ (k : Int) ≤ m ∧ Hid (Own wr (A + 1) 9 (strR ((P.take k).map pthS) m)) ∧ Hid (Below A w wr)) (fun b16 _ => m - (intOf b16).toNat)
  case atStart => exact ⟨0, rfl, by omega, HX1, HB1⟩
  case round =>
    obtain ⟨k, rfl, hk, HX, HB⟩ := hrel
    obtain ⟨wo, rfl⟩ : ∃ z, z = wr := ⟨_, rfl⟩
    clear HX1 HB1
    have HT := Lib.hid (HT0.out.below (by rw [HAW.out]; exact HB.out))
    by_cases h1 : (k : Int) < m
    · obtain ⟨p, hp⟩ : ∃ p, P[k]? = some p := ⟨_, List.getElem?_eq_getElem (by have := HM.out; omega)⟩
      obtain ⟨g, off, po, pc, rfl, hg, hc, hh⟩ := HQ.out k p hp
      have HH := Lib.hid hh
      have hpm := List.mem_of_getElem? hp
      have HXX := Lib.hid (HPS.out.x p hpm)
      have hpl := HPS.out.p p hpm
      have HPK := Lib.hid hp
      have hAw := HAW.out
      rw [hAw] at hg
      have hcw := keepc hc (by rw [hAw]; exact HB.out)
      have hgw : g < wo.heap.size := by have := HB.out.size; omega
      have hw1 : IntKind.i64.wrap ((k : Int) + 1) = (k : Int) + 1 := by rw [IntKind.wrap_i64]; omega
      obtain ⟨n2, hn2⟩ : ∃ n, p.length = n := ⟨_, rfl⟩
      have HN2 := Lib.hid hn2
      rw [hn2] at hcw hpl
      clear hh hp hc hg hn2 hAw hpm
      obtain ⟨B, hB⟩ : ∃ B, wo.heap.size = B := ⟨_, rfl⟩
      have HBB := Lib.hid hB
      have HAB := Lib.hid (show A + 1 < B from by rw [← hB]; exact HX.out.lt)
      have HN := Lib.hid (show Bld B B (pthL (p.take 0)) (wo.alloc (.cells #[.pointer none, .slice none 0 0] 56)) from by rw [← hB]; exact bld_new wo)
      have HW := Lib.hid (show Below B wo (wo.alloc (.cells #[.pointer none, .slice none 0 0] 56)) from by rw [← hB]; exact (Below.refl _ wo).alloc (Nat.le_refl _) _)
      go_upto_region 6 with fail
      try rw [hB]
      generalize World.alloc wo _ = w3 at *
      clear hcw hgw hB
      go_wp2_with fail
      go_loopw [23] (fun b23 wr => ∃ q : Nat, b23 = .int .i64 (q : Int) ∧ (q : Int) ≤ n2 ∧ Hid (Bld B B (pthL (p.take q)) wr) ∧ Hid (Below B wo wr)) (fun b23 _ => n2 - (intOf b23).toNat)
      case atStart => exact ⟨0, rfl, by omega, HN, HW⟩
      case round =>
        obtain ⟨q, rfl, hq, HL, HS⟩ := hrel
        clear HN HW
        by_cases h2 : (q : Int) < n2
        · obtain ⟨x, hx⟩ : ∃ x, p[q]? = some x := ⟨_, List.getElem?_eq_getElem (by have := HN2.out; omega)⟩
          obtain ⟨g2, of2, rfl, hg2, c0, c1, c2, c3, c4, c5⟩ := HH.out q x hx
          have HSX := Lib.hid (HXX.out x (List.mem_of_getElem? hx))
          have HSN := Lib.hid (pthL_snoc hx)
          have HBS := Lib.hid (show Below w.heap.size w wr from by rw [HAW.out]; exact HB.out.trans (HS.out.mono (by have := HAB.out; omega)))
          have HTS := Lib.hid (HT0.out.below HBS.out)
          have d0 := keepc c0 HBS.out
          have d1 := keepc c1 HBS.out
          have d2 := keepc c2 HBS.out
          have d3 := keepc c3 HBS.out
          have d4 := keepc c4 HBS.out
          have d5 := keepc c5 HBS.out
          have hg2w := Nat.lt_of_lt_of_le hg2 HBS.out.size
          have hw2 : IntKind.i64.wrap ((q : Int) + 1) = (q : Int) + 1 := by rw [IntKind.wrap_i64]; omega
          have hsB : B ≤ wr.heap.size := by rw [← HBB.out]; exact HS.out.size
          have hA4 : Below wr.heap.size wr (wr.alloc (.cells #[.int .i64 x.ax, .int .i64 x.kd, .string x.nm, .string x.is, .string x.has, .int .i64 x.nth] 38)) := (Below.refl _ wr).alloc (Nat.le_refl _) _
          have HS4 := Lib.hid (HS.out.trans (hA4.mono hsB))
          have HL4 := Lib.hid (HL.out.below hA4)
          have HT4 := Lib.hid (HTS.out.below hA4)
          have HX4 := Lib.hid (Own.fresh wr 38 [.int .i64 x.ax, .int .i64 x.kd, .string x.nm, .string x.is, .string x.has, .int .i64 x.nth])
          have HPL := Lib.hid (show (pthL (p.take q)).length ≤ 1000000 from by
            have h := pthL_len (p := p.take q) fun y hy => HXX.out y (List.mem_of_mem_take hy)
            have h3 := HN2.out
            rw [List.length_take] at h
            omega)
          clear hx c0 c1 c2 c3 c4 c5 hg2 hA4 hsB
          go_upto_region 9 with fail
          generalize World.alloc wr _ = w4 at *
          obtain ⟨y0, y1, y2, y3, y4, y5, yg, -⟩ := HX4.out.six
          clear d0 d1 d2 d3 d4 d5 hg2w HBS HTS HL HS
          go_wp2_with fail
          refine (phop_any x HSX.out _ HT4.out).mono ?_
          rintro e w5 ⟨rfl, hb5⟩
          have HL5 := Lib.hid (HL4.out.below hb5)
          have HS5 := Lib.hid (HS4.out.trans (hb5.mono (by rw [← HBB.out]; exact HS4.out.size)))
          have HSZ := Lib.hid (show (hpS x).size ≤ 1000000 from by have := hpS_size HSX.out; omega)
          clear hb5 HL4 HS4 HT4 HX4 y0 y1 y2 y3 y4 y5 yg
          generalize hpS x = hx at *
          go_wp2_with fail
          refine (bstr_any B B (pthL (p.take q)) hx _ HL5.out HPL.out HSZ.out (by rw [← HBB.out]; exact HS5.out.size)).mono ?_
          rintro e w6 ⟨rfl, hl6, hb6⟩
          have HL6 := Lib.hid (show Bld B B (pthL (p.take (q + 1))) w6 from by rw [HSN.out]; exact hl6)
          have HS6 := Lib.hid (HS5.out.trans hb6)
          clear hl6 hb6 HL5 HS5 HSN
          go_wp2
          go_roundw
          case rel => exact ⟨q + 1, by go_num, by omega, HL6, HS6⟩
          case measure => simp [intOf]; omega
        · obtain rfl : q = n2 := by omega
          have HE := Lib.hid (show pthL (p.take q) = pthL p from by rw [List.take_of_length_le (by rw [HN2.out]; omega)])
          rw [HE.out] at HL
          go_wp2_with fail
          refine (bstring_any B B (pthL p) _ HL.out (by rw [← HBB.out]; exact HS.out.size)).mono ?_
          rintro e w5 ⟨rfl, hb5⟩
          have HS5 := Lib.hid (HS.out.trans hb5)
          have HX5 := Lib.hid (show Own w5 (A + 1) 9 (strR ((P.take k).map pthS) m) from HX.out.under HS5.out HAB.out)
          have hlk : ((P.take k).map pthS).length = k := by rw [List.length_map, List.length_take]; have := HM.out; omega
          have HX6 := Lib.hid (show Own (w5.setCell ⟨A + 1, k, none⟩ (.string ⟨(pthL p).toArray⟩)) (A + 1) 9 (strR ((P.take (k + 1)).map pthS) m) from by
            have h := HX5.out.put k (.string ⟨(pthL p).toArray⟩)
            have h2 := strR_set (X := (P.take k).map pthS) (m := m) (by rw [hlk]; omega) (pthS p)
            rw [hlk] at h2
            have h3 : (P.take (k + 1)).map pthS = (P.take k).map pthS ++ [pthS p] := by rw [List.take_add_one, HPK.out, List.map_append]; rfl
            rw [h3, ← h2]
            exact h)
          have HB6 := Lib.hid (show Below A w (w5.setCell ⟨A + 1, k, none⟩ (.string ⟨(pthL p).toArray⟩)) from (HB.out.trans (HS5.out.mono (by have := HAB.out; omega))).setCell (by show A ≤ A + 1; omega) _)
          have yl := HX5.out.lt
          have yf := HX5.out.thaw k
          have yc : w5.cell? ⟨A + 1, k, none⟩ = some (.string ⟨#[]⟩) := by
            have e9 : (((P.take k).map pthS).map Value.string).length = k := by rw [List.length_map, hlk]
            rw [HX5.out.cell, strR, List.getElem?_append_right (by rw [e9]; exact Nat.le_refl _), e9, hlk, Nat.sub_self, List.getElem?_replicate, if_pos (by omega)]
          have hk1 : decide ((k : Int) < (m : Int)) = true := decide_eq_true h1
          have hk2 : decide (k < m) = true := decide_eq_true (by omega)
          clear hb5 hlk HL
          generalize (⟨(pthL p).toArray⟩ : ByteArray) = yy at *
          go_wp2
          go_roundw
          case rel => exact ⟨k + 1, by go_num, by omega, HX6, HB6⟩
          case measure => simp [intOf]; omega
    · obtain rfl : k = m := by omega
      have HE : P.take k = P := List.take_of_length_le (by rw [HM.out]; omega)
      rw [HE] at HX
      have hl : (P.map pthS).length = k := by rw [List.length_map]; exact HM.out
      have HBF := Lib.hid (show Below w.heap.size w wo from by rw [HAW.out]; exact HB.out)
      have e1 : (⟨#[124]⟩ : ByteArray).data.toList = [124] := rfl
      have key := Tryd.strings_Join (A + 1) 0 k (P.map pthS) ⟨#[124]⟩ wo (fun j y hj => by
          have := HX.out.cell j
          rw [Nat.zero_add, this, strR, List.getElem?_append_left (by rw [List.length_map, List.length_map]; have := (List.getElem?_eq_some_iff.1 hj).1; rw [List.length_map] at this; exact this), List.getElem?_map, hj]
          rfl) HX.out.lt (by rw [hl]; omega) (by rw [hl]; exact Nat.le_refl _) (by rw [pthS_map, e1]; have := pqp_len HPS.out; unfold qpL at this; omega)
      rw [hl, pthS_map, e1] at key
      have HK := Lib.hid (show Calls Tryd.prog 26 #[.slice (some ⟨A + 1, 0, none⟩) k k, .string ⟨#[124]⟩] wo fun e w' => e = .returned (.string (qpS P)) ∧ Below wo.heap.size wo w' from key)
      clear key hl HE e1
      go_wp2_with fail
      refine HK.out.mono ?_
      rintro e w5 ⟨rfl, hb5⟩
      have HB5 := Lib.hid (keepb HBF.out hb5)
      clear hb5
      go_wp2
      go_ret
      exact ⟨ret_str rfl, HB5.out⟩
end Go.Proofs.YtialpofiagiclaaDoor
