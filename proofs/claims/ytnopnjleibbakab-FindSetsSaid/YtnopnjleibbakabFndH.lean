/- Is a query one that a code knows: the walk of the program's Check. -/
import Derived.Test.YtnopnjleibbakabFndG
namespace Go.Proofs.Ytnopnjleibbakab
set_option linter.unusedVariables false
open Go.RowKit Go.Sort

def okN2 (C : List (Int × ByteArray)) (x : Hp) : Bool := x.nm.toList.isEmpty || knownB C x.nm
/-- The first step from k on whose name isn't known. -/
def firstX (C : List (Int × ByteArray)) : List Hp → Nat → Option Nat
  | [], _ => none
  | x :: p, k => if okN2 C x = true then firstX C p (k + 1) else some k
def firstQ (C : List (Int × ByteArray)) : List (List Hp) → Nat → Option (Nat × Nat)
  | [], _ => none
  | p :: P, i => match firstX C p 0 with | some k => some (i, k) | none => firstQ C P (i + 1)
def chkV (P : List (List Hp)) (C : List (Int × ByteArray)) : Int × Int × Int :=
  if rightQ P = true then (match firstQ C P 0 with | some (i, k) => (5, (i : Int), (k : Int)) | none => (0, 0, 0)) else (1, 0, 0)
theorem firstX_yes {C : List (Int × ByteArray)} {p : List Hp} {k j : Nat} {x : Hp} (h : p[k]? = some x) (hx : okN2 C x = true) : firstX C (p.drop k) j = firstX C (p.drop (k + 1)) (j + 1) := by
  have hk := (List.getElem?_eq_some_iff.1 h).1
  have e : p[k] = x := (List.getElem?_eq_some_iff.1 h).2
  rw [List.drop_eq_getElem_cons hk, e]
  show (if okN2 C x = true then _ else _) = _
  rw [if_pos hx]
theorem firstX_no {C : List (Int × ByteArray)} {p : List Hp} {k j : Nat} {x : Hp} (h : p[k]? = some x) (hx : okN2 C x = false) : firstX C (p.drop k) j = some j := by
  have hk := (List.getElem?_eq_some_iff.1 h).1
  have e : p[k] = x := (List.getElem?_eq_some_iff.1 h).2
  rw [List.drop_eq_getElem_cons hk, e]
  show (if okN2 C x = true then _ else _) = _
  rw [if_neg (by rw [hx]; decide)]
theorem firstQ_yes {C : List (Int × ByteArray)} {P : List (List Hp)} {i j : Nat} {p : List Hp} (h : P[i]? = some p) (hx : firstX C p 0 = none) : firstQ C (P.drop i) j = firstQ C (P.drop (i + 1)) (j + 1) := by
  have hk := (List.getElem?_eq_some_iff.1 h).1
  have e : P[i] = p := (List.getElem?_eq_some_iff.1 h).2
  rw [List.drop_eq_getElem_cons hk, e]
  show (match firstX C p 0 with | some k => some (j, k) | none => firstQ C (P.drop (i + 1)) (j + 1)) = _
  rw [hx]
theorem firstQ_no {C : List (Int × ByteArray)} {P : List (List Hp)} {i j k : Nat} {p : List Hp} (h : P[i]? = some p) (hx : firstX C p 0 = some k) : firstQ C (P.drop i) j = some (j, k) := by
  have hk := (List.getElem?_eq_some_iff.1 h).1
  have e : P[i] = p := (List.getElem?_eq_some_iff.1 h).2
  rw [List.drop_eq_getElem_cons hk, e]
  show (match firstX C p 0 with | some k => some (j, k) | none => firstQ C (P.drop (i + 1)) (j + 1)) = _
  rw [hx]

set_option maxRecDepth 1000000 in
set_option maxHeartbeats 3200000 in
theorem check_any (P : List (List Hp)) (qo : Option Addr) (qc : Nat) (hP : (P.length : Int) ≤ 1000) (hPL : ∀ p ∈ P, (p.length : Int) ≤ 1000 ∧ ∀ x ∈ p, x.nm.size ≤ maxLen) (C : List (Int × ByteArray)) (co : Option Addr) (cc : Nat) (hC : (C.length : Int) ≤ 1000)
    (w : World) (hq : HasQ w qo P) (hc : HasI w co C) :
    Calls Try.prog 15 #[.agg #[.slice qo P.length qc], .agg #[.slice co C.length cc]] w fun e w' => e = .returned (.agg #[.int .i64 (chkV P C).1, .int .i64 0, .int .i64 (chkV P C).2.1, .int .i64 (chkV P C).2.2]) ∧ Below w.heap.size w w' := by
  have HV := Lib.hid (show chkV P C = if rightQ P = true then (match firstQ C P 0 with | some (i, k) => ((5 : Int), (i : Int), (k : Int)) | none => ((0 : Int), (0 : Int), (0 : Int))) else ((1 : Int), (0 : Int), (0 : Int)) from rfl)
  generalize chkV P C = V at *
  have HQR := Lib.hid (fun (W : World) (hb : Below w.heap.size w W) => qright_any P qo qc hP hPL W (hq.below hb))
  have HKN := Lib.hid (fun (n : ByteArray) (W : World) (hb : Below w.heap.size w W) => known_any C co cc n hC W (hc.below hb))
  have HQ := Lib.hid hq
  have HPL := Lib.hid hPL
  obtain ⟨m, hm⟩ : ∃ m, P.length = m := ⟨_, rfl⟩
  have HM := Lib.hid hm
  obtain ⟨nc, hnc⟩ : ∃ m, C.length = m := ⟨_, rfl⟩
  obtain ⟨rq, hrq⟩ : ∃ b, rightQ P = b := ⟨_, rfl⟩
  rw [hm, hrq] at HQR
  rw [hrq] at HV
  rw [hnc] at HKN
  rw [hm] at hP ⊢
  rw [hnc] at hC ⊢
  have HB0 := Lib.hid (show Below w.heap.size w (((w.alloc (.cells #[.slice qo m qc] 25)).alloc (.cells #[.slice co nc cc] 39)).alloc (.cells #[.int .i64 0, .int .i64 0, .int .i64 0, .int .i64 0] 48)) from (((Below.refl _ _).alloc (Nat.le_refl _) _).alloc (by simp) _).alloc (by simp; omega) _)
  have HO0 := Lib.hid (show Own (((w.alloc (.cells #[.slice qo m qc] 25)).alloc (.cells #[.slice co nc cc] 39)).alloc (.cells #[.int .i64 0, .int .i64 0, .int .i64 0, .int .i64 0] 48)) w.heap.size 25 [.slice qo m qc] from ((Own.fresh w 25 [.slice qo m qc]).on_alloc _).on_alloc _)
  have HO1 := Lib.hid (show Own (((w.alloc (.cells #[.slice qo m qc] 25)).alloc (.cells #[.slice co nc cc] 39)).alloc (.cells #[.int .i64 0, .int .i64 0, .int .i64 0, .int .i64 0] 48)) (w.heap.size + 1) 39 [.slice co nc cc] from (Own.fresh' (by simp) 39 [.slice co nc cc]).on_alloc _)
  have HO2 := Lib.hid (show Own (((w.alloc (.cells #[.slice qo m qc] 25)).alloc (.cells #[.slice co nc cc] 39)).alloc (.cells #[.int .i64 0, .int .i64 0, .int .i64 0, .int .i64 0] 48)) (w.heap.size + 1 + 1) 48 [.int .i64 0, .int .i64 0, .int .i64 0, .int .i64 0] from Own.fresh' (by simp) 48 [.int .i64 0, .int .i64 0, .int .i64 0, .int .i64 0])
  clear hq hc hPL hm hnc hrq
  go_enter Try.func15, Try.ntmps15
  go_upto_region 1 with fail
  generalize World.alloc (World.alloc (w.alloc _) _) _ = w1 at *
  have o0 : w1.cell? ⟨w.heap.size, 0, none⟩ = some (.slice qo m qc) := HO0.out.cell 0
  have ol := HO0.out.lt
  go_wp2_with fail
  refine (HQR.out _ HB0.out).mono ?_
  rintro e w2 ⟨rfl, hb2⟩
  have HB2 := Lib.hid (keepb HB0.out hb2)
  have HP0 := Lib.hid (HO0.out.under hb2 HO0.out.lt)
  have HP1 := Lib.hid (HO1.out.under hb2 HO1.out.lt)
  have HP2 := Lib.hid (HO2.out.under hb2 HO2.out.lt)
  clear hb2 HB0 HO0 HO1 HO2 o0 ol HQR
  cases rq with
  | false =>
    have HE := Lib.hid (show V = (1, 0, 0) by rw [HV.out, if_neg (by decide)])
    obtain ⟨b0, b1, b2, b3, d0, d1, d2, d3⟩ := HP2.out.four
    have bl := HP2.out.lt
    have HF9 := Lib.hid (HP2.out.put4 (u0 := .int .i64 1) (u1 := .int .i64 0) (u2 := .int .i64 0) (u3 := .int .i64 0))
    have HB9 := Lib.hid (below_put4 HB2.out (g := w.heap.size + 1 + 1) (by omega) (.int .i64 1) (.int .i64 0) (.int .i64 0) (.int .i64 0))
    go_wp2
    clear b0 b1 b2 b3 d0 d1 d2 d3 bl
    rw [set4_fold]
    generalize set4 _ _ _ _ _ _ = w9 at *
    obtain ⟨b0, b1, b2, b3, -⟩ := HF9.out.four
    refine bodyPost_ret (by simp [results, Try.results15, go_sem, b0, b1, b2, b3]; rfl) rfl ?_
    rw [HE.out]
    exact ⟨rfl, HB9.out⟩
  | true =>
    have HE0 := Lib.hid (show V = (match firstQ C P 0 with | some (i, k) => ((5 : Int), (i : Int), (k : Int)) | none => ((0 : Int), (0 : Int), (0 : Int))) by rw [HV.out, if_pos rfl])
    have p0 : w2.cell? ⟨w.heap.size, 0, none⟩ = some (.slice qo m qc) := HP0.out.cell 0
    have pl := HP0.out.lt
    go_wp2_with fail
    clear p0 pl HP0
    go_loopw [16] (fun b16 wr => ∃ k : Nat, b16 = .int .i64 (k : Int) ∧ (k : Int) ≤ m ∧ Hid (firstQ C (P.drop k) k = firstQ C P 0) ∧ Hid (Below w.heap.size w wr) ∧ Hid (Own wr (w.heap.size + 1) 39 [.slice co nc cc]) ∧ Hid (Own wr (w.heap.size + 1 + 1) 48 [.int .i64 0, .int .i64 0, .int .i64 0, .int .i64 0])) (fun b16 _ => m - (intOf b16).toNat)
    case atStart => exact ⟨0, rfl, by omega, Lib.hid rfl, HB2, HP1, HP2⟩
    case round =>
      obtain ⟨k, rfl, hk, HA, HB, HO1, HO2⟩ := hrel
      clear HB2 HP1 HP2
      by_cases h2 : (k : Int) < m
      · obtain ⟨p, hp⟩ : ∃ p, P[k]? = some p := ⟨_, List.getElem?_eq_getElem (by have := HM.out; omega)⟩
        obtain ⟨g, off, po, pc, rfl, hg, hc, hh⟩ := HQ.out k p hp
        have HH := Lib.hid hh
        have hpl := HPL.out p (List.mem_of_getElem? hp)
        have HXN := Lib.hid hpl.2
        have hpl := hpl.1
        have HPK := Lib.hid hp
        have hcw := keepc hc HB.out
        have hgw := Nat.lt_of_lt_of_le hg HB.out.size
        have hw1 : IntKind.i64.wrap ((k : Int) + 1) = (k : Int) + 1 := by rw [IntKind.wrap_i64]; omega
        obtain ⟨n2, hn2⟩ : ∃ n, p.length = n := ⟨_, rfl⟩
        have HN2 := Lib.hid hn2
        rw [hn2] at hcw hpl
        clear hh hp hc hg hn2
        go_wp2_with fail
        clear hcw hgw
        go_loopw [23] (fun b23 wr => ∃ q : Nat, b23 = .int .i64 (q : Int) ∧ (q : Int) ≤ n2 ∧ Hid (firstX C (p.drop q) q = firstX C p 0) ∧ Hid (Below w.heap.size w wr) ∧ Hid (Own wr (w.heap.size + 1) 39 [.slice co nc cc]) ∧ Hid (Own wr (w.heap.size + 1 + 1) 48 [.int .i64 0, .int .i64 0, .int .i64 0, .int .i64 0])) (fun b23 _ => n2 - (intOf b23).toNat)
        case atStart => exact ⟨0, rfl, by omega, Lib.hid rfl, HB, HO1, HO2⟩
        case round =>
          obtain ⟨q, rfl, hq, HA3, HB3, HQ1, HQ2⟩ := hrel
          clear HB HO1 HO2
          by_cases h5 : (q : Int) < n2
          · obtain ⟨x, hx⟩ : ∃ x, p[q]? = some x := ⟨_, List.getElem?_eq_getElem (by have := HN2.out; omega)⟩
            obtain ⟨g2, of2, rfl, hg2, c0, c1, c2, c3, c4, c5⟩ := HH.out q x hx
            have HXQ := Lib.hid hx
            have d0 := keepc c0 HB3.out
            have d1 := keepc c1 HB3.out
            have d2 := keepc c2 HB3.out
            have d3 := keepc c3 HB3.out
            have d4 := keepc c4 HB3.out
            have d5 := keepc c5 HB3.out
            have hg2w := Nat.lt_of_lt_of_le hg2 HB3.out.size
            have hw2 : IntKind.i64.wrap ((q : Int) + 1) = (q : Int) + 1 := by rw [IntKind.wrap_i64]; omega
            have HKX := Lib.hid (HKN.out x.nm)
            obtain ⟨kb, hkb⟩ : ∃ b, knownB C x.nm = b := ⟨_, rfl⟩
            rw [hkb] at HKX
            have HOK := Lib.hid (show okN2 C x = (x.nm.toList.isEmpty || kb) by rw [← hkb]; rfl)
            obtain ⟨z0, hz0⟩ : ∃ z, x.nm.toList.isEmpty = z := ⟨_, rfl⟩
            rw [hz0] at HOK
            clear hkb hx c0 c1 c2 c3 c4 c5 hg2
            have HB4 := Lib.hid (HB3.out.alloc HB3.out.size (.cells #[.int .i64 x.ax, .int .i64 x.kd, .string x.nm, .string x.is, .string x.has, .int .i64 x.nth] 33))
            have HX1 := Lib.hid (HQ1.out.on_alloc (.cells #[.int .i64 x.ax, .int .i64 x.kd, .string x.nm, .string x.is, .string x.has, .int .i64 x.nth] 33))
            have HX2 := Lib.hid (HQ2.out.on_alloc (.cells #[.int .i64 x.ax, .int .i64 x.kd, .string x.nm, .string x.is, .string x.has, .int .i64 x.nth] 33))
            cases z0 with
            | true =>
              have HA4 := Lib.hid (show firstX C (p.drop (q + 1)) (q + 1) = firstX C p 0 by rw [← HA3.out, firstX_yes HXQ.out (by rw [HOK.out]; rfl)])
              go_wp2
              go_roundw
              case rel => exact ⟨q + 1, by go_num, by omega, HA4, HB4, HX1, HX2⟩
              case measure => simp [intOf]; omega
            | false =>
              have o0 : wr.cell? ⟨w.heap.size + 1, 0, none⟩ = some (.slice co nc cc) := HQ1.out.cell 0
              have ol := HQ1.out.lt
              go_wp2_with fail
              clear o0 ol d0 d1 d2 d3 d4 d5 hg2w HB3 HQ1 HQ2
              refine (HKX.out _ HB4.out).mono ?_
              generalize World.alloc wr _ = w4 at *
              rintro e w5 ⟨rfl, hb5⟩
              have HB5 := Lib.hid (keepb HB4.out hb5)
              have HY1 := Lib.hid (HX1.out.under hb5 HX1.out.lt)
              have HY2 := Lib.hid (HX2.out.under hb5 HX2.out.lt)
              clear hb5 HB4 HX1 HX2 HKX
              cases kb with
              | true =>
                have HA4 := Lib.hid (show firstX C (p.drop (q + 1)) (q + 1) = firstX C p 0 by rw [← HA3.out, firstX_yes HXQ.out (by rw [HOK.out]; rfl)])
                go_wp2
                go_roundw
                case rel => exact ⟨q + 1, by go_num, by omega, HA4, HB5, HY1, HY2⟩
                case measure => simp [intOf]; omega
              | false =>
                have HE := Lib.hid (show V = (5, (k : Int), (q : Int)) by rw [HE0.out, ← HA.out, firstQ_no HPK.out (by rw [← HA3.out, firstX_no HXQ.out (by rw [HOK.out]; rfl)])])
                obtain ⟨b0, b1, b2, b3, d0, d1, d2, d3⟩ := HY2.out.four
                have bl := HY2.out.lt
                have HF9 := Lib.hid (HY2.out.put4 (u0 := .int .i64 5) (u1 := .int .i64 0) (u2 := .int .i64 (k : Int)) (u3 := .int .i64 (q : Int)))
                have HB9 := Lib.hid (below_put4 HB5.out (g := w.heap.size + 1 + 1) (by omega) (.int .i64 5) (.int .i64 0) (.int .i64 (k : Int)) (.int .i64 (q : Int)))
                go_wp2
                clear b0 b1 b2 b3 d0 d1 d2 d3 bl
                rw [set4_fold]
                generalize set4 _ _ _ _ _ _ = w9 at *
                obtain ⟨b0, b1, b2, b3, -⟩ := HF9.out.four
                refine bodyPost_ret (by simp [results, Try.results15, go_sem, b0, b1, b2, b3]; rfl) rfl ?_
                rw [HE.out]
                exact ⟨rfl, HB9.out⟩
          · obtain rfl : q = n2 := by omega
            have HA4 := Lib.hid (show firstQ C (P.drop (k + 1)) (k + 1) = firstQ C P 0 by
              rw [← HA.out, firstQ_yes HPK.out (by rw [← HA3.out, List.drop_of_length_le (by rw [HN2.out]; omega)]; rfl)])
            go_wp2
            go_roundw
            case rel => exact ⟨k + 1, by go_num, by omega, HA4, HB3, HQ1, HQ2⟩
            case measure => simp [intOf]; omega
      · obtain rfl : k = m := by omega
        have HE := Lib.hid (show V = (0, 0, 0) by rw [HE0.out, ← HA.out, List.drop_of_length_le (by rw [HM.out]; omega)]; rfl)
        obtain ⟨b0, b1, b2, b3, d0, d1, d2, d3⟩ := HO2.out.four
        have bl := HO2.out.lt
        have HF9 := Lib.hid (HO2.out.put4 (u0 := .int .i64 0) (u1 := .int .i64 0) (u2 := .int .i64 0) (u3 := .int .i64 0))
        have HB9 := Lib.hid (below_put4 HB.out (g := w.heap.size + 1 + 1) (by omega) (.int .i64 0) (.int .i64 0) (.int .i64 0) (.int .i64 0))
        go_wp2
        clear b0 b1 b2 b3 d0 d1 d2 d3 bl
        rw [set4_fold]
        generalize set4 _ _ _ _ _ _ = w9 at *
        obtain ⟨b0, b1, b2, b3, -⟩ := HF9.out.four
        refine bodyPost_ret (by simp [results, Try.results15, go_sem, b0, b1, b2, b3]; rfl) rfl ?_
        rw [HE.out]
        exact ⟨rfl, HB9.out⟩
end Go.Proofs.Ytnopnjleibbakab
