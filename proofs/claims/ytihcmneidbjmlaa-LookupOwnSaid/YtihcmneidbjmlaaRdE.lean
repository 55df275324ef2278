/- A reference, walked. -/
import Derived.Test.YtihcmneidbjmlaaGm
import Derived.Test.YtihcmneidbjmlaaWordR
namespace Go.Proofs.Ytihcmneidbjmlaa
set_option linter.unusedVariables false
open Go.RowKit Go.Sort

theorem Rd.fin {w w3 : World} {g N k0 k : Nat} {lo : Option Addr} {lc : Nat} {L : List Tok} {F0 F : Option (Int × Int)} (H0 : Rd w g lo lc L k0 F0) (hN : w.heap.size ≤ N) (HU : But (fun j => j = g) w w3) (H3 : Rd w3 g lo lc L k F) (u0 u1 u2 u3 u4 u5 u6 : Value) :
    But (fun j => j = g) w (set7t w3 N u0 u1 u2 u3 u4 u5 u6) ∧ Rd (set7t w3 N u0 u1 u2 u3 u4 u5 u6) g lo lc L k F := by
  have hU : But (fun j => j = g) w (set7t w3 N u0 u1 u2 u3 u4 u5 u6) := HU.trans (But.set7 w3 N u0 u1 u2 u3 u4 u5 u6) (fun j hj e => by omega)
  have hg := H0.1.lt
  exact ⟨hU, H3.1.but (But.set7 w3 N u0 u1 u2 u3 u4 u5 u6) (by omega), H0.2.1.but H0.2.2 hU, H0.2.2⟩
theorem wordB_size {s : ByteArray} (h : wordB s = true) : s.size ≤ 12 := by
  unfold wordB at h
  simp only [Bool.and_eq_true, decide_eq_true_eq] at h
  omega
theorem Rd.at1 {w : World} {g k : Nat} {lo : Option Addr} {lc : Nat} {L : List Tok} {F : Option (Int × Int)} (h : Rd w g lo lc L k F) (m : Nat) (v : Value) (hv : v = .int .i64 (m : Int)) : Rd (w.setCell ⟨g, 1, none⟩ v) g lo lc L m F := by
  subst hv
  exact ⟨h.1.put 1 _, h.2.1.but h.2.2 (But.put _ _ _ _), h.2.2⟩
@[go_sem 2000] theorem ebuild2 (k : Int) (t : ByteArray) (w : World) : (Instr.build 36 #[(0, .int .i64 k), (1, .string t)]).run Try.prog w = .ok (.agg #[.int .i64 k, .string t, .int .u64 0, .int .u64 0, .int .u64 0, .int .u64 0, .slice none 0 0]) w := by kernel_rfl

set_option maxRecDepth 1000000 in
set_option maxHeartbeats 1000000 in
theorem rd_ref (g : Nat) (lo : Option Addr) (lc : Nat) (L : List Tok) (k : Nat) (hn : (L.length : Int) ≤ 1000000) (hk : (k : Int) ≤ 100000) (htx : ∀ t ∈ L, t.tx.size ≤ 1000000) (w : World) (h : Rd w g lo lc L k none) :
    Calls Try.prog 76 #[.pointer (some ⟨g, 0, none⟩)] w fun e w' => Out w g lo lc L (refO L k) e w' := by
  have HH := Lib.hid h
  have HNW := Lib.hid (fun (m : Nat) (hm : (m : Int) ≤ 1000000) (W : World) (hW : Rd W g lo lc L m none) => rd_now g lo lc L m none hn hm W hW)
  have HTK := Lib.hid (fun (m : Nat) (hm : (m : Int) ≤ 1000000) (s : ByteArray) (W : World) (hW : Rd W g lo lc L m none) => rd_take s g lo lc L m none hn hm W hW)
  have HFL := Lib.hid (fun (m : Nat) (hm : (m : Int) ≤ 1000000) (W : World) (hW : Rd W g lo lc L m none) => show Calls Try.prog 47 #[.pointer (some ⟨g, 0, none⟩), .int .i64 2] W fun e w' => e = .returned (.agg #[.int .i64 0, .string ⟨#[]⟩, .int .u64 0, .int .u64 0, .int .u64 0, .int .u64 0, .slice none 0 0]) ∧ But (fun j => j = g) W w' ∧ Rd w' g lo lc L m (some (2, ((tkA L m).pos : Int))) from rd_fail 2 g lo lc L m hn hm W hW)
  have HWD := Lib.hid (fun (m : Nat) (W : World) => rword_any (tkA L m).tx (by
    unfold tkA
    rw [List.getD_eq_getElem?_getD]
    cases hq : L[m]? with
    | none => show (0 : Nat) ≤ maxLen; exact Nat.zero_le _
    | some t => have := htx t (List.mem_of_getElem? hq); show t.tx.size ≤ maxLen; unfold maxLen; omega) W)
  have HR := Lib.hid (Own.fresh w 36 [.int .i64 0, .string ⟨#[]⟩, .int .u64 0, .int .u64 0, .int .u64 0, .int .u64 0, .slice none 0 0])
  have H1 := Lib.hid (h.below ((Below.refl _ _).alloc (Nat.le_refl _) (.cells #[.int .i64 0, .string ⟨#[]⟩, .int .u64 0, .int .u64 0, .int .u64 0, .int .u64 0, .slice none 0 0] 36)))
  have HU := Lib.hid (But.of_below (S := fun j => j = g) ((Below.refl w.heap.size w).alloc (Nat.le_refl _) (.cells #[.int .i64 0, .string ⟨#[]⟩, .int .u64 0, .int .u64 0, .int .u64 0, .int .u64 0, .slice none 0 0] 36)))
  have HGN := Lib.hid (show g < w.heap.size from h.1.lt)
  have HSP := Lib.hid (show refO L k = if wordB (tkA L k).tx = true then (if isS L (k + 1) [58, 58] = true then (if ((tkA L (k + 2)).kd == 1 && wordB (tkA L (k + 2)).tx) = true then .ok (leafX 11 ((tkA L k).tx ++ ⟨#[58, 58]⟩ ++ (tkA L (k + 2)).tx), k + 3) else badF L 2 (k + 2)) else .ok (leafX 11 (tkA L k).tx, k + 1)) else badF L 2 k from rfl)
  generalize refO L k = RES at *
  clear h
  have hw1 : IntKind.i64.wrap ((k : Int) + 1) = (k : Int) + 1 := by rw [IntKind.wrap_i64]; omega
  have hw2 : IntKind.i64.wrap ((k : Int) + 2 + 1) = (k : Int) + 2 + 1 := by rw [IntKind.wrap_i64]; omega
  go_enter Try.func76, Try.ntmps76
  go_upto_region 1 with fail
  generalize World.alloc w _ = w1 at *
  obtain ⟨N, hN⟩ : ∃ N, w.heap.size = N := ⟨_, rfl⟩
  rw [hN] at HR HGN
  rw [hN]
  have HNN := Lib.hid hN
  clear hN
  go_wp2_with fail
  refine (HNW.out k (by omega) _ H1.out).mono ?_
  obtain ⟨t, ht⟩ : ∃ t, tkA L k = t := ⟨_, rfl⟩
  have HT := Lib.hid ht
  rw [ht] at HSP
  have HW1 := Lib.hid (HWD.out k)
  rw [ht] at HW1 ⊢
  clear ht
  unfold tokV
  rintro e w2 ⟨rfl, hb2⟩
  have H2 := Lib.hid ((H1.out.below hb2).below ((Below.refl _ _).alloc (Nat.le_refl _) (.cells #[.int .i64 (t.kd : Int), .string t.tx, .int .u64 (t.st.1 : Int), .int .u64 (t.st.2.1 : Int), .int .u64 (t.st.2.2.1 : Int), .int .u64 (t.st.2.2.2 : Int), .int .i64 (t.pos : Int)] 68)))
  have HU2 := Lib.hid ((HU.out.then_below hb2).alloc (.cells #[.int .i64 (t.kd : Int), .string t.tx, .int .u64 (t.st.1 : Int), .int .u64 (t.st.2.1 : Int), .int .u64 (t.st.2.2.1 : Int), .int .u64 (t.st.2.2.2 : Int), .int .i64 (t.pos : Int)] 68))
  have HR2 := Lib.hid ((HR.out.under hb2 HR.out.lt).on_alloc (.cells #[.int .i64 (t.kd : Int), .string t.tx, .int .u64 (t.st.1 : Int), .int .u64 (t.st.2.1 : Int), .int .u64 (t.st.2.2.1 : Int), .int .u64 (t.st.2.2.2 : Int), .int .i64 (t.pos : Int)] 68))
  have HX := Lib.hid (Own.fresh w2 68 [.int .i64 (t.kd : Int), .string t.tx, .int .u64 (t.st.1 : Int), .int .u64 (t.st.2.1 : Int), .int .u64 (t.st.2.2.1 : Int), .int .u64 (t.st.2.2.2 : Int), .int .i64 (t.pos : Int)])
  have HGX := Lib.hid (show N < w2.heap.size from Nat.lt_of_lt_of_le HR.out.lt hb2.size)
  clear hb2 H1 HU HR
  go_upto_region 2 with fail
  generalize World.alloc w2 _ = w3 at *
  generalize w2.heap.size = G at *
  have x1 : w3.cell? ⟨G, 1, none⟩ = some (.string t.tx) := HX.out.cell 1
  have xl := HX.out.lt
  go_wp2_with fail
  refine (HW1.out _).mono ?_
  rintro e w4 ⟨rfl, rfl⟩
  cases hwb : wordB t.tx
  case false =>
    have HWB := Lib.hid hwb
    clear hwb
    have HE := Lib.hid (show RES = badF L 2 (k) from by rw [HSP.out, if_neg (by rw [HWB.out]; decide)])
    go_wp2_with fail
    refine (HFL.out (k) (by omega) _ H2.out).mono ?_
    rintro e w5 ⟨rfl, hbu, hrd⟩
    have HR9 := Lib.hid (HR2.out.but hbu (by have := HGN.out; omega))
    have HU9 := Lib.hid (HU2.out.trans hbu (fun _ _ h => h))
    have HD9 := Lib.hid hrd
    clear hbu hrd
    obtain ⟨z0, z1, z2, z3, z4, z5, z6, y0, y1, y2, y3, y4, y5, y6⟩ := HR9.out.seven2
    have zl := HR9.out.lt
    go_wp2
    rw [set7t_fold]
    have HF := HR9.out.put7 (u0 := (.int .i64 0)) (u1 := (.string ⟨#[]⟩)) (u2 := (.int .u64 0)) (u3 := (.int .u64 0)) (u4 := (.int .u64 0)) (u5 := (.int .u64 0)) (u6 := (.slice none 0 0))
    obtain ⟨hU, hR⟩ := Rd.fin HH.out (Nat.le_of_eq HNN.out) HU9.out HD9.out (.int .i64 0) (.string ⟨#[]⟩) (.int .u64 0) (.int .u64 0) (.int .u64 0) (.int .u64 0) (.slice none 0 0)
    clear z0 z1 z2 z3 z4 z5 z6 y0 y1 y2 y3 y4 y5 y6
    generalize set7t w5 N (.int .i64 0) (.string ⟨#[]⟩) (.int .u64 0) (.int .u64 0) (.int .u64 0) (.int .u64 0) (.slice none 0 0) = w9 at *
    obtain ⟨z0, z1, z2, z3, z4, z5, z6⟩ := HF.seven
    refine bodyPost_ret (by simp [results, Try.results76, go_sem, z0, z1, z2, z3, z4, z5, z6]; rfl) rfl ?_
    rw [HE.out]
    exact ⟨hU, ex0, none, 0, rfl, (show (2 : Int) ≠ 0 by decide), ⟨_, hR⟩⟩
  case true =>
    have HWB := Lib.hid hwb
    clear hwb
    rw [if_pos HWB.out] at HSP
    obtain ⟨c0, c1, c2, c3, c4, c5, cg⟩ := H2.out.1.six_r
    have cf : w3.frozen? ⟨g, 1, none⟩ = false := H2.out.1.thaw 1
    have H5 := Lib.hid (H2.out.at1 (k + 1) (.int .i64 ((k : Int) + 1)) (by simp))
    have HU5 := Lib.hid (HU2.out.setCell (p := ⟨g, 1, none⟩) (fun _ => rfl) (.int .i64 ((k : Int) + 1)))
    have HR5 := Lib.hid (HR2.out.off (p := ⟨g, 1, none⟩) (by have := HGN.out; show N ≠ g; omega) (.int .i64 ((k : Int) + 1)))
    have HX5 := Lib.hid (HX.out.off (p := ⟨g, 1, none⟩) (by have := HGN.out; have := HGX.out; show G ≠ g; omega) (.int .i64 ((k : Int) + 1)))
    go_upto_region 5 with fail
    clear c0 c1 c2 c3 c4 c5 cg cf H2 HU2 HR2 HX x1 xl
    generalize World.setCell w3 _ _ = w5 at *
    obtain ⟨zs, hzs⟩ : ∃ z, isS L (k + 1) [58, 58] = z := ⟨_, rfl⟩
    have HTT := Lib.hid (HTK.out (k + 1) (by omega) ⟨#[58, 58]⟩ w5 H5.out)
    rw [show (⟨#[58, 58]⟩ : ByteArray).data.toList = [58, 58] from rfl, hzs] at HTT
    rw [hzs] at HSP
    clear hzs
    go_wp2_with fail
    refine HTT.out.mono ?_
    rintro e w6 ⟨rfl, hbu, hrd⟩
    have HR6 := Lib.hid (HR5.out.but hbu (by have := HGN.out; omega))
    have HX6 := Lib.hid (HX5.out.but hbu (by have := HGN.out; have := HGX.out; omega))
    have HU6 := Lib.hid (HU5.out.trans hbu (fun _ _ h => h))
    have H6 := Lib.hid hrd
    have x1 : w6.cell? ⟨G, 1, none⟩ = some (.string t.tx) := HX6.out.cell 1
    have xl := HX6.out.lt
    clear hbu hrd HTT H5 HU5 HR5 HX5
    cases zs
    case false =>
      rw [if_neg (by decide)] at HSP
      have HD6 := Lib.hid (show Rd w6 g lo lc L (k + 1) none from H6.out)
      have HE := Lib.hid HSP.out
      obtain ⟨z0, z1, z2, z3, z4, z5, z6, y0, y1, y2, y3, y4, y5, y6⟩ := HR6.out.seven2
      have zl := HR6.out.lt
      go_wp2
      rw [set7t_fold]
      have HF := HR6.out.put7 (u0 := (.int .i64 11)) (u1 := (.string t.tx)) (u2 := (.int .u64 0)) (u3 := (.int .u64 0)) (u4 := (.int .u64 0)) (u5 := (.int .u64 0)) (u6 := (.slice none 0 0))
      obtain ⟨hU, hR⟩ := Rd.fin HH.out (Nat.le_of_eq HNN.out) HU6.out HD6.out (.int .i64 11) (.string t.tx) (.int .u64 0) (.int .u64 0) (.int .u64 0) (.int .u64 0) (.slice none 0 0)
      clear z0 z1 z2 z3 z4 z5 z6 y0 y1 y2 y3 y4 y5 y6
      generalize set7t w6 N (.int .i64 11) (.string t.tx) (.int .u64 0) (.int .u64 0) (.int .u64 0) (.int .u64 0) (.slice none 0 0) = w9 at *
      obtain ⟨z0, z1, z2, z3, z4, z5, z6⟩ := HF.seven
      refine bodyPost_ret (by simp [results, Try.results76, go_sem, z0, z1, z2, z3, z4, z5, z6]; rfl) rfl ?_
      rw [HE.out]
      exact ⟨hU, _, none, 0, rfl, hR, rfl, 0, rfl⟩
    case true =>
      rw [if_pos rfl] at HSP
      have HD6 := Lib.hid (show Rd w6 g lo lc L (k + 2) none from H6.out)
      clear H6
      go_wp2_with fail
      refine (HNW.out (k + 2) (by omega) _ HD6.out).mono ?_
      obtain ⟨y, hy⟩ : ∃ y, tkA L (k + 2) = y := ⟨_, rfl⟩
      have HY := Lib.hid hy
      rw [hy] at HSP
      have HW2 := Lib.hid (HWD.out (k + 2))
      rw [hy] at HW2 ⊢
      clear hy
      unfold tokV
      rintro e w7 ⟨rfl, hb7⟩
      have H8 := Lib.hid ((HD6.out.below hb7).below ((Below.refl _ _).alloc (Nat.le_refl _) (.cells #[.int .i64 (y.kd : Int), .string y.tx, .int .u64 (y.st.1 : Int), .int .u64 (y.st.2.1 : Int), .int .u64 (y.st.2.2.1 : Int), .int .u64 (y.st.2.2.2 : Int), .int .i64 (y.pos : Int)] 68)))
      have HU8 := Lib.hid ((HU6.out.then_below hb7).alloc (.cells #[.int .i64 (y.kd : Int), .string y.tx, .int .u64 (y.st.1 : Int), .int .u64 (y.st.2.1 : Int), .int .u64 (y.st.2.2.1 : Int), .int .u64 (y.st.2.2.2 : Int), .int .i64 (y.pos : Int)] 68))
      have HR8 := Lib.hid ((HR6.out.under hb7 HR6.out.lt).on_alloc (.cells #[.int .i64 (y.kd : Int), .string y.tx, .int .u64 (y.st.1 : Int), .int .u64 (y.st.2.1 : Int), .int .u64 (y.st.2.2.1 : Int), .int .u64 (y.st.2.2.2 : Int), .int .i64 (y.pos : Int)] 68))
      have HX8 := Lib.hid ((HX6.out.under hb7 HX6.out.lt).on_alloc (.cells #[.int .i64 (y.kd : Int), .string y.tx, .int .u64 (y.st.1 : Int), .int .u64 (y.st.2.1 : Int), .int .u64 (y.st.2.2.1 : Int), .int .u64 (y.st.2.2.2 : Int), .int .i64 (y.pos : Int)] 68))
      have HV := Lib.hid (Own.fresh w7 68 [.int .i64 (y.kd : Int), .string y.tx, .int .u64 (y.st.1 : Int), .int .u64 (y.st.2.1 : Int), .int .u64 (y.st.2.2.1 : Int), .int .u64 (y.st.2.2.2 : Int), .int .i64 (y.pos : Int)])
      have HGV := Lib.hid (show G < w7.heap.size from Nat.lt_of_lt_of_le HX6.out.lt hb7.size)
      clear hb7 HD6 HU6 HR6 HX6 x1 xl
      go_upto_region 8 with fail
      generalize World.alloc w7 _ = w8 at *
      generalize w7.heap.size = V at *
      have v0 : w8.cell? ⟨V, 0, none⟩ = some (.int .i64 (y.kd : Int)) := HV.out.cell 0
      have v1 : w8.cell? ⟨V, 1, none⟩ = some (.string y.tx) := HV.out.cell 1
      have vl := HV.out.lt
      have hkc : (((k + 2 : Nat) : Int)) = (k : Int) + 2 := by omega
      by_cases q1 : y.kd = 1
      · have i1 : ((y.kd : Int) != 1) = false := by simp [q1]
        have j1 : (y.kd == 1) = true := by simp [q1]
        rw [j1, Bool.true_and] at HSP
        clear q1 j1
        go_wp2_with fail
        refine (HW2.out _).mono ?_
        rintro e w9 ⟨rfl, rfl⟩
        cases hwy : wordB y.tx
        case false =>
          have HWY := Lib.hid hwy
          clear hwy
          have HE := Lib.hid (show RES = badF L 2 (k + 2) from by rw [HSP.out, if_neg (by rw [HWY.out]; decide)])
          go_wp2_with fail
          refine (HFL.out (k + 2) (by omega) _ H8.out).mono ?_
          rintro e w10 ⟨rfl, hbu, hrd⟩
          have HR9 := Lib.hid (HR8.out.but hbu (by have := HGN.out; omega))
          have HU9 := Lib.hid (HU8.out.trans hbu (fun _ _ h => h))
          have HD9 := Lib.hid hrd
          clear hbu hrd
          obtain ⟨z0, z1, z2, z3, z4, z5, z6, y0, y1, y2, y3, y4, y5, y6⟩ := HR9.out.seven2
          have zl := HR9.out.lt
          go_wp2
          rw [set7t_fold]
          have HF := HR9.out.put7 (u0 := (.int .i64 0)) (u1 := (.string ⟨#[]⟩)) (u2 := (.int .u64 0)) (u3 := (.int .u64 0)) (u4 := (.int .u64 0)) (u5 := (.int .u64 0)) (u6 := (.slice none 0 0))
          obtain ⟨hU, hR⟩ := Rd.fin HH.out (Nat.le_of_eq HNN.out) HU9.out HD9.out (.int .i64 0) (.string ⟨#[]⟩) (.int .u64 0) (.int .u64 0) (.int .u64 0) (.int .u64 0) (.slice none 0 0)
          clear z0 z1 z2 z3 z4 z5 z6 y0 y1 y2 y3 y4 y5 y6
          generalize set7t w10 N (.int .i64 0) (.string ⟨#[]⟩) (.int .u64 0) (.int .u64 0) (.int .u64 0) (.int .u64 0) (.slice none 0 0) = w9 at *
          obtain ⟨z0, z1, z2, z3, z4, z5, z6⟩ := HF.seven
          refine bodyPost_ret (by simp [results, Try.results76, go_sem, z0, z1, z2, z3, z4, z5, z6]; rfl) rfl ?_
          rw [HE.out]
          exact ⟨hU, ex0, none, 0, rfl, (show (2 : Int) ≠ 0 by decide), ⟨_, hR⟩⟩
        case true =>
          have HWY := Lib.hid hwy
          rw [if_pos hwy] at HSP
          clear hwy
          obtain ⟨c0, c1, c2, c3, c4, c5, cg⟩ := H8.out.1.six_r
          have cf : w8.frozen? ⟨g, 1, none⟩ = false := H8.out.1.thaw 1
          have H10 := Lib.hid (H8.out.at1 (k + 3) (.int .i64 ((k : Int) + 2 + 1)) (by rw [show (k : Int) + 2 + 1 = ((k + 3 : Nat) : Int) by omega]))
          have HU10 := Lib.hid (HU8.out.setCell (p := ⟨g, 1, none⟩) (fun _ => rfl) (.int .i64 ((k : Int) + 2 + 1)))
          have HR10 := Lib.hid (HR8.out.off (p := ⟨g, 1, none⟩) (by have := HGN.out; show N ≠ g; omega) (.int .i64 ((k : Int) + 2 + 1)))
          have HX10 := Lib.hid (HX8.out.off (p := ⟨g, 1, none⟩) (by have := HGN.out; have := HGX.out; show G ≠ g; omega) (.int .i64 ((k : Int) + 2 + 1)))
          have HV10 := Lib.hid (HV.out.off (p := ⟨g, 1, none⟩) (by have := HGN.out; have := HGX.out; have := HGV.out; show V ≠ g; omega) (.int .i64 ((k : Int) + 2 + 1)))
          go_upto_region 11 with fail
          clear c0 c1 c2 c3 c4 c5 cg cf H8 HU8 HR8 HX8 HV v0 v1 vl
          generalize World.setCell w8 _ _ = w10 at *
          have x1 : w10.cell? ⟨G, 1, none⟩ = some (.string t.tx) := HX10.out.cell 1
          have xl := HX10.out.lt
          have v1 : w10.cell? ⟨V, 1, none⟩ = some (.string y.tx) := HV10.out.cell 1
          have vl := HV10.out.lt
          have s1 := wordB_size HWB.out
          have s2 := wordB_size HWY.out
          have s3 : ¬ 9223372036854775807 < t.tx.size + 2 := by omega
          have s4 : ¬ 9223372036854775807 < t.tx.size + 2 + y.tx.size := by omega
          have HE := Lib.hid HSP.out
          obtain ⟨z0, z1, z2, z3, z4, z5, z6, y0, y1, y2, y3, y4, y5, y6⟩ := HR10.out.seven2
          have zl := HR10.out.lt
          go_wp2
          rw [set7t_fold]
          have HF := HR10.out.put7 (u0 := (.int .i64 11)) (u1 := (.string (t.tx ++ ⟨#[58, 58]⟩ ++ y.tx))) (u2 := (.int .u64 0)) (u3 := (.int .u64 0)) (u4 := (.int .u64 0)) (u5 := (.int .u64 0)) (u6 := (.slice none 0 0))
          obtain ⟨hU, hR⟩ := Rd.fin HH.out (Nat.le_of_eq HNN.out) HU10.out H10.out (.int .i64 11) (.string (t.tx ++ ⟨#[58, 58]⟩ ++ y.tx)) (.int .u64 0) (.int .u64 0) (.int .u64 0) (.int .u64 0) (.slice none 0 0)
          clear z0 z1 z2 z3 z4 z5 z6 y0 y1 y2 y3 y4 y5 y6
          generalize set7t w10 N (.int .i64 11) (.string (t.tx ++ ⟨#[58, 58]⟩ ++ y.tx)) (.int .u64 0) (.int .u64 0) (.int .u64 0) (.int .u64 0) (.slice none 0 0) = w9 at *
          obtain ⟨z0, z1, z2, z3, z4, z5, z6⟩ := HF.seven
          refine bodyPost_ret (by simp [results, Try.results76, go_sem, z0, z1, z2, z3, z4, z5, z6]; rfl) rfl ?_
          rw [HE.out]
          exact ⟨hU, _, none, 0, rfl, hR, rfl, 0, rfl⟩
      · have i1 : ((y.kd : Int) != 1) = true := by simp; omega
        have j1 : (y.kd == 1) = false := beq_eq_false_iff_ne.2 q1
        rw [j1, Bool.false_and] at HSP
        clear q1 j1
        have HE := Lib.hid (show RES = badF L 2 (k + 2) from by rw [HSP.out, if_neg (by decide)])
        go_wp2_with fail
        refine (HFL.out (k + 2) (by omega) _ H8.out).mono ?_
        rintro e w10 ⟨rfl, hbu, hrd⟩
        have HR9 := Lib.hid (HR8.out.but hbu (by have := HGN.out; omega))
        have HU9 := Lib.hid (HU8.out.trans hbu (fun _ _ h => h))
        have HD9 := Lib.hid hrd
        clear hbu hrd
        obtain ⟨z0, z1, z2, z3, z4, z5, z6, y0, y1, y2, y3, y4, y5, y6⟩ := HR9.out.seven2
        have zl := HR9.out.lt
        go_wp2
        rw [set7t_fold]
        have HF := HR9.out.put7 (u0 := (.int .i64 0)) (u1 := (.string ⟨#[]⟩)) (u2 := (.int .u64 0)) (u3 := (.int .u64 0)) (u4 := (.int .u64 0)) (u5 := (.int .u64 0)) (u6 := (.slice none 0 0))
        obtain ⟨hU, hR⟩ := Rd.fin HH.out (Nat.le_of_eq HNN.out) HU9.out HD9.out (.int .i64 0) (.string ⟨#[]⟩) (.int .u64 0) (.int .u64 0) (.int .u64 0) (.int .u64 0) (.slice none 0 0)
        clear z0 z1 z2 z3 z4 z5 z6 y0 y1 y2 y3 y4 y5 y6
        generalize set7t w10 N (.int .i64 0) (.string ⟨#[]⟩) (.int .u64 0) (.int .u64 0) (.int .u64 0) (.int .u64 0) (.slice none 0 0) = w9 at *
        obtain ⟨z0, z1, z2, z3, z4, z5, z6⟩ := HF.seven
        refine bodyPost_ret (by simp [results, Try.results76, go_sem, z0, z1, z2, z3, z4, z5, z6]; rfl) rfl ?_
        rw [HE.out]
        exact ⟨hU, ex0, none, 0, rfl, (show (2 : Int) ≠ 0 by decide), ⟨_, hR⟩⟩
end Go.Proofs.Ytihcmneidbjmlaa
