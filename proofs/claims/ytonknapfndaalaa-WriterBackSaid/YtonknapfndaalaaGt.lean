/- A reference, walked. A literal, a class, any byte, a reference, or what stands in parentheses, walked. -/
import Derived.Test.YtonknapfndaalaaGl
namespace Go.Proofs.Ytonknapfndaalaa
set_option linter.unusedVariables false
set_option maxRecDepth 1000000
open Go.RowKit Go.Sort
theorem Rd.fin {w w3 : World} {g N k0 k : Nat} {lo : Option Addr} {lc : Nat} {L : List Tok} {F0 F : Option (Int × Int)} (H0 : Rd w g lo lc L k0 F0) (hN : w.heap.size ≤ N) (HU : But (fun j => j = g) w w3) (H3 : Rd w3 g lo lc L k F) (u0 u1 u2 u3 u4 u5 u6 : Value) :
  But (fun j => j = g) w (set7t w3 N u0 u1 u2 u3 u4 u5 u6) ∧ Rd (set7t w3 N u0 u1 u2 u3 u4 u5 u6) g lo lc L k F := by
 have hU : But (fun j => j = g) w (set7t w3 N u0 u1 u2 u3 u4 u5 u6) := HU.trans (But.set7 w3 N u0 u1 u2 u3 u4 u5 u6) (fun j hj e => by omega)
 have hg := H0.1.lt
 exact ⟨hU, H3.1.but (But.set7 w3 N u0 u1 u2 u3 u4 u5 u6) (by omega), H0.2.1.but H0.2.2 hU, H0.2.2⟩
theorem wordB_size {s : ByteArray} (h : wordB s = true) : s.size ≤ 12 := by
 unfold wordB at h
 simp only [Bool.and_eq_true, decide_eq_true_eq] at h
 omega
theorem Rd.at1 {w : World} {g k : Nat} {lo : Option Addr} {lc : Nat} {L : List Tok} {F : Option (Int × Int)} (h : Rd w g lo lc L k F) (m : Nat) (v : Value) (hv : v = .int .i64 (m : Int)) : Rd (w.setCell ⟨g, 1, none⟩ v) g lo lc L m F := by
 subst hv
 exact ⟨h.1.put 1 _, h.2.1.but h.2.2 (But.put _ _ _ _), h.2.2⟩
@[go_sem 2000] theorem ebuild2 (k : Int) (t : ByteArray) (w : World) : (Instr.build 28 #[(0, .int .i64 k), (1, .string t)]).run Try.prog w = .ok (.agg #[.int .i64 k, .string t, .int .u64 0, .int .u64 0, .int .u64 0, .int .u64 0, .slice none 0 0]) w := by kernel_rfl
set_option maxRecDepth 1000000 in
set_option maxHeartbeats 1000000 in
theorem rd_ref (g : Nat) (lo : Option Addr) (lc : Nat) (L : List Tok) (k : Nat) (hn : (L.length : Int) ≤ 1000000) (hk : (k : Int) ≤ 100000) (htx : ∀ t ∈ L, t.tx.size ≤ 1000000) (w : World) (h : Rd w g lo lc L k none) :
  Calls Try.prog 117 #[.pointer (some ⟨g, 0, none⟩)] w fun e w' => Out w g lo lc L (refO L k) e w' := by
 have HH := Lib.hid h
 have HNW := Lib.hid (fun (m : Nat) (hm : (m : Int) ≤ 1000000) (W : World) (hW : Rd W g lo lc L m none) => rd_now g lo lc L m none hn hm W hW)
 have HTK := Lib.hid (fun (m : Nat) (hm : (m : Int) ≤ 1000000) (s : ByteArray) (W : World) (hW : Rd W g lo lc L m none) => rd_take s g lo lc L m none hn hm W hW)
 have HFL := Lib.hid (fun (m : Nat) (hm : (m : Int) ≤ 1000000) (W : World) (hW : Rd W g lo lc L m none) => show Calls Try.prog 31 #[.pointer (some ⟨g, 0, none⟩), .int .i64 2] W fun e w' => e = .returned (.agg #[.int .i64 0, .string ⟨#[]⟩, .int .u64 0, .int .u64 0, .int .u64 0, .int .u64 0, .slice none 0 0]) ∧ But (fun j => j = g) W w' ∧ Rd w' g lo lc L m (some (2, ((tkA L m).pos : Int))) from rd_fail 2 g lo lc L m hn hm W hW)
 have HWD := Lib.hid (fun (m : Nat) (W : World) => rword_any (tkA L m).tx (by
  unfold tkA
  rw [List.getD_eq_getElem?_getD]
  cases hq : L[m]? with
  | none => show (0 : Nat) ≤ maxLen; exact Nat.zero_le _
  | some t => have := htx t (List.mem_of_getElem? hq); show t.tx.size ≤ maxLen; unfold maxLen; omega) W)
 have HR := Lib.hid (Own.fresh w 28 [.int .i64 0, .string ⟨#[]⟩, .int .u64 0, .int .u64 0, .int .u64 0, .int .u64 0, .slice none 0 0])
 have H1 := Lib.hid (h.below ((Below.refl _ _).alloc (Nat.le_refl _) (.cells #[.int .i64 0, .string ⟨#[]⟩, .int .u64 0, .int .u64 0, .int .u64 0, .int .u64 0, .slice none 0 0] 28)))
 have HU := Lib.hid (But.of_below (S := fun j => j = g) ((Below.refl w.heap.size w).alloc (Nat.le_refl _) (.cells #[.int .i64 0, .string ⟨#[]⟩, .int .u64 0, .int .u64 0, .int .u64 0, .int .u64 0, .slice none 0 0] 28)))
 have HGN := Lib.hid (show g < w.heap.size from h.1.lt)
 have HSP := Lib.hid (show refO L k = if wordB (tkA L k).tx = true then (if isS L (k + 1) [58, 58] = true then (if ((tkA L (k + 2)).kd == 1 && wordB (tkA L (k + 2)).tx) = true then .ok (leafX 11 ((tkA L k).tx ++ ⟨#[58, 58]⟩ ++ (tkA L (k + 2)).tx), k + 3) else badF L 2 (k + 2)) else .ok (leafX 11 (tkA L k).tx, k + 1)) else badF L 2 k from rfl)
 generalize refO L k = RES at *
 clear h
 have hw1 : IntKind.i64.wrap ((k : Int) + 1) = (k : Int) + 1 := by rw [IntKind.wrap_i64]; omega
 have hw2 : IntKind.i64.wrap ((k : Int) + 2 + 1) = (k : Int) + 2 + 1 := by rw [IntKind.wrap_i64]; omega
 go_enter Try.func117, Try.ntmps117
 go_upto_region 1 with fail
 generalize World.alloc w _ = w1 at *
 obtain ⟨N, hN⟩ : ∃ N, w.heap.size = N := ⟨_, rfl⟩
 rw [hN] at HR HGN
 rw [hN]
 have HNN := Lib.hid hN
 clear hN
 go_wp2_with fail
 refine (HNW.out k (by omega) _ H1.out).mono ?_
 obtain ⟨t, ht⟩ : ∃ t, tkA L k = t := ⟨_, rfl⟩
 have HT := Lib.hid ht
 rw [ht] at HSP
 have HW1 := Lib.hid (HWD.out k)
 rw [ht] at HW1 ⊢
 clear ht
 unfold tokV
 rintro e w2 ⟨rfl, hb2⟩
 have H2 := Lib.hid ((H1.out.below hb2).below ((Below.refl _ _).alloc (Nat.le_refl _) (.cells #[.int .i64 (t.kd : Int), .string t.tx, .int .u64 (t.st.1 : Int), .int .u64 (t.st.2.1 : Int), .int .u64 (t.st.2.2.1 : Int), .int .u64 (t.st.2.2.2 : Int), .int .i64 (t.pos : Int)] 48)))
 have HU2 := Lib.hid ((HU.out.then_below hb2).alloc (.cells #[.int .i64 (t.kd : Int), .string t.tx, .int .u64 (t.st.1 : Int), .int .u64 (t.st.2.1 : Int), .int .u64 (t.st.2.2.1 : Int), .int .u64 (t.st.2.2.2 : Int), .int .i64 (t.pos : Int)] 48))
 have HR2 := Lib.hid ((HR.out.under hb2 HR.out.lt).on_alloc (.cells #[.int .i64 (t.kd : Int), .string t.tx, .int .u64 (t.st.1 : Int), .int .u64 (t.st.2.1 : Int), .int .u64 (t.st.2.2.1 : Int), .int .u64 (t.st.2.2.2 : Int), .int .i64 (t.pos : Int)] 48))
 have HX := Lib.hid (Own.fresh w2 48 [.int .i64 (t.kd : Int), .string t.tx, .int .u64 (t.st.1 : Int), .int .u64 (t.st.2.1 : Int), .int .u64 (t.st.2.2.1 : Int), .int .u64 (t.st.2.2.2 : Int), .int .i64 (t.pos : Int)])
 have HGX := Lib.hid (show N < w2.heap.size from Nat.lt_of_lt_of_le HR.out.lt hb2.size)
 clear hb2 H1 HU HR
 go_upto_region 2 with fail
 generalize World.alloc w2 _ = w3 at *
 generalize w2.heap.size = G at *
 have x1 : w3.cell? ⟨G, 1, none⟩ = some (.string t.tx) := HX.out.cell 1
 have xl := HX.out.lt
 go_wp2_with fail
 refine (HW1.out _).mono ?_
 rintro e w4 ⟨rfl, rfl⟩
 cases hwb : wordB t.tx
 case false =>
  have HWB := Lib.hid hwb
  clear hwb
  have HE := Lib.hid (show RES = badF L 2 (k) from by rw [HSP.out, if_neg (by rw [HWB.out]; decide)])
  go_wp2_with fail
  refine (HFL.out (k) (by omega) _ H2.out).mono ?_
  rintro e w5 ⟨rfl, hbu, hrd⟩
  have HR9 := Lib.hid (HR2.out.but hbu (by have := HGN.out; omega))
  have HU9 := Lib.hid (HU2.out.trans hbu (fun _ _ h => h))
  have HD9 := Lib.hid hrd
  clear hbu hrd
  obtain ⟨z0, z1, z2, z3, z4, z5, z6, y0, y1, y2, y3, y4, y5, y6⟩ := HR9.out.seven2
  have zl := HR9.out.lt
  go_wp2
  rw [set7t_fold]
  have HF := HR9.out.put7 (u0 := (.int .i64 0)) (u1 := (.string ⟨#[]⟩)) (u2 := (.int .u64 0)) (u3 := (.int .u64 0)) (u4 := (.int .u64 0)) (u5 := (.int .u64 0)) (u6 := (.slice none 0 0))
  obtain ⟨hU, hR⟩ := Rd.fin HH.out (Nat.le_of_eq HNN.out) HU9.out HD9.out (.int .i64 0) (.string ⟨#[]⟩) (.int .u64 0) (.int .u64 0) (.int .u64 0) (.int .u64 0) (.slice none 0 0)
  clear z0 z1 z2 z3 z4 z5 z6 y0 y1 y2 y3 y4 y5 y6
  generalize set7t w5 N (.int .i64 0) (.string ⟨#[]⟩) (.int .u64 0) (.int .u64 0) (.int .u64 0) (.int .u64 0) (.slice none 0 0) = w9 at *
  obtain ⟨z0, z1, z2, z3, z4, z5, z6⟩ := HF.seven
  refine bodyPost_ret (by simp [results, Try.results117, go_sem, z0, z1, z2, z3, z4, z5, z6]; rfl) rfl ?_
  rw [HE.out]
  exact ⟨hU, ex0, none, 0, rfl, (show (2 : Int) ≠ 0 by decide), ⟨_, hR⟩⟩
 case true =>
  have HWB := Lib.hid hwb
  clear hwb
  rw [if_pos HWB.out] at HSP
  obtain ⟨c0, c1, c2, c3, c4, c5, cg⟩ := H2.out.1.six_r
  have cf : w3.frozen? ⟨g, 1, none⟩ = false := H2.out.1.thaw 1
  have H5 := Lib.hid (H2.out.at1 (k + 1) (.int .i64 ((k : Int) + 1)) (by simp))
  have HU5 := Lib.hid (HU2.out.setCell (p := ⟨g, 1, none⟩) (fun _ => rfl) (.int .i64 ((k : Int) + 1)))
  have HR5 := Lib.hid (HR2.out.off (p := ⟨g, 1, none⟩) (by have := HGN.out; show N ≠ g; omega) (.int .i64 ((k : Int) + 1)))
  have HX5 := Lib.hid (HX.out.off (p := ⟨g, 1, none⟩) (by have := HGN.out; have := HGX.out; show G ≠ g; omega) (.int .i64 ((k : Int) + 1)))
  go_upto_region 5 with fail
  clear c0 c1 c2 c3 c4 c5 cg cf H2 HU2 HR2 HX x1 xl
  generalize World.setCell w3 _ _ = w5 at *
  obtain ⟨zs, hzs⟩ : ∃ z, isS L (k + 1) [58, 58] = z := ⟨_, rfl⟩
  have HTT := Lib.hid (HTK.out (k + 1) (by omega) ⟨#[58, 58]⟩ w5 H5.out)
  rw [show (⟨#[58, 58]⟩ : ByteArray).data.toList = [58, 58] from rfl, hzs] at HTT
  rw [hzs] at HSP
  clear hzs
  go_wp2_with fail
  refine HTT.out.mono ?_
  rintro e w6 ⟨rfl, hbu, hrd⟩
  have HR6 := Lib.hid (HR5.out.but hbu (by have := HGN.out; omega))
  have HX6 := Lib.hid (HX5.out.but hbu (by have := HGN.out; have := HGX.out; omega))
  have HU6 := Lib.hid (HU5.out.trans hbu (fun _ _ h => h))
  have H6 := Lib.hid hrd
  have x1 : w6.cell? ⟨G, 1, none⟩ = some (.string t.tx) := HX6.out.cell 1
  have xl := HX6.out.lt
  clear hbu hrd HTT H5 HU5 HR5 HX5
  cases zs
  case false =>
   rw [if_neg (by decide)] at HSP
   have HD6 := Lib.hid (show Rd w6 g lo lc L (k + 1) none from H6.out)
   have HE := Lib.hid HSP.out
   obtain ⟨z0, z1, z2, z3, z4, z5, z6, y0, y1, y2, y3, y4, y5, y6⟩ := HR6.out.seven2
   have zl := HR6.out.lt
   go_wp2
   rw [set7t_fold]
   have HF := HR6.out.put7 (u0 := (.int .i64 11)) (u1 := (.string t.tx)) (u2 := (.int .u64 0)) (u3 := (.int .u64 0)) (u4 := (.int .u64 0)) (u5 := (.int .u64 0)) (u6 := (.slice none 0 0))
   obtain ⟨hU, hR⟩ := Rd.fin HH.out (Nat.le_of_eq HNN.out) HU6.out HD6.out (.int .i64 11) (.string t.tx) (.int .u64 0) (.int .u64 0) (.int .u64 0) (.int .u64 0) (.slice none 0 0)
   clear z0 z1 z2 z3 z4 z5 z6 y0 y1 y2 y3 y4 y5 y6
   generalize set7t w6 N (.int .i64 11) (.string t.tx) (.int .u64 0) (.int .u64 0) (.int .u64 0) (.int .u64 0) (.slice none 0 0) = w9 at *
   obtain ⟨z0, z1, z2, z3, z4, z5, z6⟩ := HF.seven
   refine bodyPost_ret (by simp [results, Try.results117, go_sem, z0, z1, z2, z3, z4, z5, z6]; rfl) rfl ?_
   rw [HE.out]
   exact ⟨hU, _, none, 0, rfl, hR, rfl, 0, rfl⟩
  case true =>
   rw [if_pos rfl] at HSP
   have HD6 := Lib.hid (show Rd w6 g lo lc L (k + 2) none from H6.out)
   clear H6
   go_wp2_with fail
   refine (HNW.out (k + 2) (by omega) _ HD6.out).mono ?_
   obtain ⟨y, hy⟩ : ∃ y, tkA L (k + 2) = y := ⟨_, rfl⟩
   have HY := Lib.hid hy
   rw [hy] at HSP
   have HW2 := Lib.hid (HWD.out (k + 2))
   rw [hy] at HW2 ⊢
   clear hy
   unfold tokV
   rintro e w7 ⟨rfl, hb7⟩
   have H8 := Lib.hid ((HD6.out.below hb7).below ((Below.refl _ _).alloc (Nat.le_refl _) (.cells #[.int .i64 (y.kd : Int), .string y.tx, .int .u64 (y.st.1 : Int), .int .u64 (y.st.2.1 : Int), .int .u64 (y.st.2.2.1 : Int), .int .u64 (y.st.2.2.2 : Int), .int .i64 (y.pos : Int)] 48)))
   have HU8 := Lib.hid ((HU6.out.then_below hb7).alloc (.cells #[.int .i64 (y.kd : Int), .string y.tx, .int .u64 (y.st.1 : Int), .int .u64 (y.st.2.1 : Int), .int .u64 (y.st.2.2.1 : Int), .int .u64 (y.st.2.2.2 : Int), .int .i64 (y.pos : Int)] 48))
   have HR8 := Lib.hid ((HR6.out.under hb7 HR6.out.lt).on_alloc (.cells #[.int .i64 (y.kd : Int), .string y.tx, .int .u64 (y.st.1 : Int), .int .u64 (y.st.2.1 : Int), .int .u64 (y.st.2.2.1 : Int), .int .u64 (y.st.2.2.2 : Int), .int .i64 (y.pos : Int)] 48))
   have HX8 := Lib.hid ((HX6.out.under hb7 HX6.out.lt).on_alloc (.cells #[.int .i64 (y.kd : Int), .string y.tx, .int .u64 (y.st.1 : Int), .int .u64 (y.st.2.1 : Int), .int .u64 (y.st.2.2.1 : Int), .int .u64 (y.st.2.2.2 : Int), .int .i64 (y.pos : Int)] 48))
   have HV := Lib.hid (Own.fresh w7 48 [.int .i64 (y.kd : Int), .string y.tx, .int .u64 (y.st.1 : Int), .int .u64 (y.st.2.1 : Int), .int .u64 (y.st.2.2.1 : Int), .int .u64 (y.st.2.2.2 : Int), .int .i64 (y.pos : Int)])
   have HGV := Lib.hid (show G < w7.heap.size from Nat.lt_of_lt_of_le HX6.out.lt hb7.size)
   clear hb7 HD6 HU6 HR6 HX6 x1 xl
   go_upto_region 8 with fail
   generalize World.alloc w7 _ = w8 at *
   generalize w7.heap.size = V at *
   have v0 : w8.cell? ⟨V, 0, none⟩ = some (.int .i64 (y.kd : Int)) := HV.out.cell 0
   have v1 : w8.cell? ⟨V, 1, none⟩ = some (.string y.tx) := HV.out.cell 1
   have vl := HV.out.lt
   have hkc : (((k + 2 : Nat) : Int)) = (k : Int) + 2 := by omega
   by_cases q1 : y.kd = 1
   ·
    have i1 : ((y.kd : Int) != 1) = false := by simp [q1]
    have j1 : (y.kd == 1) = true := by simp [q1]
    rw [j1, Bool.true_and] at HSP
    clear q1 j1
    go_wp2_with fail
    refine (HW2.out _).mono ?_
    rintro e w9 ⟨rfl, rfl⟩
    cases hwy : wordB y.tx
    case false =>
     have HWY := Lib.hid hwy
     clear hwy
     have HE := Lib.hid (show RES = badF L 2 (k + 2) from by rw [HSP.out, if_neg (by rw [HWY.out]; decide)])
     go_wp2_with fail
     refine (HFL.out (k + 2) (by omega) _ H8.out).mono ?_
     rintro e w10 ⟨rfl, hbu, hrd⟩
     have HR9 := Lib.hid (HR8.out.but hbu (by have := HGN.out; omega))
     have HU9 := Lib.hid (HU8.out.trans hbu (fun _ _ h => h))
     have HD9 := Lib.hid hrd
     clear hbu hrd
     obtain ⟨z0, z1, z2, z3, z4, z5, z6, y0, y1, y2, y3, y4, y5, y6⟩ := HR9.out.seven2
     have zl := HR9.out.lt
     go_wp2
     rw [set7t_fold]
     have HF := HR9.out.put7 (u0 := (.int .i64 0)) (u1 := (.string ⟨#[]⟩)) (u2 := (.int .u64 0)) (u3 := (.int .u64 0)) (u4 := (.int .u64 0)) (u5 := (.int .u64 0)) (u6 := (.slice none 0 0))
     obtain ⟨hU, hR⟩ := Rd.fin HH.out (Nat.le_of_eq HNN.out) HU9.out HD9.out (.int .i64 0) (.string ⟨#[]⟩) (.int .u64 0) (.int .u64 0) (.int .u64 0) (.int .u64 0) (.slice none 0 0)
     clear z0 z1 z2 z3 z4 z5 z6 y0 y1 y2 y3 y4 y5 y6
     generalize set7t w10 N (.int .i64 0) (.string ⟨#[]⟩) (.int .u64 0) (.int .u64 0) (.int .u64 0) (.int .u64 0) (.slice none 0 0) = w9 at *
     obtain ⟨z0, z1, z2, z3, z4, z5, z6⟩ := HF.seven
     refine bodyPost_ret (by simp [results, Try.results117, go_sem, z0, z1, z2, z3, z4, z5, z6]; rfl) rfl ?_
     rw [HE.out]
     exact ⟨hU, ex0, none, 0, rfl, (show (2 : Int) ≠ 0 by decide), ⟨_, hR⟩⟩
    case true =>
     have HWY := Lib.hid hwy
     rw [if_pos hwy] at HSP
     clear hwy
     obtain ⟨c0, c1, c2, c3, c4, c5, cg⟩ := H8.out.1.six_r
     have cf : w8.frozen? ⟨g, 1, none⟩ = false := H8.out.1.thaw 1
     have H10 := Lib.hid (H8.out.at1 (k + 3) (.int .i64 ((k : Int) + 2 + 1)) (by rw [show (k : Int) + 2 + 1 = ((k + 3 : Nat) : Int) by omega]))
     have HU10 := Lib.hid (HU8.out.setCell (p := ⟨g, 1, none⟩) (fun _ => rfl) (.int .i64 ((k : Int) + 2 + 1)))
     have HR10 := Lib.hid (HR8.out.off (p := ⟨g, 1, none⟩) (by have := HGN.out; show N ≠ g; omega) (.int .i64 ((k : Int) + 2 + 1)))
     have HX10 := Lib.hid (HX8.out.off (p := ⟨g, 1, none⟩) (by have := HGN.out; have := HGX.out; show G ≠ g; omega) (.int .i64 ((k : Int) + 2 + 1)))
     have HV10 := Lib.hid (HV.out.off (p := ⟨g, 1, none⟩) (by have := HGN.out; have := HGX.out; have := HGV.out; show V ≠ g; omega) (.int .i64 ((k : Int) + 2 + 1)))
     go_upto_region 11 with fail
     clear c0 c1 c2 c3 c4 c5 cg cf H8 HU8 HR8 HX8 HV v0 v1 vl
     generalize World.setCell w8 _ _ = w10 at *
     have x1 : w10.cell? ⟨G, 1, none⟩ = some (.string t.tx) := HX10.out.cell 1
     have xl := HX10.out.lt
     have v1 : w10.cell? ⟨V, 1, none⟩ = some (.string y.tx) := HV10.out.cell 1
     have vl := HV10.out.lt
     have s1 := wordB_size HWB.out
     have s2 := wordB_size HWY.out
     have s3 : ¬ 9223372036854775807 < t.tx.size + 2 := by omega
     have s4 : ¬ 9223372036854775807 < t.tx.size + 2 + y.tx.size := by omega
     have HE := Lib.hid HSP.out
     obtain ⟨z0, z1, z2, z3, z4, z5, z6, y0, y1, y2, y3, y4, y5, y6⟩ := HR10.out.seven2
     have zl := HR10.out.lt
     go_wp2
     rw [set7t_fold]
     have HF := HR10.out.put7 (u0 := (.int .i64 11)) (u1 := (.string (t.tx ++ ⟨#[58, 58]⟩ ++ y.tx))) (u2 := (.int .u64 0)) (u3 := (.int .u64 0)) (u4 := (.int .u64 0)) (u5 := (.int .u64 0)) (u6 := (.slice none 0 0))
     obtain ⟨hU, hR⟩ := Rd.fin HH.out (Nat.le_of_eq HNN.out) HU10.out H10.out (.int .i64 11) (.string (t.tx ++ ⟨#[58, 58]⟩ ++ y.tx)) (.int .u64 0) (.int .u64 0) (.int .u64 0) (.int .u64 0) (.slice none 0 0)
     clear z0 z1 z2 z3 z4 z5 z6 y0 y1 y2 y3 y4 y5 y6
     generalize set7t w10 N (.int .i64 11) (.string (t.tx ++ ⟨#[58, 58]⟩ ++ y.tx)) (.int .u64 0) (.int .u64 0) (.int .u64 0) (.int .u64 0) (.slice none 0 0) = w9 at *
     obtain ⟨z0, z1, z2, z3, z4, z5, z6⟩ := HF.seven
     refine bodyPost_ret (by simp [results, Try.results117, go_sem, z0, z1, z2, z3, z4, z5, z6]; rfl) rfl ?_
     rw [HE.out]
     exact ⟨hU, _, none, 0, rfl, hR, rfl, 0, rfl⟩
   ·
    have i1 : ((y.kd : Int) != 1) = true := by simp; omega
    have j1 : (y.kd == 1) = false := beq_eq_false_iff_ne.2 q1
    rw [j1, Bool.false_and] at HSP
    clear q1 j1
    have HE := Lib.hid (show RES = badF L 2 (k + 2) from by rw [HSP.out, if_neg (by decide)])
    go_wp2_with fail
    refine (HFL.out (k + 2) (by omega) _ H8.out).mono ?_
    rintro e w10 ⟨rfl, hbu, hrd⟩
    have HR9 := Lib.hid (HR8.out.but hbu (by have := HGN.out; omega))
    have HU9 := Lib.hid (HU8.out.trans hbu (fun _ _ h => h))
    have HD9 := Lib.hid hrd
    clear hbu hrd
    obtain ⟨z0, z1, z2, z3, z4, z5, z6, y0, y1, y2, y3, y4, y5, y6⟩ := HR9.out.seven2
    have zl := HR9.out.lt
    go_wp2
    rw [set7t_fold]
    have HF := HR9.out.put7 (u0 := (.int .i64 0)) (u1 := (.string ⟨#[]⟩)) (u2 := (.int .u64 0)) (u3 := (.int .u64 0)) (u4 := (.int .u64 0)) (u5 := (.int .u64 0)) (u6 := (.slice none 0 0))
    obtain ⟨hU, hR⟩ := Rd.fin HH.out (Nat.le_of_eq HNN.out) HU9.out HD9.out (.int .i64 0) (.string ⟨#[]⟩) (.int .u64 0) (.int .u64 0) (.int .u64 0) (.int .u64 0) (.slice none 0 0)
    clear z0 z1 z2 z3 z4 z5 z6 y0 y1 y2 y3 y4 y5 y6
    generalize set7t w10 N (.int .i64 0) (.string ⟨#[]⟩) (.int .u64 0) (.int .u64 0) (.int .u64 0) (.int .u64 0) (.slice none 0 0) = w9 at *
    obtain ⟨z0, z1, z2, z3, z4, z5, z6⟩ := HF.seven
    refine bodyPost_ret (by simp [results, Try.results117, go_sem, z0, z1, z2, z3, z4, z5, z6]; rfl) rfl ?_
    rw [HE.out]
    exact ⟨hU, ex0, none, 0, rfl, (show (2 : Int) ≠ 0 by decide), ⟨_, hR⟩⟩
end Go.Proofs.Ytonknapfndaalaa

namespace Go.Proofs.Ytonknapfndaalaa
set_option linter.unusedVariables false
set_option maxRecDepth 1000000
open Go.RowKit Go.Sort
@[go_sem 2000] theorem ebuildS (k a b c d : Int) (w : World) : (Instr.build 28 #[(0, .int .i64 k), (2, .agg #[.int .u64 a, .int .u64 b, .int .u64 c, .int .u64 d])]).run Try.prog w = .ok (.agg #[.int .i64 k, .string ⟨#[]⟩, .int .u64 a, .int .u64 b, .int .u64 c, .int .u64 d, .slice none 0 0]) w := by kernel_rfl
@[go_sem 2000] theorem ebuild1 (k : Int) (w : World) : (Instr.build 28 #[(0, .int .i64 k)]).run Try.prog w = .ok (.agg #[.int .i64 k, .string ⟨#[]⟩, .int .u64 0, .int .u64 0, .int .u64 0, .int .u64 0, .slice none 0 0]) w := by kernel_rfl
theorem tkA_lt {L : List Tok} {k : Nat} (h : (tkA L k).kd ≠ 0) : k < L.length := by
 rcases Nat.lt_or_ge k L.length with h1 | h1
 ·
  exact h1
 ·
  rw [tkA_out h1] at h; exact absurd rfl h
theorem isS_lt {L : List Tok} {k : Nat} {s : List UInt8} (h : isS L k s = true) : k < L.length := by
 unfold isS at h
 rw [Bool.and_eq_true, beq_iff_eq] at h
 exact tkA_lt (by rw [h.1]; decide)
theorem OutQ.below {w w' : World} {g : Nat} {lo : Option Addr} {lc : Nat} {L : List Tok} {r : Rs} {D : Nat} {X : Ex} {ko : Option Addr} {w0 : World} (h : OutQ w0 g lo lc L r D X ko w) (hb : Below w.heap.size w w') : OutQ w0 g lo lc L r D X ko w' := by
 cases r with
 | ok q =>
  obtain ⟨x, m⟩ := q
  obtain ⟨h1, h2, n, h3⟩ := h
  exact ⟨h1.below hb, h2, n, HasE.but (But.of_below (S := fun _ => False) hb) (fun _ h => h.elim) h3⟩
 | error f =>
  obtain ⟨h1, k, h2⟩ := h
  exact ⟨h1, k, h2.below hb⟩
theorem Rd.set7 {w w3 : World} {g N k0 : Nat} {lo : Option Addr} {lc : Nat} {L : List Tok} {r : Rs} {D D' : Nat} {X : Ex} {ko : Option Addr} (H0 : Rd w g lo lc L k0 none) (hN : w.heap.size ≤ N) (hD : N < D) (hD' : D' ≤ D) (HU : But (fun j => j = g) w w3)
  (h : OutQ w g lo lc L r D X ko w3) (u0 u1 u2 u3 u4 u5 u6 : Value) : But (fun j => j = g) w (set7t w3 N u0 u1 u2 u3 u4 u5 u6) ∧ OutQ w g lo lc L r D' X ko (set7t w3 N u0 u1 u2 u3 u4 u5 u6) := by
 cases r with
 | ok q =>
  obtain ⟨x, m⟩ := q
  obtain ⟨h1, rfl, n, h2⟩ := h
  obtain ⟨a, b⟩ := Rd.fin (N := N) H0 hN HU h1 u0 u1 u2 u3 u4 u5 u6
  exact ⟨a, b, rfl, n, HasE.low hD' (HasE.but (But.set7 w3 N u0 u1 u2 u3 u4 u5 u6) (fun j hj => by omega) h2)⟩
 | error f =>
  obtain ⟨h1, k, h2⟩ := h
  obtain ⟨a, b⟩ := Rd.fin (N := N) H0 hN HU h2 u0 u1 u2 u3 u4 u5 u6
  exact ⟨a, h1, k, b⟩
set_option maxRecDepth 1000000 in
set_option maxHeartbeats 1600000 in
theorem rd_prim (X : Nat → Rs) (big : Bool) (dp : Int) (hd : 0 ≤ dp ∧ dp ≤ 12) (hbig : big = decide (12 ≤ dp)) (g : Nat) (lo : Option Addr) (lc : Nat) (L : List Tok) (k : Nat) (hn : (L.length : Int) ≤ 90000) (hk : k ≤ L.length) (htx : ∀ t ∈ L, t.tx.size ≤ 1000000)
  (HXL : ∀ (j : Nat) (x : Ex) (m : Nat), j ≤ L.length → X j = .ok (x, m) → m ≤ L.length) (HX : big = false → ∀ (m : Nat), m ≤ L.length → ∀ W, Rd W g lo lc L m none → Calls Try.prog 30 #[.pointer (some ⟨g, 0, none⟩), .int .i64 (dp + 1)] W fun e w' => Out W g lo lc L (X m) e w') (w : World) (h : Rd w g lo lc L k none) :
  Calls Try.prog 109 #[.pointer (some ⟨g, 0, none⟩), .int .i64 dp] w fun e w' => Out w g lo lc L (primO L X big k) e w' := by
 have HH := Lib.hid h
 have HXX := Lib.hid HX
 have HNW := Lib.hid (fun (W : World) (hW : Rd W g lo lc L k none) => rd_now g lo lc L k none (by omega) (by omega) W hW)
 have HTK := Lib.hid (fun (m : Nat) (hm : (m : Int) ≤ 1000000) (s : ByteArray) (W : World) (hW : Rd W g lo lc L m none) => rd_take s g lo lc L m none (by omega) hm W hW)
 have HIS := Lib.hid (fun (s : ByteArray) (W : World) (hW : Rd W g lo lc L k none) => rd_is s g lo lc L k none (by omega) (by omega) W hW)
 have HFL := Lib.hid (fun (c : Int) (m : Nat) (hm : (m : Int) ≤ 1000000) (W : World) (hW : Rd W g lo lc L m none) => show Calls Try.prog 31 #[.pointer (some ⟨g, 0, none⟩), .int .i64 c] W fun e w' => e = .returned (.agg #[.int .i64 0, .string ⟨#[]⟩, .int .u64 0, .int .u64 0, .int .u64 0, .int .u64 0, .slice none 0 0]) ∧ But (fun j => j = g) W w' ∧ Rd w' g lo lc L m (some (c, ((tkA L m).pos : Int))) from rd_fail c g lo lc L m (by omega) hm W hW)
 have HRF := Lib.hid (fun (W : World) (hW : Rd W g lo lc L k none) => rd_ref g lo lc L k (by omega) (by omega) htx W hW)
 have HR := Lib.hid (Own.fresh w 28 [.int .i64 0, .string ⟨#[]⟩, .int .u64 0, .int .u64 0, .int .u64 0, .int .u64 0, .slice none 0 0])
 have H1 := Lib.hid (h.below ((Below.refl _ _).alloc (Nat.le_refl _) (.cells #[.int .i64 0, .string ⟨#[]⟩, .int .u64 0, .int .u64 0, .int .u64 0, .int .u64 0, .slice none 0 0] 28)))
 have HU := Lib.hid (But.of_below (S := fun j => j = g) ((Below.refl w.heap.size w).alloc (Nat.le_refl _) (.cells #[.int .i64 0, .string ⟨#[]⟩, .int .u64 0, .int .u64 0, .int .u64 0, .int .u64 0, .slice none 0 0] 28)))
 have HGN := Lib.hid (show g < w.heap.size from h.1.lt)
 have HSP := Lib.hid (show primO L X big k = if (tkA L k).kd = 2 then .ok (leafX 1 (tkA L k).tx, k + 1)
  else if (tkA L k).kd = 3 then .ok (.mk 2 ⟨#[]⟩ ((tkA L k).st.1 : Int) ((tkA L k).st.2.1 : Int) ((tkA L k).st.2.2.1 : Int) ((tkA L k).st.2.2.2 : Int) [], k + 1)
  else if (tkA L k).kd = 1 then refO L k
  else if isS L k [46] = true then .ok (leafX 3 ⟨#[]⟩, k + 1)
  else if isS L k [40] = true then
   (if big = true then badF L 3 k
    else match X (k + 1) with
     | .ok (e, m) => if isS L m [41] = true then .ok (e, m + 1) else badF L 2 m
     | .error e => .error e)
  else badF L 2 k from rfl)
 generalize primO L X big k = RES at *
 clear h HX
 have hw1 : IntKind.i64.wrap ((k : Int) + 1) = (k : Int) + 1 := by rw [IntKind.wrap_i64]; omega
 have hwd : IntKind.i64.wrap (dp + 1) = dp + 1 := by rw [IntKind.wrap_i64]; omega
 go_enter Try.func109, Try.ntmps109
 go_upto_region 1 with fail
 generalize World.alloc w _ = w1 at *
 obtain ⟨N, hN⟩ : ∃ N, w.heap.size = N := ⟨_, rfl⟩
 rw [hN] at HR HGN
 rw [hN]
 have HNN := Lib.hid hN
 clear hN
 go_wp2_with fail
 refine (HNW.out _ H1.out).mono ?_
 obtain ⟨t, ht⟩ : ∃ t, tkA L k = t := ⟨_, rfl⟩
 have HT := Lib.hid ht
 rw [ht] at HSP ⊢
 clear ht
 unfold tokV
 rintro e w2 ⟨rfl, hb2⟩
 have H2 := Lib.hid ((H1.out.below hb2).below ((Below.refl _ _).alloc (Nat.le_refl _) (.cells #[.int .i64 (t.kd : Int), .string t.tx, .int .u64 (t.st.1 : Int), .int .u64 (t.st.2.1 : Int), .int .u64 (t.st.2.2.1 : Int), .int .u64 (t.st.2.2.2 : Int), .int .i64 (t.pos : Int)] 48)))
 have HU2 := Lib.hid ((HU.out.then_below hb2).alloc (.cells #[.int .i64 (t.kd : Int), .string t.tx, .int .u64 (t.st.1 : Int), .int .u64 (t.st.2.1 : Int), .int .u64 (t.st.2.2.1 : Int), .int .u64 (t.st.2.2.2 : Int), .int .i64 (t.pos : Int)] 48))
 have HR2 := Lib.hid ((HR.out.under hb2 HR.out.lt).on_alloc (.cells #[.int .i64 (t.kd : Int), .string t.tx, .int .u64 (t.st.1 : Int), .int .u64 (t.st.2.1 : Int), .int .u64 (t.st.2.2.1 : Int), .int .u64 (t.st.2.2.2 : Int), .int .i64 (t.pos : Int)] 48))
 have HX := Lib.hid (Own.fresh w2 48 [.int .i64 (t.kd : Int), .string t.tx, .int .u64 (t.st.1 : Int), .int .u64 (t.st.2.1 : Int), .int .u64 (t.st.2.2.1 : Int), .int .u64 (t.st.2.2.2 : Int), .int .i64 (t.pos : Int)])
 have HGX := Lib.hid (show N < w2.heap.size from Nat.lt_of_lt_of_le HR.out.lt hb2.size)
 clear hb2 H1 HU HR
 go_upto_region 2 with fail
 generalize World.alloc w2 _ = w3 at *
 generalize w2.heap.size = G at *
 have x0 : w3.cell? ⟨G, 0, none⟩ = some (.int .i64 (t.kd : Int)) := HX.out.cell 0
 have x1 : w3.cell? ⟨G, 1, none⟩ = some (.string t.tx) := HX.out.cell 1
 have x2 : w3.cell? ⟨G, 2, none⟩ = some (.int .u64 (t.st.1 : Int)) := HX.out.cell 2
 have x3 : w3.cell? ⟨G, 3, none⟩ = some (.int .u64 (t.st.2.1 : Int)) := HX.out.cell 3
 have x4 : w3.cell? ⟨G, 4, none⟩ = some (.int .u64 (t.st.2.2.1 : Int)) := HX.out.cell 4
 have x5 : w3.cell? ⟨G, 5, none⟩ = some (.int .u64 (t.st.2.2.2 : Int)) := HX.out.cell 5
 have xl := HX.out.lt
 by_cases q2 : t.kd = 2
 ·
  have i2 : ((t.kd : Int) == 2) = true := by simp [q2]
  have HE := Lib.hid (show RES = _ from by rw [HSP.out, if_pos q2])
  clear q2
  obtain ⟨c0, c1, c2, c3, c4, c5, cg⟩ := H2.out.1.six_r
  have cf : w3.frozen? ⟨g, 1, none⟩ = false := H2.out.1.thaw 1
  have H5 := Lib.hid (H2.out.at1 (k + 1) (.int .i64 ((k : Int) + 1)) (by simp))
  have HU5 := Lib.hid (HU2.out.setCell (p := ⟨g, 1, none⟩) (fun _ => rfl) (.int .i64 ((k : Int) + 1)))
  have HR5 := Lib.hid (HR2.out.off (p := ⟨g, 1, none⟩) (by have := HGN.out; show N ≠ g; omega) (.int .i64 ((k : Int) + 1)))
  have HX5 := Lib.hid (HX.out.off (p := ⟨g, 1, none⟩) (by have := HGN.out; have := HGX.out; show G ≠ g; omega) (.int .i64 ((k : Int) + 1)))
  go_upto_region 4 with fail
  clear c0 c1 c2 c3 c4 c5 cg cf H2 HU2 HR2 HX x0 x1 x2 x3 x4 x5 xl
  generalize World.setCell w3 _ _ = w5 at *
  have x1 : w5.cell? ⟨G, 1, none⟩ = some (.string t.tx) := HX5.out.cell 1
  have x2 : w5.cell? ⟨G, 2, none⟩ = some (.int .u64 (t.st.1 : Int)) := HX5.out.cell 2
  have x3 : w5.cell? ⟨G, 3, none⟩ = some (.int .u64 (t.st.2.1 : Int)) := HX5.out.cell 3
  have x4 : w5.cell? ⟨G, 4, none⟩ = some (.int .u64 (t.st.2.2.1 : Int)) := HX5.out.cell 4
  have x5 : w5.cell? ⟨G, 5, none⟩ = some (.int .u64 (t.st.2.2.2 : Int)) := HX5.out.cell 5
  have xl := HX5.out.lt
  obtain ⟨z0, z1, z2, z3, z4, z5, z6, y0, y1, y2, y3, y4, y5, y6⟩ := HR5.out.seven2
  have zl := HR5.out.lt
  go_wp2
  rw [set7t_fold]
  have HF := HR5.out.put7 (u0 := (.int .i64 1)) (u1 := (.string t.tx)) (u2 := (.int .u64 0)) (u3 := (.int .u64 0)) (u4 := (.int .u64 0)) (u5 := (.int .u64 0)) (u6 := (.slice none 0 0))
  obtain ⟨hU, hR⟩ := Rd.fin HH.out (Nat.le_of_eq HNN.out) HU5.out H5.out (.int .i64 1) (.string t.tx) (.int .u64 0) (.int .u64 0) (.int .u64 0) (.int .u64 0) (.slice none 0 0)
  clear z0 z1 z2 z3 z4 z5 z6 y0 y1 y2 y3 y4 y5 y6
  generalize set7t w5 N (.int .i64 1) (.string t.tx) (.int .u64 0) (.int .u64 0) (.int .u64 0) (.int .u64 0) (.slice none 0 0) = w9 at *
  obtain ⟨z0, z1, z2, z3, z4, z5, z6⟩ := HF.seven
  refine bodyPost_ret (by simp [results, Try.results109, go_sem, z0, z1, z2, z3, z4, z5, z6]; rfl) rfl ?_
  rw [HE.out]
  exact ⟨hU, _, none, 0, rfl, hR, rfl, 0, rfl⟩
 have i2 : ((t.kd : Int) == 2) = false := beq_eq_false_iff_ne.2 (by omega)
 rw [if_neg q2] at HSP
 clear q2
 by_cases q3 : t.kd = 3
 ·
  have i3 : ((t.kd : Int) == 3) = true := by simp [q3]
  have HE := Lib.hid (show RES = _ from by rw [HSP.out, if_pos q3])
  clear q3
  obtain ⟨c0, c1, c2, c3, c4, c5, cg⟩ := H2.out.1.six_r
  have cf : w3.frozen? ⟨g, 1, none⟩ = false := H2.out.1.thaw 1
  have H5 := Lib.hid (H2.out.at1 (k + 1) (.int .i64 ((k : Int) + 1)) (by simp))
  have HU5 := Lib.hid (HU2.out.setCell (p := ⟨g, 1, none⟩) (fun _ => rfl) (.int .i64 ((k : Int) + 1)))
  have HR5 := Lib.hid (HR2.out.off (p := ⟨g, 1, none⟩) (by have := HGN.out; show N ≠ g; omega) (.int .i64 ((k : Int) + 1)))
  have HX5 := Lib.hid (HX.out.off (p := ⟨g, 1, none⟩) (by have := HGN.out; have := HGX.out; show G ≠ g; omega) (.int .i64 ((k : Int) + 1)))
  go_upto_region 7 with fail
  clear c0 c1 c2 c3 c4 c5 cg cf H2 HU2 HR2 HX x0 x1 x2 x3 x4 x5 xl
  generalize World.setCell w3 _ _ = w5 at *
  have x1 : w5.cell? ⟨G, 1, none⟩ = some (.string t.tx) := HX5.out.cell 1
  have x2 : w5.cell? ⟨G, 2, none⟩ = some (.int .u64 (t.st.1 : Int)) := HX5.out.cell 2
  have x3 : w5.cell? ⟨G, 3, none⟩ = some (.int .u64 (t.st.2.1 : Int)) := HX5.out.cell 3
  have x4 : w5.cell? ⟨G, 4, none⟩ = some (.int .u64 (t.st.2.2.1 : Int)) := HX5.out.cell 4
  have x5 : w5.cell? ⟨G, 5, none⟩ = some (.int .u64 (t.st.2.2.2 : Int)) := HX5.out.cell 5
  have xl := HX5.out.lt
  obtain ⟨z0, z1, z2, z3, z4, z5, z6, y0, y1, y2, y3, y4, y5, y6⟩ := HR5.out.seven2
  have zl := HR5.out.lt
  go_wp2
  rw [set7t_fold]
  have HF := HR5.out.put7 (u0 := (.int .i64 2)) (u1 := (.string ⟨#[]⟩)) (u2 := (.int .u64 (t.st.1 : Int))) (u3 := (.int .u64 (t.st.2.1 : Int))) (u4 := (.int .u64 (t.st.2.2.1 : Int))) (u5 := (.int .u64 (t.st.2.2.2 : Int))) (u6 := (.slice none 0 0))
  obtain ⟨hU, hR⟩ := Rd.fin HH.out (Nat.le_of_eq HNN.out) HU5.out H5.out (.int .i64 2) (.string ⟨#[]⟩) (.int .u64 (t.st.1 : Int)) (.int .u64 (t.st.2.1 : Int)) (.int .u64 (t.st.2.2.1 : Int)) (.int .u64 (t.st.2.2.2 : Int)) (.slice none 0 0)
  clear z0 z1 z2 z3 z4 z5 z6 y0 y1 y2 y3 y4 y5 y6
  generalize set7t w5 N (.int .i64 2) (.string ⟨#[]⟩) (.int .u64 (t.st.1 : Int)) (.int .u64 (t.st.2.1 : Int)) (.int .u64 (t.st.2.2.1 : Int)) (.int .u64 (t.st.2.2.2 : Int)) (.slice none 0 0) = w9 at *
  obtain ⟨z0, z1, z2, z3, z4, z5, z6⟩ := HF.seven
  refine bodyPost_ret (by simp [results, Try.results109, go_sem, z0, z1, z2, z3, z4, z5, z6]; rfl) rfl ?_
  rw [HE.out]
  exact ⟨hU, _, none, 0, rfl, hR, rfl, 0, rfl⟩
 have i3 : ((t.kd : Int) == 3) = false := beq_eq_false_iff_ne.2 (by omega)
 rw [if_neg q3] at HSP
 clear q3
 by_cases q1 : t.kd = 1
 ·
  have i1 : ((t.kd : Int) == 1) = true := by simp [q1]
  have HE := Lib.hid (show RES = refO L k from by rw [HSP.out, if_pos q1])
  clear q1
  have HGW := Lib.hid (show G < w3.heap.size from xl)
  go_wp2_with fail
  refine (HRF.out _ H2.out).mono ?_
  rintro e w5 ⟨hbu, X2, ko, kc, rfl, hq⟩
  unfold exv
  have HR5 := Lib.hid (HR2.out.but hbu (by have := HGN.out; omega))
  have HU5 := Lib.hid (HU2.out.trans hbu (fun _ _ h => h))
  have HQ := Lib.hid (show OutQ w g lo lc L (refO L k) w3.heap.size X2 ko w5 from hq)
  clear hbu hq H2 HU2 HR2 HX x0 x1 x2 x3 x4 x5 xl
  obtain ⟨z0, z1, z2, z3, z4, z5, z6, y0, y1, y2, y3, y4, y5, y6⟩ := HR5.out.seven2
  have zl := HR5.out.lt
  go_wp2
  rw [set7t_fold]
  have HF := HR5.out.put7 (u0 := .int .i64 X2.op) (u1 := .string X2.text) (u2 := .int .u64 X2.s0) (u3 := .int .u64 X2.s1) (u4 := .int .u64 X2.s2) (u5 := .int .u64 X2.s3) (u6 := .slice ko X2.kids.length kc)
  obtain ⟨hU, hQ⟩ := Rd.set7 (N := N) (D' := w.heap.size) HH.out (Nat.le_of_eq HNN.out) (by have := HGX.out; have := HGW.out; omega) (by have := HGX.out; have := HGW.out; have := HNN.out; omega) HU5.out HQ.out (.int .i64 X2.op) (.string X2.text) (.int .u64 X2.s0) (.int .u64 X2.s1) (.int .u64 X2.s2) (.int .u64 X2.s3) (.slice ko X2.kids.length kc)
  clear z0 z1 z2 z3 z4 z5 z6 y0 y1 y2 y3 y4 y5 y6
  generalize set7t _ N _ _ _ _ _ _ _ = w9 at *
  obtain ⟨z0, z1, z2, z3, z4, z5, z6⟩ := HF.seven
  refine bodyPost_ret (by simp [results, Try.results109, go_sem, z0, z1, z2, z3, z4, z5, z6]; rfl) rfl ?_
  rw [HE.out]
  exact ⟨hU, X2, ko, kc, rfl, hQ⟩
 have i1 : ((t.kd : Int) == 1) = false := beq_eq_false_iff_ne.2 (by omega)
 rw [if_neg q1] at HSP
 clear q1
 have HGW := Lib.hid (show G < w3.heap.size from xl)
 obtain ⟨z46, hz46⟩ : ∃ z, isS L (k) [46] = z := ⟨_, rfl⟩
 have HTT := Lib.hid (HTK.out (k) (by omega) ⟨#[46]⟩ w3 H2.out)
 rw [show (⟨#[46]⟩ : ByteArray).data.toList = [46] from rfl, hz46] at HTT
 rw [hz46] at HSP
 clear hz46
 go_wp2_with fail
 refine HTT.out.mono ?_
 rintro e w5 ⟨rfl, hbu, hrd⟩
 have HR5 := Lib.hid (HR2.out.but hbu (by have := HGN.out; omega))
 have HU5 := Lib.hid (HU2.out.trans hbu (fun _ _ h => h))
 have HS5 := Lib.hid (show w3.heap.size ≤ w5.heap.size from hbu.size)
 have HRD := Lib.hid hrd
 clear hbu hrd HTT H2 HU2 HR2 HX x0 x1 x2 x3 x4 x5 xl
 cases z46
 case true =>
  rw [if_pos rfl] at HSP
  have H5 := Lib.hid (show Rd w5 g lo lc L (k + 1) none from HRD.out)
  have HE := Lib.hid HSP.out
  obtain ⟨z0, z1, z2, z3, z4, z5, z6, y0, y1, y2, y3, y4, y5, y6⟩ := HR5.out.seven2
  have zl := HR5.out.lt
  go_wp2
  rw [set7t_fold]
  have HF := HR5.out.put7 (u0 := (.int .i64 3)) (u1 := (.string ⟨#[]⟩)) (u2 := (.int .u64 0)) (u3 := (.int .u64 0)) (u4 := (.int .u64 0)) (u5 := (.int .u64 0)) (u6 := (.slice none 0 0))
  obtain ⟨hU, hR⟩ := Rd.fin HH.out (Nat.le_of_eq HNN.out) HU5.out H5.out (.int .i64 3) (.string ⟨#[]⟩) (.int .u64 0) (.int .u64 0) (.int .u64 0) (.int .u64 0) (.slice none 0 0)
  clear z0 z1 z2 z3 z4 z5 z6 y0 y1 y2 y3 y4 y5 y6
  generalize set7t w5 N (.int .i64 3) (.string ⟨#[]⟩) (.int .u64 0) (.int .u64 0) (.int .u64 0) (.int .u64 0) (.slice none 0 0) = w9 at *
  obtain ⟨z0, z1, z2, z3, z4, z5, z6⟩ := HF.seven
  refine bodyPost_ret (by simp [results, Try.results109, go_sem, z0, z1, z2, z3, z4, z5, z6]; rfl) rfl ?_
  rw [HE.out]
  exact ⟨hU, _, none, 0, rfl, hR, rfl, 0, rfl⟩
 case false =>
  rw [if_neg (by decide)] at HSP
  have H5 := Lib.hid (show Rd w5 g lo lc L k none from HRD.out)
  clear HRD
  obtain ⟨z40, hz40⟩ : ∃ z, isS L k [40] = z := ⟨_, rfl⟩
  have HZ40 := Lib.hid hz40
  have HII := Lib.hid (HIS.out ⟨#[40]⟩ w5 H5.out)
  rw [show (⟨#[40]⟩ : ByteArray).data.toList = [40] from rfl, hz40] at HII
  rw [hz40] at HSP
  clear hz40
  go_wp2_with fail
  refine HII.out.mono ?_
  rintro e w6 ⟨rfl, hb6⟩
  have H6 := Lib.hid (H5.out.below hb6)
  have HR6 := Lib.hid (HR5.out.under hb6 HR5.out.lt)
  have HU6 := Lib.hid (HU5.out.then_below hb6)
  have HS6 := Lib.hid (show w3.heap.size ≤ w6.heap.size from Nat.le_trans HS5.out hb6.size)
  have HTT := Lib.hid (HTK.out k (by omega) ⟨#[40]⟩ w6 H6.out)
  rw [show (⟨#[40]⟩ : ByteArray).data.toList = [40] from rfl, HZ40.out] at HTT
  clear hb6 H5 HR5 HU5 HS5 HII
  cases z40
  case false =>
   rw [if_neg (by decide)] at HSP
   go_wp2_with fail
   refine HTT.out.mono ?_
   rintro e w7 ⟨rfl, hbu, hrd⟩
   have H7 := Lib.hid (show Rd w7 g lo lc L k none from hrd)
   have HR7 := Lib.hid (HR6.out.but hbu (by have := HGN.out; omega))
   have HU7 := Lib.hid (HU6.out.trans hbu (fun _ _ h => h))
   clear hbu hrd HTT H6 HR6 HU6
   have HE := Lib.hid (show RES = badF L 2 (k) from by exact HSP.out)
   go_wp2_with fail
   refine (HFL.out 2 (k) (by omega) _ H7.out).mono ?_
   rintro e w8 ⟨rfl, hbu, hrd⟩
   have HR9 := Lib.hid (HR7.out.but hbu (by have := HGN.out; omega))
   have HU9 := Lib.hid (HU7.out.trans hbu (fun _ _ h => h))
   have HD9 := Lib.hid hrd
   clear hbu hrd
   obtain ⟨z0, z1, z2, z3, z4, z5, z6, y0, y1, y2, y3, y4, y5, y6⟩ := HR9.out.seven2
   have zl := HR9.out.lt
   go_wp2
   rw [set7t_fold]
   have HF := HR9.out.put7 (u0 := (.int .i64 0)) (u1 := (.string ⟨#[]⟩)) (u2 := (.int .u64 0)) (u3 := (.int .u64 0)) (u4 := (.int .u64 0)) (u5 := (.int .u64 0)) (u6 := (.slice none 0 0))
   obtain ⟨hU, hR⟩ := Rd.fin HH.out (Nat.le_of_eq HNN.out) HU9.out HD9.out (.int .i64 0) (.string ⟨#[]⟩) (.int .u64 0) (.int .u64 0) (.int .u64 0) (.int .u64 0) (.slice none 0 0)
   clear z0 z1 z2 z3 z4 z5 z6 y0 y1 y2 y3 y4 y5 y6
   generalize set7t w8 N (.int .i64 0) (.string ⟨#[]⟩) (.int .u64 0) (.int .u64 0) (.int .u64 0) (.int .u64 0) (.slice none 0 0) = w9 at *
   obtain ⟨z0, z1, z2, z3, z4, z5, z6⟩ := HF.seven
   refine bodyPost_ret (by simp [results, Try.results109, go_sem, z0, z1, z2, z3, z4, z5, z6]; rfl) rfl ?_
   rw [HE.out]
   exact ⟨hU, ex0, none, 0, rfl, (show (2 : Int) ≠ 0 by decide), ⟨_, hR⟩⟩
  case true =>
   rw [if_pos rfl] at HSP
   by_cases hdp : 12 ≤ dp
   ·
    have HBG := Lib.hid (show big = true from by rw [hbig]; exact decide_eq_true hdp)
    rw [if_pos HBG.out] at HSP
    have HE := Lib.hid (show RES = badF L 3 (k) from by exact HSP.out)
    go_wp2_with fail
    refine (HFL.out 3 (k) (by omega) _ H6.out).mono ?_
    rintro e w8 ⟨rfl, hbu, hrd⟩
    have HR9 := Lib.hid (HR6.out.but hbu (by have := HGN.out; omega))
    have HU9 := Lib.hid (HU6.out.trans hbu (fun _ _ h => h))
    have HD9 := Lib.hid hrd
    clear hbu hrd
    obtain ⟨z0, z1, z2, z3, z4, z5, z6, y0, y1, y2, y3, y4, y5, y6⟩ := HR9.out.seven2
    have zl := HR9.out.lt
    go_wp2
    rw [set7t_fold]
    have HF := HR9.out.put7 (u0 := (.int .i64 0)) (u1 := (.string ⟨#[]⟩)) (u2 := (.int .u64 0)) (u3 := (.int .u64 0)) (u4 := (.int .u64 0)) (u5 := (.int .u64 0)) (u6 := (.slice none 0 0))
    obtain ⟨hU, hR⟩ := Rd.fin HH.out (Nat.le_of_eq HNN.out) HU9.out HD9.out (.int .i64 0) (.string ⟨#[]⟩) (.int .u64 0) (.int .u64 0) (.int .u64 0) (.int .u64 0) (.slice none 0 0)
    clear z0 z1 z2 z3 z4 z5 z6 y0 y1 y2 y3 y4 y5 y6
    generalize set7t w8 N (.int .i64 0) (.string ⟨#[]⟩) (.int .u64 0) (.int .u64 0) (.int .u64 0) (.int .u64 0) (.slice none 0 0) = w9 at *
    obtain ⟨z0, z1, z2, z3, z4, z5, z6⟩ := HF.seven
    refine bodyPost_ret (by simp [results, Try.results109, go_sem, z0, z1, z2, z3, z4, z5, z6]; rfl) rfl ?_
    rw [HE.out]
    exact ⟨hU, ex0, none, 0, rfl, (show (3 : Int) ≠ 0 by decide), ⟨_, hR⟩⟩
   ·
    have HBG := Lib.hid (show big = false from by rw [hbig]; exact decide_eq_false hdp)
    have hdp' : decide (12 ≤ dp) = false := decide_eq_false hdp
    rw [if_neg (by rw [HBG.out]; decide)] at HSP
    have hkl : k + 1 ≤ L.length := isS_lt HZ40.out
    go_wp2_with fail
    refine HTT.out.mono ?_
    rintro e w7 ⟨rfl, hbu, hrd⟩
    have H7 := Lib.hid (show Rd w7 g lo lc L (k + 1) none from hrd)
    have HR7 := Lib.hid (HR6.out.but hbu (by have := HGN.out; omega))
    have HU7 := Lib.hid (HU6.out.trans hbu (fun _ _ h => h))
    have HS7 := Lib.hid (show w3.heap.size ≤ w7.heap.size from Nat.le_trans HS6.out hbu.size)
    clear hbu hrd HTT H6 HR6 HU6 HS6
    go_wp2_with fail
    refine (HXX.out HBG.out (k + 1) hkl w7 H7.out).mono ?_
    rintro e w8 ⟨hbu, X2, ko, kc, rfl, hq⟩
    unfold exv
    have HR8 := Lib.hid (HR7.out.but hbu (by have := HGN.out; omega))
    have HU8 := Lib.hid (HU7.out.trans hbu (fun _ _ h => h))
    have HS8 := Lib.hid (show w7.heap.size ≤ w8.heap.size from hbu.size)
    have HQ8 := Lib.hid (show OutQ w g lo lc L (X (k + 1)) w7.heap.size X2 ko w8 from hq)
    clear hbu hq H7 HR7 HU7
    have HQ9 := Lib.hid (HQ8.out.below ((Below.refl _ _).alloc (Nat.le_refl _) (.cells #[.int .i64 X2.op, .string X2.text, .int .u64 X2.s0, .int .u64 X2.s1, .int .u64 X2.s2, .int .u64 X2.s3, .slice ko X2.kids.length kc] 28)))
    have HR9 := Lib.hid (HR8.out.on_alloc (.cells #[.int .i64 X2.op, .string X2.text, .int .u64 X2.s0, .int .u64 X2.s1, .int .u64 X2.s2, .int .u64 X2.s3, .slice ko X2.kids.length kc] 28))
    have HU9 := Lib.hid (HU8.out.alloc (.cells #[.int .i64 X2.op, .string X2.text, .int .u64 X2.s0, .int .u64 X2.s1, .int .u64 X2.s2, .int .u64 X2.s3, .slice ko X2.kids.length kc] 28))
    have HE9 := Lib.hid (Own.fresh w8 28 [.int .i64 X2.op, .string X2.text, .int .u64 X2.s0, .int .u64 X2.s1, .int .u64 X2.s2, .int .u64 X2.s3, .slice ko X2.kids.length kc])
    go_upto_region 16 with fail
    clear HR8 HU8 HQ8
    generalize World.alloc w8 _ = w9 at *
    generalize w8.heap.size = E at *
    obtain ⟨r, hr⟩ : ∃ r, X (k + 1) = r := ⟨_, rfl⟩
    have HXR := Lib.hid (fun x m (h : r = .ok (x, m)) => HXL (k + 1) x m hkl (hr.trans h))
    rw [hr] at HQ9 HSP
    clear hr
    cases r
    case error f =>
     obtain ⟨hf, kf, hR⟩ := HQ9.out
     obtain ⟨c0, c1, c2, c3, c4, c5, cg⟩ := hR.1.six_r
     have c2' : w9.cell? ⟨g, 2, none⟩ = some (.int .i64 f.1) := c2
     have ef : (f.1 == 0) = false := beq_eq_false_iff_ne.2 hf
     obtain ⟨m0, m1, m2, m3, m4, m5, m6, -⟩ := HE9.out.seven2
     have ml := HE9.out.lt
     have HQ := Lib.hid HQ9.out
     have HE := Lib.hid (show RES = .error f from HSP.out)
     clear c2 hR HQ9 hf
     obtain ⟨z0, z1, z2, z3, z4, z5, z6, y0, y1, y2, y3, y4, y5, y6⟩ := HR9.out.seven2
     have zl := HR9.out.lt
     go_wp2
     rw [set7t_fold]
     have HF := HR9.out.put7 (u0 := .int .i64 X2.op) (u1 := .string X2.text) (u2 := .int .u64 X2.s0) (u3 := .int .u64 X2.s1) (u4 := .int .u64 X2.s2) (u5 := .int .u64 X2.s3) (u6 := .slice ko X2.kids.length kc)
     obtain ⟨hU, hQ⟩ := Rd.set7 (N := N) (D' := w.heap.size) HH.out (Nat.le_of_eq HNN.out) (by have := HGX.out; have := HGW.out; have := HS7.out; omega) (by have := HGX.out; have := HGW.out; have := HNN.out; have := HS7.out; omega) HU9.out HQ.out (.int .i64 X2.op) (.string X2.text) (.int .u64 X2.s0) (.int .u64 X2.s1) (.int .u64 X2.s2) (.int .u64 X2.s3) (.slice ko X2.kids.length kc)
     clear z0 z1 z2 z3 z4 z5 z6 y0 y1 y2 y3 y4 y5 y6
     generalize set7t _ N _ _ _ _ _ _ _ = w9 at *
     obtain ⟨z0, z1, z2, z3, z4, z5, z6⟩ := HF.seven
     refine bodyPost_ret (by simp [results, Try.results109, go_sem, z0, z1, z2, z3, z4, z5, z6]; rfl) rfl ?_
     rw [HE.out]
     exact ⟨hU, X2, ko, kc, rfl, hQ⟩
    case ok pq =>
     obtain ⟨x, m⟩ := pq
     obtain ⟨hR, hx, n2, hE2⟩ := HQ9.out
     subst hx
     have hml := HXR.out x m rfl
     have H9 := Lib.hid hR
     have HT9 := Lib.hid hE2
     obtain ⟨c0, c1, c2, c3, c4, c5, cg⟩ := hR.1.six_r
     have c2' : w9.cell? ⟨g, 2, none⟩ = some (.int .i64 0) := c2
     clear c2 hR hE2 HQ9
     obtain ⟨z41, hz41⟩ : ∃ z, isS L (m) [41] = z := ⟨_, rfl⟩
     have HTT := Lib.hid (HTK.out (m) (by omega) ⟨#[41]⟩ w9 H9.out)
     rw [show (⟨#[41]⟩ : ByteArray).data.toList = [41] from rfl, hz41] at HTT
     have HSQ := Lib.hid (show RES = if z41 = true then .ok (x, m + 1) else badF L 2 m from by rw [HSP.out, ← hz41])
     clear hz41
     go_wp2_with fail
     refine HTT.out.mono ?_
     rintro e w10 ⟨rfl, hbu, hrd⟩
     have HR10 := Lib.hid (HR9.out.but hbu (by have := HGN.out; omega))
     have HU10 := Lib.hid (HU9.out.trans hbu (fun _ _ h => h))
     have HE10 := Lib.hid (HE9.out.but hbu (by have := HGN.out; have := HGX.out; have := HGW.out; have := HS7.out; have := HS8.out; omega))
     have HT10 := Lib.hid (HasE.but hbu (fun j hj => by have := HGN.out; have := HGX.out; have := HGW.out; have := HS7.out; omega) HT9.out)
     have HRD := Lib.hid hrd
     clear hbu hrd HTT HR9 HU9 HE9 HT9 H9 c0 c1 c2' c3 c4 c5 cg
     cases z41
     case false =>
      rw [if_neg (by decide)] at HSQ
      have H10 := Lib.hid (show Rd w10 g lo lc L m none from HRD.out)
      have HE := Lib.hid (show RES = badF L 2 (m) from by exact HSQ.out)
      go_wp2_with fail
      refine (HFL.out 2 (m) (by omega) _ H10.out).mono ?_
      rintro e w11 ⟨rfl, hbu, hrd⟩
      have HR9 := Lib.hid (HR10.out.but hbu (by have := HGN.out; omega))
      have HU9 := Lib.hid (HU10.out.trans hbu (fun _ _ h => h))
      have HD9 := Lib.hid hrd
      clear hbu hrd
      obtain ⟨z0, z1, z2, z3, z4, z5, z6, y0, y1, y2, y3, y4, y5, y6⟩ := HR9.out.seven2
      have zl := HR9.out.lt
      go_wp2
      rw [set7t_fold]
      have HF := HR9.out.put7 (u0 := (.int .i64 0)) (u1 := (.string ⟨#[]⟩)) (u2 := (.int .u64 0)) (u3 := (.int .u64 0)) (u4 := (.int .u64 0)) (u5 := (.int .u64 0)) (u6 := (.slice none 0 0))
      obtain ⟨hU, hR⟩ := Rd.fin HH.out (Nat.le_of_eq HNN.out) HU9.out HD9.out (.int .i64 0) (.string ⟨#[]⟩) (.int .u64 0) (.int .u64 0) (.int .u64 0) (.int .u64 0) (.slice none 0 0)
      clear z0 z1 z2 z3 z4 z5 z6 y0 y1 y2 y3 y4 y5 y6
      generalize set7t w11 N (.int .i64 0) (.string ⟨#[]⟩) (.int .u64 0) (.int .u64 0) (.int .u64 0) (.int .u64 0) (.slice none 0 0) = w9 at *
      obtain ⟨z0, z1, z2, z3, z4, z5, z6⟩ := HF.seven
      refine bodyPost_ret (by simp [results, Try.results109, go_sem, z0, z1, z2, z3, z4, z5, z6]; rfl) rfl ?_
      rw [HE.out]
      exact ⟨hU, ex0, none, 0, rfl, (show (2 : Int) ≠ 0 by decide), ⟨_, hR⟩⟩
     case true =>
      rw [if_pos rfl] at HSQ
      have H10 := Lib.hid (show Rd w10 g lo lc L (m + 1) none from HRD.out)
      obtain ⟨m0, m1, m2, m3, m4, m5, m6, -⟩ := HE10.out.seven2
      have ml := HE10.out.lt
      obtain ⟨X2, hX2⟩ : ∃ X2, x = X2 := ⟨_, rfl⟩
      subst hX2
      have HQ := Lib.hid (show OutQ w g lo lc L (.ok (x, m + 1)) w7.heap.size x ko w10 from ⟨H10.out, rfl, n2, HT10.out⟩)
      have HE := Lib.hid HSQ.out
      obtain ⟨z0, z1, z2, z3, z4, z5, z6, y0, y1, y2, y3, y4, y5, y6⟩ := HR10.out.seven2
      have zl := HR10.out.lt
      go_wp2
      rw [set7t_fold]
      have HF := HR10.out.put7 (u0 := .int .i64 x.op) (u1 := .string x.text) (u2 := .int .u64 x.s0) (u3 := .int .u64 x.s1) (u4 := .int .u64 x.s2) (u5 := .int .u64 x.s3) (u6 := .slice ko x.kids.length kc)
      obtain ⟨hU, hQ⟩ := Rd.set7 (N := N) (D' := w.heap.size) HH.out (Nat.le_of_eq HNN.out) (by have := HGX.out; have := HGW.out; have := HS7.out; omega) (by have := HGX.out; have := HGW.out; have := HNN.out; have := HS7.out; omega) HU10.out HQ.out (.int .i64 x.op) (.string x.text) (.int .u64 x.s0) (.int .u64 x.s1) (.int .u64 x.s2) (.int .u64 x.s3) (.slice ko x.kids.length kc)
      clear z0 z1 z2 z3 z4 z5 z6 y0 y1 y2 y3 y4 y5 y6
      generalize set7t _ N _ _ _ _ _ _ _ = w9 at *
      obtain ⟨z0, z1, z2, z3, z4, z5, z6⟩ := HF.seven
      refine bodyPost_ret (by simp [results, Try.results109, go_sem, z0, z1, z2, z3, z4, z5, z6]; rfl) rfl ?_
      rw [HE.out]
      exact ⟨hU, x, ko, kc, rfl, hQ⟩
end Go.Proofs.Ytonknapfndaalaa
