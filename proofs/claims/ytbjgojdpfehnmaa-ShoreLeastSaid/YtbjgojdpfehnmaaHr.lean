import Derived.Test.YtbjgojdpfehnmaaHl
namespace Go.Proofs.Ytbjgojdpfehnmaa
set_option linter.unusedVariables false
set_option maxHeartbeats 3200000
set_option maxRecDepth 1000000
open Go.RowKit Go.Sort
theorem rword_any (s : ByteArray) (hs : s.size ≤ maxLen) (w : World) : Calls Try.prog 83 #[.string s] w fun e w' => e = .returned (.bool (wordB s)) ∧ w = w' := by
 unfold maxLen at hs
 have HW := aH (show wordB s = (!(resB s) && allAt s s.size && decide ((s.size : Int) ≤ 12)) from rfl)
 have HR := aH (show resB s = (s.toList.isEmpty || s.toList == [109, 111, 100, 117, 108, 101] || s.toList == [105, 109, 112, 111, 114, 116] || s.toList == [119, 97, 116, 101, 114]) from rfl)
 obtain ⟨b0, h0⟩ : ∃ b0, s.toList.isEmpty = b0 := ⟨_, rfl⟩
 obtain ⟨b1, h1⟩ : ∃ b1, (s.toList == [109, 111, 100, 117, 108, 101]) = b1 := ⟨_, rfl⟩
 obtain ⟨b2, h2⟩ : ∃ b2, (s.toList == [105, 109, 112, 111, 114, 116]) = b2 := ⟨_, rfl⟩
 obtain ⟨b3, h3⟩ : ∃ b3, (s.toList == [119, 97, 116, 101, 114]) = b3 := ⟨_, rfl⟩
 have HB := aH (show resB s = (b0 || b1 || b2 || b3) by rw [HR.o, h0, h1, h2, h3])
 clear HR
 by_cases hz : (s.size : Int) ≤ 12
 ·
  by_cases hb : (b0 || b1 || b2 || b3) = true
  ·
   cases b0 <;> cases b1 <;> cases b2 <;> cases b3
   all_goals first
    | (exfalso; revert hb; decide)
    | (clear hb
       go_enter Try.func83, Try.ntmps83
       go_wp2
       go_ret
       exact ⟨ret_bool (by rw [HW.o, HB.o]; rfl), rfl⟩)
  ·
   obtain ⟨rfl, rfl, rfl, rfl⟩ : b0 = false ∧ b1 = false ∧ b2 = false ∧ b3 = false := by revert hb; cases b0 <;> cases b1 <;> cases b2 <;> cases b3 <;> decide
   clear hb
   have H0 := aH (show allAt s 0 = true from rfl)
   go_enter Try.func83, Try.ntmps83
   go_wp2
   go_loop [3] (fun i => ∃ k : Nat, k ≤ s.size ∧ i = .int .i64 k ∧ aQ (allAt s k = true)) (fun i => s.size - (intOf i).toNat)
   case atStart => exact ⟨0, Nat.zero_le _, rfl, H0⟩
   case round =>
    obtain ⟨k, hk, rfl, HA⟩ := hrel
    clear H0 h0 h1 h2 h3
    by_cases hlt : k < s.size
    ·
     obtain ⟨c, hc⟩ : ∃ c : Int, (s[k].toNat : Int) = c := ⟨_, rfl⟩
     have HC := aH (show byt s k = c by rw [byt_get hlt, hc])
     have hc0 : 0 ≤ c ∧ c ≤ 255 := by rw [← HC.o]; exact byt_lt s k
     have HN : okAt k c = false → aQ (wordB s = false) := fun h => aH (by rw [HW.o, allAt_no (k := k) (by rw [HC.o]; exact h) _ hlt]; simp)
     have HY : okAt k c = true → aQ (allAt s (k + 1) = true) := fun h => aH (by unfold allAt; rw [HA.o, HC.o, h]; rfl)
     by_cases g1 : 97 ≤ c <;> by_cases g2 : c ≤ 122 <;> by_cases g3 : 65 ≤ c <;> by_cases g4 : c ≤ 90
     all_goals try (exfalso; omega)
     all_goals
      have HL := aH (show isLet c = (decide (97 ≤ c) && decide (c ≤ 122) || decide (65 ≤ c) && decide (c ≤ 90)) from rfl)
      simp only [g1, g2, g3, g4, decide_true, decide_false, Bool.and_true, Bool.and_false, Bool.or_true, Bool.or_false] at HL
     all_goals try
      ( have H1 := HY (by unfold okAt; rw [HL.o]; rfl)
        clear HY HN
        go_wp2
        go_round
        case rel => exact ⟨k + 1, by omega, by go_num, H1⟩
        case measure => simp [intOf]; omega
        done)
     all_goals
      cases k with
      | zero =>
       have H1 := HN (by unfold okAt; rw [HL.o]; rfl)
       clear HY HN
       go_wp2
       go_ret
       exact ⟨ret_bool H1.o.symm, rfl⟩
      | succ k =>
       have hk0 : (((k + 1 : Nat) : Int) == 0) = false := by rw [aN]; omega
       have hk1 : ((k : Int) + 1 == 0) = false := by rw [aN]; omega
       obtain ⟨bu, hu⟩ : ∃ bu, (c != 95) = bu := ⟨_, rfl⟩
       cases bu with
       | false =>
        have hu' : (c == 95) = true := by rw [bne] at hu; revert hu; cases (c == 95) <;> simp
        have H1 := HY (by unfold okAt; rw [HL.o, hu']; simp)
        clear HY HN hu'
        go_wp2
        go_round
        case rel => exact ⟨k + 1 + 1, by omega, by go_num, H1⟩
        case measure => simp [intOf]; omega
       | true =>
        have hu' : (c == 95) = false := by rw [bne] at hu; revert hu; cases (c == 95) <;> simp
        by_cases g5 : c < 48
        ·
         first
          | (exfalso; omega)
          | (have H1 := HN (by unfold okAt isDig; rw [HL.o, hu']; simp; omega)
             clear HY HN hu'
             go_wp2
             go_ret
             exact ⟨ret_bool H1.o.symm, rfl⟩)
        ·
         by_cases g6 : 57 < c
         ·
          first
           | (exfalso; omega)
           | (have H1 := HN (by unfold okAt isDig; rw [HL.o, hu']; simp; omega)
              clear HY HN hu'
              go_wp2
              go_ret
              exact ⟨ret_bool H1.o.symm, rfl⟩)
         ·
          first
           | (exfalso; omega)
           | (have H1 := HY (by unfold okAt isDig; rw [HL.o, hu']; simp; omega)
              clear HY HN hu'
              go_wp2
              go_round
              case rel => exact ⟨k + 1 + 1, by omega, by go_num, H1⟩
              case measure => simp [intOf]; omega)
    ·
     obtain rfl : k = s.size := by omega
     go_wp2
     go_ret
     exact ⟨ret_bool (by rw [HW.o, HB.o, HA.o]; simp; omega), rfl⟩
 ·
  have HF := aH (show wordB s = false by rw [HW.o, aF hz]; simp)
  clear HB
  cases b0
  all_goals
   go_enter Try.func83, Try.ntmps83
   go_wp2
   go_ret
   exact ⟨ret_bool HF.o.symm, rfl⟩
theorem Rd.fin {w w3 : World} {g N k0 k : Nat} {lo : Option Addr} {lc : Nat} {L : List Tok} {F0 F : Option (Int × Int)} (H0 : Rd w g lo lc L k0 F0) (hN : w.heap.size ≤ N) (HU : But (fun j => j = g) w w3) (H3 : Rd w3 g lo lc L k F) (u0 u1 u2 u3 u4 u5 u6 : Value) :
  But (fun j => j = g) w (set7t w3 N u0 u1 u2 u3 u4 u5 u6) ∧ Rd (set7t w3 N u0 u1 u2 u3 u4 u5 u6) g lo lc L k F := by
 have hU : But (fun j => j = g) w (set7t w3 N u0 u1 u2 u3 u4 u5 u6) := HU.trans (But.set7 w3 N u0 u1 u2 u3 u4 u5 u6) (fun j hj e => by omega)
 have hg := H0.1.lt
 exact ⟨hU, H3.1.but (But.set7 w3 N u0 u1 u2 u3 u4 u5 u6) (by omega), H0.2.1.but H0.2.2 hU, H0.2.2⟩
theorem wordB_size {s : ByteArray} (h : wordB s = true) : s.size ≤ 12 := by
 unfold wordB at h
 simp only [Bool.and_eq_true, decide_eq_true_eq] at h
 omega
theorem Rd.at1 {w : World} {g k : Nat} {lo : Option Addr} {lc : Nat} {L : List Tok} {F : Option (Int × Int)} (h : Rd w g lo lc L k F) (m : Nat) (v : Value) (hv : v = .int .i64 (m : Int)) : Rd (w.setCell ⟨g, 1, none⟩ v) g lo lc L m F := by
 subst hv
 exact ⟨h.1.put 1 _, h.2.1.but h.2.2 (But.put _ _ _ _), h.2.2⟩
@[go_sem 2000] theorem ebuild2 (k : Int) (t : ByteArray) (w : World) : (Instr.build 79 #[(0, .int .i64 k), (1, .string t)]).run Try.prog w = .ok (.agg #[.int .i64 k, .string t, .int .u64 0, .int .u64 0, .int .u64 0, .int .u64 0, .slice none 0 0]) w := by kernel_rfl
theorem rd_ref (g : Nat) (lo : Option Addr) (lc : Nat) (L : List Tok) (k : Nat) (hn : (L.length : Int) ≤ 1000000) (hk : (k : Int) ≤ 100000) (htx : ∀ t ∈ L, t.tx.size ≤ 1000000) (w : World) (h : Rd w g lo lc L k none) :
  Calls Try.prog 120 #[.pointer (some ⟨g, 0, none⟩)] w fun e w' => Out w g lo lc L (refO L k) e w' := by
 have HH := aH h
 have HNW := aH (fun (m : Nat) (hm : (m : Int) ≤ 1000000) (W : World) (hW : Rd W g lo lc L m none) => rd_now g lo lc L m none hn hm W hW)
 have HTK := aH (fun (m : Nat) (hm : (m : Int) ≤ 1000000) (s : ByteArray) (W : World) (hW : Rd W g lo lc L m none) => rd_take s g lo lc L m none hn hm W hW)
 have HFL := aH (fun (m : Nat) (hm : (m : Int) ≤ 1000000) (W : World) (hW : Rd W g lo lc L m none) => show Calls Try.prog 99 #[.pointer (some ⟨g, 0, none⟩), .int .i64 2] W fun e w' => e = .returned (.agg #[.int .i64 0, .string ⟨#[]⟩, .int .u64 0, .int .u64 0, .int .u64 0, .int .u64 0, .slice none 0 0]) ∧ But (fun j => j = g) W w' ∧ Rd w' g lo lc L m (some (2, ((tkA L m).pos : Int))) from rd_fail 2 g lo lc L m hn hm W hW)
 have HWD := aH (fun (m : Nat) (W : World) => rword_any (tkA L m).tx (by
  unfold tkA
  rw [List.getD_eq_getElem?_getD]
  cases hq : L[m]? with
  | none => show (0 : Nat) ≤ maxLen; exact Nat.zero_le _
  | some t => have := htx t (aM hq); show t.tx.size ≤ maxLen; unfold maxLen; omega) W)
 have HR := aH (Own.fresh w 79 [.int .i64 0, .string ⟨#[]⟩, .int .u64 0, .int .u64 0, .int .u64 0, .int .u64 0, .slice none 0 0])
 have H1 := aH (h.below (bA (.cells #[.int .i64 0, .string ⟨#[]⟩, .int .u64 0, .int .u64 0, .int .u64 0, .int .u64 0, .slice none 0 0] 79)))
 have HU := aH (But.of_below (S := fun j => j = g) ((Below.refl w.heap.size w).alloc (Nat.le_refl _) (.cells #[.int .i64 0, .string ⟨#[]⟩, .int .u64 0, .int .u64 0, .int .u64 0, .int .u64 0, .slice none 0 0] 79)))
 have HGN := aH (show g < w.heap.size from h.1.lt)
 have HSP := aH (show refO L k = if wordB (tkA L k).tx = true then (if isS L (k + 1) [58, 58] = true then (if ((tkA L (k + 2)).kd == 1 && wordB (tkA L (k + 2)).tx) = true then .ok (leafX 11 ((tkA L k).tx ++ ⟨#[58, 58]⟩ ++ (tkA L (k + 2)).tx), k + 3) else badF L 2 (k + 2)) else .ok (leafX 11 (tkA L k).tx, k + 1)) else badF L 2 k from rfl)
 generalize refO L k = RES at *
 clear h
 have hw1 : IntKind.i64.wrap ((k : Int) + 1) = (k : Int) + 1 := wI
 have hw2 : IntKind.i64.wrap ((k : Int) + 2 + 1) = (k : Int) + 2 + 1 := wI
 go_enter Try.func120, Try.ntmps120
 go_upto_region 1 with fail
 generalize World.alloc w _ = w1 at *
 obtain ⟨N, hN⟩ : ∃ N, w.heap.size = N := ⟨_, rfl⟩
 rw [hN] at HR HGN
 rw [hN]
 have HNN := aH hN
 clear hN
 go_wp2_with fail
 refine (HNW.o k (by omega) _ H1.o).mono ?_
 obtain ⟨t, ht⟩ : ∃ t, tkA L k = t := ⟨_, rfl⟩
 have HT := aH ht
 rw [ht] at HSP
 have HW1 := aH (HWD.o k)
 rw [ht] at HW1 ⊢
 clear ht
 unfold tokV
 rintro e w2 ⟨rfl, hb2⟩
 have H2 := aH ((H1.o.below hb2).below (bA (.cells #[.int .i64 (t.kd : Int), .string t.tx, .int .u64 (t.st.1 : Int), .int .u64 (t.st.2.1 : Int), .int .u64 (t.st.2.2.1 : Int), .int .u64 (t.st.2.2.2 : Int), .int .i64 (t.pos : Int)] 108)))
 have HU2 := aH ((HU.o.then_below hb2).alloc (.cells #[.int .i64 (t.kd : Int), .string t.tx, .int .u64 (t.st.1 : Int), .int .u64 (t.st.2.1 : Int), .int .u64 (t.st.2.2.1 : Int), .int .u64 (t.st.2.2.2 : Int), .int .i64 (t.pos : Int)] 108))
 have HR2 := aH ((HR.o.under hb2 HR.o.lt).on_alloc (.cells #[.int .i64 (t.kd : Int), .string t.tx, .int .u64 (t.st.1 : Int), .int .u64 (t.st.2.1 : Int), .int .u64 (t.st.2.2.1 : Int), .int .u64 (t.st.2.2.2 : Int), .int .i64 (t.pos : Int)] 108))
 have HX := aH (Own.fresh w2 108 [.int .i64 (t.kd : Int), .string t.tx, .int .u64 (t.st.1 : Int), .int .u64 (t.st.2.1 : Int), .int .u64 (t.st.2.2.1 : Int), .int .u64 (t.st.2.2.2 : Int), .int .i64 (t.pos : Int)])
 have HGX := aH (show N < w2.heap.size from aL HR.o.lt hb2.size)
 clear hb2 H1 HU HR
 go_upto_region 2 with fail
 generalize World.alloc w2 _ = w3 at *
 generalize w2.heap.size = G at *
 have x1 : w3.cell? ⟨G, 1, none⟩ = some (.string t.tx) := HX.o.cell 1
 have xl := HX.o.lt
 go_wp2_with fail
 refine (HW1.o _).mono ?_
 rintro e w4 ⟨rfl, rfl⟩
 cases hwb : wordB t.tx
 case false =>
  have HWB := aH hwb
  clear hwb
  have HE := aH (show RES = badF L 2 (k) from by rw [HSP.o, if_neg (by rw [HWB.o]; decide)])
  go_wp2_with fail
  refine (HFL.o (k) (by omega) _ H2.o).mono ?_
  rintro e w5 ⟨rfl, hbu, hrd⟩
  have HR9 := aH (HR2.o.but hbu (by have := HGN.o; omega))
  have HU9 := aH (HU2.o.trans hbu (fun _ _ h => h))
  have HD9 := aH hrd
  clear hbu hrd
  obtain ⟨z0, z1, z2, z3, z4, z5, z6, y0, y1, y2, y3, y4, y5, y6⟩ := HR9.o.seven2
  have zl := HR9.o.lt
  go_wp2
  rw [set7t_fold]
  have HF := HR9.o.put7 (u0 := (.int .i64 0)) (u1 := (.string ⟨#[]⟩)) (u2 := (.int .u64 0)) (u3 := (.int .u64 0)) (u4 := (.int .u64 0)) (u5 := (.int .u64 0)) (u6 := (.slice none 0 0))
  obtain ⟨hU, hR⟩ := Rd.fin HH.o (Nat.le_of_eq HNN.o) HU9.o HD9.o (.int .i64 0) (.string ⟨#[]⟩) (.int .u64 0) (.int .u64 0) (.int .u64 0) (.int .u64 0) (.slice none 0 0)
  clear z0 z1 z2 z3 z4 z5 z6 y0 y1 y2 y3 y4 y5 y6
  generalize set7t w5 N (.int .i64 0) (.string ⟨#[]⟩) (.int .u64 0) (.int .u64 0) (.int .u64 0) (.int .u64 0) (.slice none 0 0) = w9 at *
  obtain ⟨z0, z1, z2, z3, z4, z5, z6⟩ := HF.seven
  refine bodyPost_ret (by simp [results, Try.results120, go_sem, z0, z1, z2, z3, z4, z5, z6]; rfl) rfl ?_
  rw [HE.o]
  exact ⟨hU, ex0, none, 0, rfl, (show (2 : Int) ≠ 0 by decide), ⟨_, hR⟩⟩
 case true =>
  have HWB := aH hwb
  clear hwb
  rw [if_pos HWB.o] at HSP
  obtain ⟨c0, c1, c2, c3, c4, c5, cg⟩ := H2.o.1.six_r
  have cf : w3.frozen? ⟨g, 1, none⟩ = false := H2.o.1.thaw 1
  have H5 := aH (H2.o.at1 (k + 1) (.int .i64 ((k : Int) + 1)) (by simp))
  have HU5 := aH (HU2.o.setCell (p := ⟨g, 1, none⟩) (fun _ => rfl) (.int .i64 ((k : Int) + 1)))
  have HR5 := aH (HR2.o.off (p := ⟨g, 1, none⟩) (by have := HGN.o; show N ≠ g; omega) (.int .i64 ((k : Int) + 1)))
  have HX5 := aH (HX.o.off (p := ⟨g, 1, none⟩) (by have := HGN.o; have := HGX.o; show G ≠ g; omega) (.int .i64 ((k : Int) + 1)))
  go_upto_region 5 with fail
  clear c0 c1 c2 c3 c4 c5 cg cf H2 HU2 HR2 HX x1 xl
  generalize World.setCell w3 _ _ = w5 at *
  obtain ⟨zs, hzs⟩ : ∃ z, isS L (k + 1) [58, 58] = z := ⟨_, rfl⟩
  have HTT := aH (HTK.o (k + 1) (by omega) ⟨#[58, 58]⟩ w5 H5.o)
  rw [show (⟨#[58, 58]⟩ : ByteArray).data.toList = [58, 58] from rfl, hzs] at HTT
  rw [hzs] at HSP
  clear hzs
  go_wp2_with fail
  refine HTT.o.mono ?_
  rintro e w6 ⟨rfl, hbu, hrd⟩
  have HR6 := aH (HR5.o.but hbu (by have := HGN.o; omega))
  have HX6 := aH (HX5.o.but hbu (by have := HGN.o; have := HGX.o; omega))
  have HU6 := aH (HU5.o.trans hbu (fun _ _ h => h))
  have H6 := aH hrd
  have x1 : w6.cell? ⟨G, 1, none⟩ = some (.string t.tx) := HX6.o.cell 1
  have xl := HX6.o.lt
  clear hbu hrd HTT H5 HU5 HR5 HX5
  cases zs
  case false =>
   rw [if_neg (by decide)] at HSP
   have HD6 := aH (show Rd w6 g lo lc L (k + 1) none from H6.o)
   have HE := aH HSP.o
   obtain ⟨z0, z1, z2, z3, z4, z5, z6, y0, y1, y2, y3, y4, y5, y6⟩ := HR6.o.seven2
   have zl := HR6.o.lt
   go_wp2
   rw [set7t_fold]
   have HF := HR6.o.put7 (u0 := (.int .i64 11)) (u1 := (.string t.tx)) (u2 := (.int .u64 0)) (u3 := (.int .u64 0)) (u4 := (.int .u64 0)) (u5 := (.int .u64 0)) (u6 := (.slice none 0 0))
   obtain ⟨hU, hR⟩ := Rd.fin HH.o (Nat.le_of_eq HNN.o) HU6.o HD6.o (.int .i64 11) (.string t.tx) (.int .u64 0) (.int .u64 0) (.int .u64 0) (.int .u64 0) (.slice none 0 0)
   clear z0 z1 z2 z3 z4 z5 z6 y0 y1 y2 y3 y4 y5 y6
   generalize set7t w6 N (.int .i64 11) (.string t.tx) (.int .u64 0) (.int .u64 0) (.int .u64 0) (.int .u64 0) (.slice none 0 0) = w9 at *
   obtain ⟨z0, z1, z2, z3, z4, z5, z6⟩ := HF.seven
   refine bodyPost_ret (by simp [results, Try.results120, go_sem, z0, z1, z2, z3, z4, z5, z6]; rfl) rfl ?_
   rw [HE.o]
   exact ⟨hU, _, none, 0, rfl, hR, rfl, 0, rfl⟩
  case true =>
   rw [if_pos rfl] at HSP
   have HD6 := aH (show Rd w6 g lo lc L (k + 2) none from H6.o)
   clear H6
   go_wp2_with fail
   refine (HNW.o (k + 2) (by omega) _ HD6.o).mono ?_
   obtain ⟨y, hy⟩ : ∃ y, tkA L (k + 2) = y := ⟨_, rfl⟩
   have HY := aH hy
   rw [hy] at HSP
   have HW2 := aH (HWD.o (k + 2))
   rw [hy] at HW2 ⊢
   clear hy
   unfold tokV
   rintro e w7 ⟨rfl, hb7⟩
   have H8 := aH ((HD6.o.below hb7).below (bA (.cells #[.int .i64 (y.kd : Int), .string y.tx, .int .u64 (y.st.1 : Int), .int .u64 (y.st.2.1 : Int), .int .u64 (y.st.2.2.1 : Int), .int .u64 (y.st.2.2.2 : Int), .int .i64 (y.pos : Int)] 108)))
   have HU8 := aH ((HU6.o.then_below hb7).alloc (.cells #[.int .i64 (y.kd : Int), .string y.tx, .int .u64 (y.st.1 : Int), .int .u64 (y.st.2.1 : Int), .int .u64 (y.st.2.2.1 : Int), .int .u64 (y.st.2.2.2 : Int), .int .i64 (y.pos : Int)] 108))
   have HR8 := aH ((HR6.o.under hb7 HR6.o.lt).on_alloc (.cells #[.int .i64 (y.kd : Int), .string y.tx, .int .u64 (y.st.1 : Int), .int .u64 (y.st.2.1 : Int), .int .u64 (y.st.2.2.1 : Int), .int .u64 (y.st.2.2.2 : Int), .int .i64 (y.pos : Int)] 108))
   have HX8 := aH ((HX6.o.under hb7 HX6.o.lt).on_alloc (.cells #[.int .i64 (y.kd : Int), .string y.tx, .int .u64 (y.st.1 : Int), .int .u64 (y.st.2.1 : Int), .int .u64 (y.st.2.2.1 : Int), .int .u64 (y.st.2.2.2 : Int), .int .i64 (y.pos : Int)] 108))
   have HV := aH (Own.fresh w7 108 [.int .i64 (y.kd : Int), .string y.tx, .int .u64 (y.st.1 : Int), .int .u64 (y.st.2.1 : Int), .int .u64 (y.st.2.2.1 : Int), .int .u64 (y.st.2.2.2 : Int), .int .i64 (y.pos : Int)])
   have HGV := aH (show G < w7.heap.size from aL HX6.o.lt hb7.size)
   clear hb7 HD6 HU6 HR6 HX6 x1 xl
   go_upto_region 8 with fail
   generalize World.alloc w7 _ = w8 at *
   generalize w7.heap.size = V at *
   have v0 : w8.cell? ⟨V, 0, none⟩ = some (.int .i64 (y.kd : Int)) := HV.o.cell 0
   have v1 : w8.cell? ⟨V, 1, none⟩ = some (.string y.tx) := HV.o.cell 1
   have vl := HV.o.lt
   have hkc : (((k + 2 : Nat) : Int)) = (k : Int) + 2 := by omega
   by_cases q1 : y.kd = 1
   ·
    have i1 : ((y.kd : Int) != 1) = false := by simp [q1]
    have j1 : (y.kd == 1) = true := by simp [q1]
    rw [j1, Bool.true_and] at HSP
    clear q1 j1
    go_wp2_with fail
    refine (HW2.o _).mono ?_
    rintro e w9 ⟨rfl, rfl⟩
    cases hwy : wordB y.tx
    case false =>
     have HWY := aH hwy
     clear hwy
     have HE := aH (show RES = badF L 2 (k + 2) from by rw [HSP.o, if_neg (by rw [HWY.o]; decide)])
     go_wp2_with fail
     refine (HFL.o (k + 2) (by omega) _ H8.o).mono ?_
     rintro e w10 ⟨rfl, hbu, hrd⟩
     have HR9 := aH (HR8.o.but hbu (by have := HGN.o; omega))
     have HU9 := aH (HU8.o.trans hbu (fun _ _ h => h))
     have HD9 := aH hrd
     clear hbu hrd
     obtain ⟨z0, z1, z2, z3, z4, z5, z6, y0, y1, y2, y3, y4, y5, y6⟩ := HR9.o.seven2
     have zl := HR9.o.lt
     go_wp2
     rw [set7t_fold]
     have HF := HR9.o.put7 (u0 := (.int .i64 0)) (u1 := (.string ⟨#[]⟩)) (u2 := (.int .u64 0)) (u3 := (.int .u64 0)) (u4 := (.int .u64 0)) (u5 := (.int .u64 0)) (u6 := (.slice none 0 0))
     obtain ⟨hU, hR⟩ := Rd.fin HH.o (Nat.le_of_eq HNN.o) HU9.o HD9.o (.int .i64 0) (.string ⟨#[]⟩) (.int .u64 0) (.int .u64 0) (.int .u64 0) (.int .u64 0) (.slice none 0 0)
     clear z0 z1 z2 z3 z4 z5 z6 y0 y1 y2 y3 y4 y5 y6
     generalize set7t w10 N (.int .i64 0) (.string ⟨#[]⟩) (.int .u64 0) (.int .u64 0) (.int .u64 0) (.int .u64 0) (.slice none 0 0) = w9 at *
     obtain ⟨z0, z1, z2, z3, z4, z5, z6⟩ := HF.seven
     refine bodyPost_ret (by simp [results, Try.results120, go_sem, z0, z1, z2, z3, z4, z5, z6]; rfl) rfl ?_
     rw [HE.o]
     exact ⟨hU, ex0, none, 0, rfl, (show (2 : Int) ≠ 0 by decide), ⟨_, hR⟩⟩
    case true =>
     have HWY := aH hwy
     rw [if_pos hwy] at HSP
     clear hwy
     obtain ⟨c0, c1, c2, c3, c4, c5, cg⟩ := H8.o.1.six_r
     have cf : w8.frozen? ⟨g, 1, none⟩ = false := H8.o.1.thaw 1
     have H10 := aH (H8.o.at1 (k + 3) (.int .i64 ((k : Int) + 2 + 1)) (by rw [show (k : Int) + 2 + 1 = ((k + 3 : Nat) : Int) by omega]))
     have HU10 := aH (HU8.o.setCell (p := ⟨g, 1, none⟩) (fun _ => rfl) (.int .i64 ((k : Int) + 2 + 1)))
     have HR10 := aH (HR8.o.off (p := ⟨g, 1, none⟩) (by have := HGN.o; show N ≠ g; omega) (.int .i64 ((k : Int) + 2 + 1)))
     have HX10 := aH (HX8.o.off (p := ⟨g, 1, none⟩) (by have := HGN.o; have := HGX.o; show G ≠ g; omega) (.int .i64 ((k : Int) + 2 + 1)))
     have HV10 := aH (HV.o.off (p := ⟨g, 1, none⟩) (by have := HGN.o; have := HGX.o; have := HGV.o; show V ≠ g; omega) (.int .i64 ((k : Int) + 2 + 1)))
     go_upto_region 11 with fail
     clear c0 c1 c2 c3 c4 c5 cg cf H8 HU8 HR8 HX8 HV v0 v1 vl
     generalize World.setCell w8 _ _ = w10 at *
     have x1 : w10.cell? ⟨G, 1, none⟩ = some (.string t.tx) := HX10.o.cell 1
     have xl := HX10.o.lt
     have v1 : w10.cell? ⟨V, 1, none⟩ = some (.string y.tx) := HV10.o.cell 1
     have vl := HV10.o.lt
     have s1 := wordB_size HWB.o
     have s2 := wordB_size HWY.o
     have s3 : ¬ 9223372036854775807 < t.tx.size + 2 := by omega
     have s4 : ¬ 9223372036854775807 < t.tx.size + 2 + y.tx.size := by omega
     have HE := aH HSP.o
     obtain ⟨z0, z1, z2, z3, z4, z5, z6, y0, y1, y2, y3, y4, y5, y6⟩ := HR10.o.seven2
     have zl := HR10.o.lt
     go_wp2
     rw [set7t_fold]
     have HF := HR10.o.put7 (u0 := (.int .i64 11)) (u1 := (.string (t.tx ++ ⟨#[58, 58]⟩ ++ y.tx))) (u2 := (.int .u64 0)) (u3 := (.int .u64 0)) (u4 := (.int .u64 0)) (u5 := (.int .u64 0)) (u6 := (.slice none 0 0))
     obtain ⟨hU, hR⟩ := Rd.fin HH.o (Nat.le_of_eq HNN.o) HU10.o H10.o (.int .i64 11) (.string (t.tx ++ ⟨#[58, 58]⟩ ++ y.tx)) (.int .u64 0) (.int .u64 0) (.int .u64 0) (.int .u64 0) (.slice none 0 0)
     clear z0 z1 z2 z3 z4 z5 z6 y0 y1 y2 y3 y4 y5 y6
     generalize set7t w10 N (.int .i64 11) (.string (t.tx ++ ⟨#[58, 58]⟩ ++ y.tx)) (.int .u64 0) (.int .u64 0) (.int .u64 0) (.int .u64 0) (.slice none 0 0) = w9 at *
     obtain ⟨z0, z1, z2, z3, z4, z5, z6⟩ := HF.seven
     refine bodyPost_ret (by simp [results, Try.results120, go_sem, z0, z1, z2, z3, z4, z5, z6]; rfl) rfl ?_
     rw [HE.o]
     exact ⟨hU, _, none, 0, rfl, hR, rfl, 0, rfl⟩
   ·
    have i1 : ((y.kd : Int) != 1) = true := by simp; omega
    have j1 : (y.kd == 1) = false := aN.2 q1
    rw [j1, Bool.false_and] at HSP
    clear q1 j1
    have HE := aH (show RES = badF L 2 (k + 2) from by rw [HSP.o, if_neg (by decide)])
    go_wp2_with fail
    refine (HFL.o (k + 2) (by omega) _ H8.o).mono ?_
    rintro e w10 ⟨rfl, hbu, hrd⟩
    have HR9 := aH (HR8.o.but hbu (by have := HGN.o; omega))
    have HU9 := aH (HU8.o.trans hbu (fun _ _ h => h))
    have HD9 := aH hrd
    clear hbu hrd
    obtain ⟨z0, z1, z2, z3, z4, z5, z6, y0, y1, y2, y3, y4, y5, y6⟩ := HR9.o.seven2
    have zl := HR9.o.lt
    go_wp2
    rw [set7t_fold]
    have HF := HR9.o.put7 (u0 := (.int .i64 0)) (u1 := (.string ⟨#[]⟩)) (u2 := (.int .u64 0)) (u3 := (.int .u64 0)) (u4 := (.int .u64 0)) (u5 := (.int .u64 0)) (u6 := (.slice none 0 0))
    obtain ⟨hU, hR⟩ := Rd.fin HH.o (Nat.le_of_eq HNN.o) HU9.o HD9.o (.int .i64 0) (.string ⟨#[]⟩) (.int .u64 0) (.int .u64 0) (.int .u64 0) (.int .u64 0) (.slice none 0 0)
    clear z0 z1 z2 z3 z4 z5 z6 y0 y1 y2 y3 y4 y5 y6
    generalize set7t w10 N (.int .i64 0) (.string ⟨#[]⟩) (.int .u64 0) (.int .u64 0) (.int .u64 0) (.int .u64 0) (.slice none 0 0) = w9 at *
    obtain ⟨z0, z1, z2, z3, z4, z5, z6⟩ := HF.seven
    refine bodyPost_ret (by simp [results, Try.results120, go_sem, z0, z1, z2, z3, z4, z5, z6]; rfl) rfl ?_
    rw [HE.o]
    exact ⟨hU, ex0, none, 0, rfl, (show (2 : Int) ≠ 0 by decide), ⟨_, hR⟩⟩
@[go_sem 2000] theorem ebuildS (k a b c d : Int) (w : World) : (Instr.build 79 #[(0, .int .i64 k), (2, .agg #[.int .u64 a, .int .u64 b, .int .u64 c, .int .u64 d])]).run Try.prog w = .ok (.agg #[.int .i64 k, .string ⟨#[]⟩, .int .u64 a, .int .u64 b, .int .u64 c, .int .u64 d, .slice none 0 0]) w := by kernel_rfl
@[go_sem 2000] theorem ebuild1 (k : Int) (w : World) : (Instr.build 79 #[(0, .int .i64 k)]).run Try.prog w = .ok (.agg #[.int .i64 k, .string ⟨#[]⟩, .int .u64 0, .int .u64 0, .int .u64 0, .int .u64 0, .slice none 0 0]) w := by kernel_rfl
theorem tkA_lt {L : List Tok} {k : Nat} (h : (tkA L k).kd ≠ 0) : k < L.length := by
 rcases Nat.lt_or_ge k L.length with h1 | h1
 ·
  exact h1
 ·
  rw [tkA_out h1] at h; exact absurd rfl h
theorem isS_lt {L : List Tok} {k : Nat} {s : List UInt8} (h : isS L k s = true) : k < L.length := by
 unfold isS at h
 rw [Bool.and_eq_true, beq_iff_eq] at h
 exact tkA_lt (by rw [h.1]; decide)
theorem OutQ.below {w w' : World} {g : Nat} {lo : Option Addr} {lc : Nat} {L : List Tok} {r : Rs} {D : Nat} {X : Ex} {ko : Option Addr} {w0 : World} (h : OutQ w0 g lo lc L r D X ko w) (hb : Below w.heap.size w w') : OutQ w0 g lo lc L r D X ko w' := by
 cases r with
 | ok q =>
  obtain ⟨x, m⟩ := q
  obtain ⟨h1, h2, n, h3⟩ := h
  exact ⟨h1.below hb, h2, n, HasE.but (But.of_below (S := fun _ => False) hb) (fun _ h => h.elim) h3⟩
 | error f =>
  obtain ⟨h1, k, h2⟩ := h
  exact ⟨h1, k, h2.below hb⟩
theorem Rd.set7 {w w3 : World} {g N k0 : Nat} {lo : Option Addr} {lc : Nat} {L : List Tok} {r : Rs} {D D' : Nat} {X : Ex} {ko : Option Addr} (H0 : Rd w g lo lc L k0 none) (hN : w.heap.size ≤ N) (hD : N < D) (hD' : D' ≤ D) (HU : But (fun j => j = g) w w3)
  (h : OutQ w g lo lc L r D X ko w3) (u0 u1 u2 u3 u4 u5 u6 : Value) : But (fun j => j = g) w (set7t w3 N u0 u1 u2 u3 u4 u5 u6) ∧ OutQ w g lo lc L r D' X ko (set7t w3 N u0 u1 u2 u3 u4 u5 u6) := by
 cases r with
 | ok q =>
  obtain ⟨x, m⟩ := q
  obtain ⟨h1, rfl, n, h2⟩ := h
  obtain ⟨a, b⟩ := Rd.fin (N := N) H0 hN HU h1 u0 u1 u2 u3 u4 u5 u6
  exact ⟨a, b, rfl, n, HasE.low hD' (HasE.but (But.set7 w3 N u0 u1 u2 u3 u4 u5 u6) (fun j hj => by omega) h2)⟩
 | error f =>
  obtain ⟨h1, k, h2⟩ := h
  obtain ⟨a, b⟩ := Rd.fin (N := N) H0 hN HU h2 u0 u1 u2 u3 u4 u5 u6
  exact ⟨a, h1, k, b⟩
theorem rd_prim (X : Nat → Rs) (big : Bool) (dp : Int) (hd : 0 ≤ dp ∧ dp ≤ 12) (hbig : big = decide (12 ≤ dp)) (g : Nat) (lo : Option Addr) (lc : Nat) (L : List Tok) (k : Nat) (hn : (L.length : Int) ≤ 90000) (hk : k ≤ L.length) (htx : ∀ t ∈ L, t.tx.size ≤ 1000000)
  (HXL : ∀ (j : Nat) (x : Ex) (m : Nat), j ≤ L.length → X j = .ok (x, m) → m ≤ L.length) (HX : big = false → ∀ (m : Nat), m ≤ L.length → ∀ W, Rd W g lo lc L m none → Calls Try.prog 97 #[.pointer (some ⟨g, 0, none⟩), .int .i64 (dp + 1)] W fun e w' => Out W g lo lc L (X m) e w') (w : World) (h : Rd w g lo lc L k none) :
  Calls Try.prog 118 #[.pointer (some ⟨g, 0, none⟩), .int .i64 dp] w fun e w' => Out w g lo lc L (primO L X big k) e w' := by
 have HH := aH h
 have HXX := aH HX
 have HNW := aH (fun (W : World) (hW : Rd W g lo lc L k none) => rd_now g lo lc L k none (by omega) (by omega) W hW)
 have HTK := aH (fun (m : Nat) (hm : (m : Int) ≤ 1000000) (s : ByteArray) (W : World) (hW : Rd W g lo lc L m none) => rd_take s g lo lc L m none (by omega) hm W hW)
 have HIS := aH (fun (s : ByteArray) (W : World) (hW : Rd W g lo lc L k none) => rd_is s g lo lc L k none (by omega) (by omega) W hW)
 have HFL := aH (fun (c : Int) (m : Nat) (hm : (m : Int) ≤ 1000000) (W : World) (hW : Rd W g lo lc L m none) => show Calls Try.prog 99 #[.pointer (some ⟨g, 0, none⟩), .int .i64 c] W fun e w' => e = .returned (.agg #[.int .i64 0, .string ⟨#[]⟩, .int .u64 0, .int .u64 0, .int .u64 0, .int .u64 0, .slice none 0 0]) ∧ But (fun j => j = g) W w' ∧ Rd w' g lo lc L m (some (c, ((tkA L m).pos : Int))) from rd_fail c g lo lc L m (by omega) hm W hW)
 have HRF := aH (fun (W : World) (hW : Rd W g lo lc L k none) => rd_ref g lo lc L k (by omega) (by omega) htx W hW)
 have HR := aH (Own.fresh w 79 [.int .i64 0, .string ⟨#[]⟩, .int .u64 0, .int .u64 0, .int .u64 0, .int .u64 0, .slice none 0 0])
 have H1 := aH (h.below (bA (.cells #[.int .i64 0, .string ⟨#[]⟩, .int .u64 0, .int .u64 0, .int .u64 0, .int .u64 0, .slice none 0 0] 79)))
 have HU := aH (But.of_below (S := fun j => j = g) ((Below.refl w.heap.size w).alloc (Nat.le_refl _) (.cells #[.int .i64 0, .string ⟨#[]⟩, .int .u64 0, .int .u64 0, .int .u64 0, .int .u64 0, .slice none 0 0] 79)))
 have HGN := aH (show g < w.heap.size from h.1.lt)
 have HSP := aH (show primO L X big k = if (tkA L k).kd = 2 then .ok (leafX 1 (tkA L k).tx, k + 1)
  else if (tkA L k).kd = 3 then .ok (.mk 2 ⟨#[]⟩ ((tkA L k).st.1 : Int) ((tkA L k).st.2.1 : Int) ((tkA L k).st.2.2.1 : Int) ((tkA L k).st.2.2.2 : Int) [], k + 1)
  else if (tkA L k).kd = 1 then refO L k
  else if isS L k [46] = true then .ok (leafX 3 ⟨#[]⟩, k + 1)
  else if isS L k [40] = true then
   (if big = true then badF L 3 k
    else match X (k + 1) with
     | .ok (e, m) => if isS L m [41] = true then .ok (e, m + 1) else badF L 2 m
     | .error e => .error e)
  else badF L 2 k from rfl)
 generalize primO L X big k = RES at *
 clear h HX
 have hw1 : IntKind.i64.wrap ((k : Int) + 1) = (k : Int) + 1 := wI
 have hwd : IntKind.i64.wrap (dp + 1) = dp + 1 := wI
 go_enter Try.func118, Try.ntmps118
 go_upto_region 1 with fail
 generalize World.alloc w _ = w1 at *
 obtain ⟨N, hN⟩ : ∃ N, w.heap.size = N := ⟨_, rfl⟩
 rw [hN] at HR HGN
 rw [hN]
 have HNN := aH hN
 clear hN
 go_wp2_with fail
 refine (HNW.o _ H1.o).mono ?_
 obtain ⟨t, ht⟩ : ∃ t, tkA L k = t := ⟨_, rfl⟩
 have HT := aH ht
 rw [ht] at HSP ⊢
 clear ht
 unfold tokV
 rintro e w2 ⟨rfl, hb2⟩
 have H2 := aH ((H1.o.below hb2).below (bA (.cells #[.int .i64 (t.kd : Int), .string t.tx, .int .u64 (t.st.1 : Int), .int .u64 (t.st.2.1 : Int), .int .u64 (t.st.2.2.1 : Int), .int .u64 (t.st.2.2.2 : Int), .int .i64 (t.pos : Int)] 108)))
 have HU2 := aH ((HU.o.then_below hb2).alloc (.cells #[.int .i64 (t.kd : Int), .string t.tx, .int .u64 (t.st.1 : Int), .int .u64 (t.st.2.1 : Int), .int .u64 (t.st.2.2.1 : Int), .int .u64 (t.st.2.2.2 : Int), .int .i64 (t.pos : Int)] 108))
 have HR2 := aH ((HR.o.under hb2 HR.o.lt).on_alloc (.cells #[.int .i64 (t.kd : Int), .string t.tx, .int .u64 (t.st.1 : Int), .int .u64 (t.st.2.1 : Int), .int .u64 (t.st.2.2.1 : Int), .int .u64 (t.st.2.2.2 : Int), .int .i64 (t.pos : Int)] 108))
 have HX := aH (Own.fresh w2 108 [.int .i64 (t.kd : Int), .string t.tx, .int .u64 (t.st.1 : Int), .int .u64 (t.st.2.1 : Int), .int .u64 (t.st.2.2.1 : Int), .int .u64 (t.st.2.2.2 : Int), .int .i64 (t.pos : Int)])
 have HGX := aH (show N < w2.heap.size from aL HR.o.lt hb2.size)
 clear hb2 H1 HU HR
 go_upto_region 2 with fail
 generalize World.alloc w2 _ = w3 at *
 generalize w2.heap.size = G at *
 have x0 : w3.cell? ⟨G, 0, none⟩ = some (.int .i64 (t.kd : Int)) := HX.o.cell 0
 have x1 : w3.cell? ⟨G, 1, none⟩ = some (.string t.tx) := HX.o.cell 1
 have x2 : w3.cell? ⟨G, 2, none⟩ = some (.int .u64 (t.st.1 : Int)) := HX.o.cell 2
 have x3 : w3.cell? ⟨G, 3, none⟩ = some (.int .u64 (t.st.2.1 : Int)) := HX.o.cell 3
 have x4 : w3.cell? ⟨G, 4, none⟩ = some (.int .u64 (t.st.2.2.1 : Int)) := HX.o.cell 4
 have x5 : w3.cell? ⟨G, 5, none⟩ = some (.int .u64 (t.st.2.2.2 : Int)) := HX.o.cell 5
 have xl := HX.o.lt
 by_cases q2 : t.kd = 2
 ·
  have i2 : ((t.kd : Int) == 2) = true := by simp [q2]
  have HE := aH (show RES = _ from by rw [HSP.o, if_pos q2])
  clear q2
  obtain ⟨c0, c1, c2, c3, c4, c5, cg⟩ := H2.o.1.six_r
  have cf : w3.frozen? ⟨g, 1, none⟩ = false := H2.o.1.thaw 1
  have H5 := aH (H2.o.at1 (k + 1) (.int .i64 ((k : Int) + 1)) (by simp))
  have HU5 := aH (HU2.o.setCell (p := ⟨g, 1, none⟩) (fun _ => rfl) (.int .i64 ((k : Int) + 1)))
  have HR5 := aH (HR2.o.off (p := ⟨g, 1, none⟩) (by have := HGN.o; show N ≠ g; omega) (.int .i64 ((k : Int) + 1)))
  have HX5 := aH (HX.o.off (p := ⟨g, 1, none⟩) (by have := HGN.o; have := HGX.o; show G ≠ g; omega) (.int .i64 ((k : Int) + 1)))
  go_upto_region 4 with fail
  clear c0 c1 c2 c3 c4 c5 cg cf H2 HU2 HR2 HX x0 x1 x2 x3 x4 x5 xl
  generalize World.setCell w3 _ _ = w5 at *
  have x1 : w5.cell? ⟨G, 1, none⟩ = some (.string t.tx) := HX5.o.cell 1
  have x2 : w5.cell? ⟨G, 2, none⟩ = some (.int .u64 (t.st.1 : Int)) := HX5.o.cell 2
  have x3 : w5.cell? ⟨G, 3, none⟩ = some (.int .u64 (t.st.2.1 : Int)) := HX5.o.cell 3
  have x4 : w5.cell? ⟨G, 4, none⟩ = some (.int .u64 (t.st.2.2.1 : Int)) := HX5.o.cell 4
  have x5 : w5.cell? ⟨G, 5, none⟩ = some (.int .u64 (t.st.2.2.2 : Int)) := HX5.o.cell 5
  have xl := HX5.o.lt
  obtain ⟨z0, z1, z2, z3, z4, z5, z6, y0, y1, y2, y3, y4, y5, y6⟩ := HR5.o.seven2
  have zl := HR5.o.lt
  go_wp2
  rw [set7t_fold]
  have HF := HR5.o.put7 (u0 := (.int .i64 1)) (u1 := (.string t.tx)) (u2 := (.int .u64 0)) (u3 := (.int .u64 0)) (u4 := (.int .u64 0)) (u5 := (.int .u64 0)) (u6 := (.slice none 0 0))
  obtain ⟨hU, hR⟩ := Rd.fin HH.o (Nat.le_of_eq HNN.o) HU5.o H5.o (.int .i64 1) (.string t.tx) (.int .u64 0) (.int .u64 0) (.int .u64 0) (.int .u64 0) (.slice none 0 0)
  clear z0 z1 z2 z3 z4 z5 z6 y0 y1 y2 y3 y4 y5 y6
  generalize set7t w5 N (.int .i64 1) (.string t.tx) (.int .u64 0) (.int .u64 0) (.int .u64 0) (.int .u64 0) (.slice none 0 0) = w9 at *
  obtain ⟨z0, z1, z2, z3, z4, z5, z6⟩ := HF.seven
  refine bodyPost_ret (by simp [results, Try.results118, go_sem, z0, z1, z2, z3, z4, z5, z6]; rfl) rfl ?_
  rw [HE.o]
  exact ⟨hU, _, none, 0, rfl, hR, rfl, 0, rfl⟩
 have i2 : ((t.kd : Int) == 2) = false := aN.2 (by omega)
 rw [if_neg q2] at HSP
 clear q2
 by_cases q3 : t.kd = 3
 ·
  have i3 : ((t.kd : Int) == 3) = true := by simp [q3]
  have HE := aH (show RES = _ from by rw [HSP.o, if_pos q3])
  clear q3
  obtain ⟨c0, c1, c2, c3, c4, c5, cg⟩ := H2.o.1.six_r
  have cf : w3.frozen? ⟨g, 1, none⟩ = false := H2.o.1.thaw 1
  have H5 := aH (H2.o.at1 (k + 1) (.int .i64 ((k : Int) + 1)) (by simp))
  have HU5 := aH (HU2.o.setCell (p := ⟨g, 1, none⟩) (fun _ => rfl) (.int .i64 ((k : Int) + 1)))
  have HR5 := aH (HR2.o.off (p := ⟨g, 1, none⟩) (by have := HGN.o; show N ≠ g; omega) (.int .i64 ((k : Int) + 1)))
  have HX5 := aH (HX.o.off (p := ⟨g, 1, none⟩) (by have := HGN.o; have := HGX.o; show G ≠ g; omega) (.int .i64 ((k : Int) + 1)))
  go_upto_region 7 with fail
  clear c0 c1 c2 c3 c4 c5 cg cf H2 HU2 HR2 HX x0 x1 x2 x3 x4 x5 xl
  generalize World.setCell w3 _ _ = w5 at *
  have x1 : w5.cell? ⟨G, 1, none⟩ = some (.string t.tx) := HX5.o.cell 1
  have x2 : w5.cell? ⟨G, 2, none⟩ = some (.int .u64 (t.st.1 : Int)) := HX5.o.cell 2
  have x3 : w5.cell? ⟨G, 3, none⟩ = some (.int .u64 (t.st.2.1 : Int)) := HX5.o.cell 3
  have x4 : w5.cell? ⟨G, 4, none⟩ = some (.int .u64 (t.st.2.2.1 : Int)) := HX5.o.cell 4
  have x5 : w5.cell? ⟨G, 5, none⟩ = some (.int .u64 (t.st.2.2.2 : Int)) := HX5.o.cell 5
  have xl := HX5.o.lt
  obtain ⟨z0, z1, z2, z3, z4, z5, z6, y0, y1, y2, y3, y4, y5, y6⟩ := HR5.o.seven2
  have zl := HR5.o.lt
  go_wp2
  rw [set7t_fold]
  have HF := HR5.o.put7 (u0 := (.int .i64 2)) (u1 := (.string ⟨#[]⟩)) (u2 := (.int .u64 (t.st.1 : Int))) (u3 := (.int .u64 (t.st.2.1 : Int))) (u4 := (.int .u64 (t.st.2.2.1 : Int))) (u5 := (.int .u64 (t.st.2.2.2 : Int))) (u6 := (.slice none 0 0))
  obtain ⟨hU, hR⟩ := Rd.fin HH.o (Nat.le_of_eq HNN.o) HU5.o H5.o (.int .i64 2) (.string ⟨#[]⟩) (.int .u64 (t.st.1 : Int)) (.int .u64 (t.st.2.1 : Int)) (.int .u64 (t.st.2.2.1 : Int)) (.int .u64 (t.st.2.2.2 : Int)) (.slice none 0 0)
  clear z0 z1 z2 z3 z4 z5 z6 y0 y1 y2 y3 y4 y5 y6
  generalize set7t w5 N (.int .i64 2) (.string ⟨#[]⟩) (.int .u64 (t.st.1 : Int)) (.int .u64 (t.st.2.1 : Int)) (.int .u64 (t.st.2.2.1 : Int)) (.int .u64 (t.st.2.2.2 : Int)) (.slice none 0 0) = w9 at *
  obtain ⟨z0, z1, z2, z3, z4, z5, z6⟩ := HF.seven
  refine bodyPost_ret (by simp [results, Try.results118, go_sem, z0, z1, z2, z3, z4, z5, z6]; rfl) rfl ?_
  rw [HE.o]
  exact ⟨hU, _, none, 0, rfl, hR, rfl, 0, rfl⟩
 have i3 : ((t.kd : Int) == 3) = false := aN.2 (by omega)
 rw [if_neg q3] at HSP
 clear q3
 by_cases q1 : t.kd = 1
 ·
  have i1 : ((t.kd : Int) == 1) = true := by simp [q1]
  have HE := aH (show RES = refO L k from by rw [HSP.o, if_pos q1])
  clear q1
  have HGW := aH (show G < w3.heap.size from xl)
  go_wp2_with fail
  refine (HRF.o _ H2.o).mono ?_
  rintro e w5 ⟨hbu, X2, ko, kc, rfl, hq⟩
  unfold exv
  have HR5 := aH (HR2.o.but hbu (by have := HGN.o; omega))
  have HU5 := aH (HU2.o.trans hbu (fun _ _ h => h))
  have HQ := aH (show OutQ w g lo lc L (refO L k) w3.heap.size X2 ko w5 from hq)
  clear hbu hq H2 HU2 HR2 HX x0 x1 x2 x3 x4 x5 xl
  obtain ⟨z0, z1, z2, z3, z4, z5, z6, y0, y1, y2, y3, y4, y5, y6⟩ := HR5.o.seven2
  have zl := HR5.o.lt
  go_wp2
  rw [set7t_fold]
  have HF := HR5.o.put7 (u0 := .int .i64 X2.op) (u1 := .string X2.text) (u2 := .int .u64 X2.s0) (u3 := .int .u64 X2.s1) (u4 := .int .u64 X2.s2) (u5 := .int .u64 X2.s3) (u6 := .slice ko X2.kids.length kc)
  obtain ⟨hU, hQ⟩ := Rd.set7 (N := N) (D' := w.heap.size) HH.o (Nat.le_of_eq HNN.o) (by have := HGX.o; have := HGW.o; omega) (by have := HGX.o; have := HGW.o; have := HNN.o; omega) HU5.o HQ.o (.int .i64 X2.op) (.string X2.text) (.int .u64 X2.s0) (.int .u64 X2.s1) (.int .u64 X2.s2) (.int .u64 X2.s3) (.slice ko X2.kids.length kc)
  clear z0 z1 z2 z3 z4 z5 z6 y0 y1 y2 y3 y4 y5 y6
  generalize set7t _ N _ _ _ _ _ _ _ = w9 at *
  obtain ⟨z0, z1, z2, z3, z4, z5, z6⟩ := HF.seven
  refine bodyPost_ret (by simp [results, Try.results118, go_sem, z0, z1, z2, z3, z4, z5, z6]; rfl) rfl ?_
  rw [HE.o]
  exact ⟨hU, X2, ko, kc, rfl, hQ⟩
 have i1 : ((t.kd : Int) == 1) = false := aN.2 (by omega)
 rw [if_neg q1] at HSP
 clear q1
 have HGW := aH (show G < w3.heap.size from xl)
 obtain ⟨z46, hz46⟩ : ∃ z, isS L (k) [46] = z := ⟨_, rfl⟩
 have HTT := aH (HTK.o (k) (by omega) ⟨#[46]⟩ w3 H2.o)
 rw [show (⟨#[46]⟩ : ByteArray).data.toList = [46] from rfl, hz46] at HTT
 rw [hz46] at HSP
 clear hz46
 go_wp2_with fail
 refine HTT.o.mono ?_
 rintro e w5 ⟨rfl, hbu, hrd⟩
 have HR5 := aH (HR2.o.but hbu (by have := HGN.o; omega))
 have HU5 := aH (HU2.o.trans hbu (fun _ _ h => h))
 have HS5 := aH (show w3.heap.size ≤ w5.heap.size from hbu.size)
 have HRD := aH hrd
 clear hbu hrd HTT H2 HU2 HR2 HX x0 x1 x2 x3 x4 x5 xl
 cases z46
 case true =>
  rw [if_pos rfl] at HSP
  have H5 := aH (show Rd w5 g lo lc L (k + 1) none from HRD.o)
  have HE := aH HSP.o
  obtain ⟨z0, z1, z2, z3, z4, z5, z6, y0, y1, y2, y3, y4, y5, y6⟩ := HR5.o.seven2
  have zl := HR5.o.lt
  go_wp2
  rw [set7t_fold]
  have HF := HR5.o.put7 (u0 := (.int .i64 3)) (u1 := (.string ⟨#[]⟩)) (u2 := (.int .u64 0)) (u3 := (.int .u64 0)) (u4 := (.int .u64 0)) (u5 := (.int .u64 0)) (u6 := (.slice none 0 0))
  obtain ⟨hU, hR⟩ := Rd.fin HH.o (Nat.le_of_eq HNN.o) HU5.o H5.o (.int .i64 3) (.string ⟨#[]⟩) (.int .u64 0) (.int .u64 0) (.int .u64 0) (.int .u64 0) (.slice none 0 0)
  clear z0 z1 z2 z3 z4 z5 z6 y0 y1 y2 y3 y4 y5 y6
  generalize set7t w5 N (.int .i64 3) (.string ⟨#[]⟩) (.int .u64 0) (.int .u64 0) (.int .u64 0) (.int .u64 0) (.slice none 0 0) = w9 at *
  obtain ⟨z0, z1, z2, z3, z4, z5, z6⟩ := HF.seven
  refine bodyPost_ret (by simp [results, Try.results118, go_sem, z0, z1, z2, z3, z4, z5, z6]; rfl) rfl ?_
  rw [HE.o]
  exact ⟨hU, _, none, 0, rfl, hR, rfl, 0, rfl⟩
 case false =>
  rw [if_neg (by decide)] at HSP
  have H5 := aH (show Rd w5 g lo lc L k none from HRD.o)
  clear HRD
  obtain ⟨z40, hz40⟩ : ∃ z, isS L k [40] = z := ⟨_, rfl⟩
  have HZ40 := aH hz40
  have HII := aH (HIS.o ⟨#[40]⟩ w5 H5.o)
  rw [show (⟨#[40]⟩ : ByteArray).data.toList = [40] from rfl, hz40] at HII
  rw [hz40] at HSP
  clear hz40
  go_wp2_with fail
  refine HII.o.mono ?_
  rintro e w6 ⟨rfl, hb6⟩
  have H6 := aH (H5.o.below hb6)
  have HR6 := aH (HR5.o.under hb6 HR5.o.lt)
  have HU6 := aH (HU5.o.then_below hb6)
  have HS6 := aH (show w3.heap.size ≤ w6.heap.size from Nat.le_trans HS5.o hb6.size)
  have HTT := aH (HTK.o k (by omega) ⟨#[40]⟩ w6 H6.o)
  rw [show (⟨#[40]⟩ : ByteArray).data.toList = [40] from rfl, HZ40.o] at HTT
  clear hb6 H5 HR5 HU5 HS5 HII
  cases z40
  case false =>
   rw [if_neg (by decide)] at HSP
   go_wp2_with fail
   refine HTT.o.mono ?_
   rintro e w7 ⟨rfl, hbu, hrd⟩
   have H7 := aH (show Rd w7 g lo lc L k none from hrd)
   have HR7 := aH (HR6.o.but hbu (by have := HGN.o; omega))
   have HU7 := aH (HU6.o.trans hbu (fun _ _ h => h))
   clear hbu hrd HTT H6 HR6 HU6
   have HE := aH (show RES = badF L 2 (k) from by exact HSP.o)
   go_wp2_with fail
   refine (HFL.o 2 (k) (by omega) _ H7.o).mono ?_
   rintro e w8 ⟨rfl, hbu, hrd⟩
   have HR9 := aH (HR7.o.but hbu (by have := HGN.o; omega))
   have HU9 := aH (HU7.o.trans hbu (fun _ _ h => h))
   have HD9 := aH hrd
   clear hbu hrd
   obtain ⟨z0, z1, z2, z3, z4, z5, z6, y0, y1, y2, y3, y4, y5, y6⟩ := HR9.o.seven2
   have zl := HR9.o.lt
   go_wp2
   rw [set7t_fold]
   have HF := HR9.o.put7 (u0 := (.int .i64 0)) (u1 := (.string ⟨#[]⟩)) (u2 := (.int .u64 0)) (u3 := (.int .u64 0)) (u4 := (.int .u64 0)) (u5 := (.int .u64 0)) (u6 := (.slice none 0 0))
   obtain ⟨hU, hR⟩ := Rd.fin HH.o (Nat.le_of_eq HNN.o) HU9.o HD9.o (.int .i64 0) (.string ⟨#[]⟩) (.int .u64 0) (.int .u64 0) (.int .u64 0) (.int .u64 0) (.slice none 0 0)
   clear z0 z1 z2 z3 z4 z5 z6 y0 y1 y2 y3 y4 y5 y6
   generalize set7t w8 N (.int .i64 0) (.string ⟨#[]⟩) (.int .u64 0) (.int .u64 0) (.int .u64 0) (.int .u64 0) (.slice none 0 0) = w9 at *
   obtain ⟨z0, z1, z2, z3, z4, z5, z6⟩ := HF.seven
   refine bodyPost_ret (by simp [results, Try.results118, go_sem, z0, z1, z2, z3, z4, z5, z6]; rfl) rfl ?_
   rw [HE.o]
   exact ⟨hU, ex0, none, 0, rfl, (show (2 : Int) ≠ 0 by decide), ⟨_, hR⟩⟩
  case true =>
   rw [if_pos rfl] at HSP
   by_cases hdp : 12 ≤ dp
   ·
    have HBG := aH (show big = true from by rw [hbig]; exact aT hdp)
    rw [if_pos HBG.o] at HSP
    have HE := aH (show RES = badF L 3 (k) from by exact HSP.o)
    go_wp2_with fail
    refine (HFL.o 3 (k) (by omega) _ H6.o).mono ?_
    rintro e w8 ⟨rfl, hbu, hrd⟩
    have HR9 := aH (HR6.o.but hbu (by have := HGN.o; omega))
    have HU9 := aH (HU6.o.trans hbu (fun _ _ h => h))
    have HD9 := aH hrd
    clear hbu hrd
    obtain ⟨z0, z1, z2, z3, z4, z5, z6, y0, y1, y2, y3, y4, y5, y6⟩ := HR9.o.seven2
    have zl := HR9.o.lt
    go_wp2
    rw [set7t_fold]
    have HF := HR9.o.put7 (u0 := (.int .i64 0)) (u1 := (.string ⟨#[]⟩)) (u2 := (.int .u64 0)) (u3 := (.int .u64 0)) (u4 := (.int .u64 0)) (u5 := (.int .u64 0)) (u6 := (.slice none 0 0))
    obtain ⟨hU, hR⟩ := Rd.fin HH.o (Nat.le_of_eq HNN.o) HU9.o HD9.o (.int .i64 0) (.string ⟨#[]⟩) (.int .u64 0) (.int .u64 0) (.int .u64 0) (.int .u64 0) (.slice none 0 0)
    clear z0 z1 z2 z3 z4 z5 z6 y0 y1 y2 y3 y4 y5 y6
    generalize set7t w8 N (.int .i64 0) (.string ⟨#[]⟩) (.int .u64 0) (.int .u64 0) (.int .u64 0) (.int .u64 0) (.slice none 0 0) = w9 at *
    obtain ⟨z0, z1, z2, z3, z4, z5, z6⟩ := HF.seven
    refine bodyPost_ret (by simp [results, Try.results118, go_sem, z0, z1, z2, z3, z4, z5, z6]; rfl) rfl ?_
    rw [HE.o]
    exact ⟨hU, ex0, none, 0, rfl, (show (3 : Int) ≠ 0 by decide), ⟨_, hR⟩⟩
   ·
    have HBG := aH (show big = false from by rw [hbig]; exact aF hdp)
    have hdp' : decide (12 ≤ dp) = false := aF hdp
    rw [if_neg (by rw [HBG.o]; decide)] at HSP
    have hkl : k + 1 ≤ L.length := isS_lt HZ40.o
    go_wp2_with fail
    refine HTT.o.mono ?_
    rintro e w7 ⟨rfl, hbu, hrd⟩
    have H7 := aH (show Rd w7 g lo lc L (k + 1) none from hrd)
    have HR7 := aH (HR6.o.but hbu (by have := HGN.o; omega))
    have HU7 := aH (HU6.o.trans hbu (fun _ _ h => h))
    have HS7 := aH (show w3.heap.size ≤ w7.heap.size from Nat.le_trans HS6.o hbu.size)
    clear hbu hrd HTT H6 HR6 HU6 HS6
    go_wp2_with fail
    refine (HXX.o HBG.o (k + 1) hkl w7 H7.o).mono ?_
    rintro e w8 ⟨hbu, X2, ko, kc, rfl, hq⟩
    unfold exv
    have HR8 := aH (HR7.o.but hbu (by have := HGN.o; omega))
    have HU8 := aH (HU7.o.trans hbu (fun _ _ h => h))
    have HS8 := aH (show w7.heap.size ≤ w8.heap.size from hbu.size)
    have HQ8 := aH (show OutQ w g lo lc L (X (k + 1)) w7.heap.size X2 ko w8 from hq)
    clear hbu hq H7 HR7 HU7
    have HQ9 := aH (HQ8.o.below (bA (.cells #[.int .i64 X2.op, .string X2.text, .int .u64 X2.s0, .int .u64 X2.s1, .int .u64 X2.s2, .int .u64 X2.s3, .slice ko X2.kids.length kc] 79)))
    have HR9 := aH (HR8.o.on_alloc (.cells #[.int .i64 X2.op, .string X2.text, .int .u64 X2.s0, .int .u64 X2.s1, .int .u64 X2.s2, .int .u64 X2.s3, .slice ko X2.kids.length kc] 79))
    have HU9 := aH (HU8.o.alloc (.cells #[.int .i64 X2.op, .string X2.text, .int .u64 X2.s0, .int .u64 X2.s1, .int .u64 X2.s2, .int .u64 X2.s3, .slice ko X2.kids.length kc] 79))
    have HE9 := aH (Own.fresh w8 79 [.int .i64 X2.op, .string X2.text, .int .u64 X2.s0, .int .u64 X2.s1, .int .u64 X2.s2, .int .u64 X2.s3, .slice ko X2.kids.length kc])
    go_upto_region 16 with fail
    clear HR8 HU8 HQ8
    generalize World.alloc w8 _ = w9 at *
    generalize w8.heap.size = E at *
    obtain ⟨r, hr⟩ : ∃ r, X (k + 1) = r := ⟨_, rfl⟩
    have HXR := aH (fun x m (h : r = .ok (x, m)) => HXL (k + 1) x m hkl (hr.trans h))
    rw [hr] at HQ9 HSP
    clear hr
    cases r
    case error f =>
     obtain ⟨hf, kf, hR⟩ := HQ9.o
     obtain ⟨c0, c1, c2, c3, c4, c5, cg⟩ := hR.1.six_r
     have c2' : w9.cell? ⟨g, 2, none⟩ = some (.int .i64 f.1) := c2
     have ef : (f.1 == 0) = false := aN.2 hf
     obtain ⟨m0, m1, m2, m3, m4, m5, m6, -⟩ := HE9.o.seven2
     have ml := HE9.o.lt
     have HQ := aH HQ9.o
     have HE := aH (show RES = .error f from HSP.o)
     clear c2 hR HQ9 hf
     obtain ⟨z0, z1, z2, z3, z4, z5, z6, y0, y1, y2, y3, y4, y5, y6⟩ := HR9.o.seven2
     have zl := HR9.o.lt
     go_wp2
     rw [set7t_fold]
     have HF := HR9.o.put7 (u0 := .int .i64 X2.op) (u1 := .string X2.text) (u2 := .int .u64 X2.s0) (u3 := .int .u64 X2.s1) (u4 := .int .u64 X2.s2) (u5 := .int .u64 X2.s3) (u6 := .slice ko X2.kids.length kc)
     obtain ⟨hU, hQ⟩ := Rd.set7 (N := N) (D' := w.heap.size) HH.o (Nat.le_of_eq HNN.o) (by have := HGX.o; have := HGW.o; have := HS7.o; omega) (by have := HGX.o; have := HGW.o; have := HNN.o; have := HS7.o; omega) HU9.o HQ.o (.int .i64 X2.op) (.string X2.text) (.int .u64 X2.s0) (.int .u64 X2.s1) (.int .u64 X2.s2) (.int .u64 X2.s3) (.slice ko X2.kids.length kc)
     clear z0 z1 z2 z3 z4 z5 z6 y0 y1 y2 y3 y4 y5 y6
     generalize set7t _ N _ _ _ _ _ _ _ = w9 at *
     obtain ⟨z0, z1, z2, z3, z4, z5, z6⟩ := HF.seven
     refine bodyPost_ret (by simp [results, Try.results118, go_sem, z0, z1, z2, z3, z4, z5, z6]; rfl) rfl ?_
     rw [HE.o]
     exact ⟨hU, X2, ko, kc, rfl, hQ⟩
    case ok pq =>
     obtain ⟨x, m⟩ := pq
     obtain ⟨hR, hx, n2, hE2⟩ := HQ9.o
     subst hx
     have hml := HXR.o x m rfl
     have H9 := aH hR
     have HT9 := aH hE2
     obtain ⟨c0, c1, c2, c3, c4, c5, cg⟩ := hR.1.six_r
     have c2' : w9.cell? ⟨g, 2, none⟩ = some (.int .i64 0) := c2
     clear c2 hR hE2 HQ9
     obtain ⟨z41, hz41⟩ : ∃ z, isS L (m) [41] = z := ⟨_, rfl⟩
     have HTT := aH (HTK.o (m) (by omega) ⟨#[41]⟩ w9 H9.o)
     rw [show (⟨#[41]⟩ : ByteArray).data.toList = [41] from rfl, hz41] at HTT
     have HSQ := aH (show RES = if z41 = true then .ok (x, m + 1) else badF L 2 m from by rw [HSP.o, ← hz41])
     clear hz41
     go_wp2_with fail
     refine HTT.o.mono ?_
     rintro e w10 ⟨rfl, hbu, hrd⟩
     have HR10 := aH (HR9.o.but hbu (by have := HGN.o; omega))
     have HU10 := aH (HU9.o.trans hbu (fun _ _ h => h))
     have HE10 := aH (HE9.o.but hbu (by have := HGN.o; have := HGX.o; have := HGW.o; have := HS7.o; have := HS8.o; omega))
     have HT10 := aH (HasE.but hbu (fun j hj => by have := HGN.o; have := HGX.o; have := HGW.o; have := HS7.o; omega) HT9.o)
     have HRD := aH hrd
     clear hbu hrd HTT HR9 HU9 HE9 HT9 H9 c0 c1 c2' c3 c4 c5 cg
     cases z41
     case false =>
      rw [if_neg (by decide)] at HSQ
      have H10 := aH (show Rd w10 g lo lc L m none from HRD.o)
      have HE := aH (show RES = badF L 2 (m) from by exact HSQ.o)
      go_wp2_with fail
      refine (HFL.o 2 (m) (by omega) _ H10.o).mono ?_
      rintro e w11 ⟨rfl, hbu, hrd⟩
      have HR9 := aH (HR10.o.but hbu (by have := HGN.o; omega))
      have HU9 := aH (HU10.o.trans hbu (fun _ _ h => h))
      have HD9 := aH hrd
      clear hbu hrd
      obtain ⟨z0, z1, z2, z3, z4, z5, z6, y0, y1, y2, y3, y4, y5, y6⟩ := HR9.o.seven2
      have zl := HR9.o.lt
      go_wp2
      rw [set7t_fold]
      have HF := HR9.o.put7 (u0 := (.int .i64 0)) (u1 := (.string ⟨#[]⟩)) (u2 := (.int .u64 0)) (u3 := (.int .u64 0)) (u4 := (.int .u64 0)) (u5 := (.int .u64 0)) (u6 := (.slice none 0 0))
      obtain ⟨hU, hR⟩ := Rd.fin HH.o (Nat.le_of_eq HNN.o) HU9.o HD9.o (.int .i64 0) (.string ⟨#[]⟩) (.int .u64 0) (.int .u64 0) (.int .u64 0) (.int .u64 0) (.slice none 0 0)
      clear z0 z1 z2 z3 z4 z5 z6 y0 y1 y2 y3 y4 y5 y6
      generalize set7t w11 N (.int .i64 0) (.string ⟨#[]⟩) (.int .u64 0) (.int .u64 0) (.int .u64 0) (.int .u64 0) (.slice none 0 0) = w9 at *
      obtain ⟨z0, z1, z2, z3, z4, z5, z6⟩ := HF.seven
      refine bodyPost_ret (by simp [results, Try.results118, go_sem, z0, z1, z2, z3, z4, z5, z6]; rfl) rfl ?_
      rw [HE.o]
      exact ⟨hU, ex0, none, 0, rfl, (show (2 : Int) ≠ 0 by decide), ⟨_, hR⟩⟩
     case true =>
      rw [if_pos rfl] at HSQ
      have H10 := aH (show Rd w10 g lo lc L (m + 1) none from HRD.o)
      obtain ⟨m0, m1, m2, m3, m4, m5, m6, -⟩ := HE10.o.seven2
      have ml := HE10.o.lt
      obtain ⟨X2, hX2⟩ : ∃ X2, x = X2 := ⟨_, rfl⟩
      subst hX2
      have HQ := aH (show OutQ w g lo lc L (.ok (x, m + 1)) w7.heap.size x ko w10 from ⟨H10.o, rfl, n2, HT10.o⟩)
      have HE := aH HSQ.o
      obtain ⟨z0, z1, z2, z3, z4, z5, z6, y0, y1, y2, y3, y4, y5, y6⟩ := HR10.o.seven2
      have zl := HR10.o.lt
      go_wp2
      rw [set7t_fold]
      have HF := HR10.o.put7 (u0 := .int .i64 x.op) (u1 := .string x.text) (u2 := .int .u64 x.s0) (u3 := .int .u64 x.s1) (u4 := .int .u64 x.s2) (u5 := .int .u64 x.s3) (u6 := .slice ko x.kids.length kc)
      obtain ⟨hU, hQ⟩ := Rd.set7 (N := N) (D' := w.heap.size) HH.o (Nat.le_of_eq HNN.o) (by have := HGX.o; have := HGW.o; have := HS7.o; omega) (by have := HGX.o; have := HGW.o; have := HNN.o; have := HS7.o; omega) HU10.o HQ.o (.int .i64 x.op) (.string x.text) (.int .u64 x.s0) (.int .u64 x.s1) (.int .u64 x.s2) (.int .u64 x.s3) (.slice ko x.kids.length kc)
      clear z0 z1 z2 z3 z4 z5 z6 y0 y1 y2 y3 y4 y5 y6
      generalize set7t _ N _ _ _ _ _ _ _ = w9 at *
      obtain ⟨z0, z1, z2, z3, z4, z5, z6⟩ := HF.seven
      refine bodyPost_ret (by simp [results, Try.results118, go_sem, z0, z1, z2, z3, z4, z5, z6]; rfl) rfl ?_
      rw [HE.o]
      exact ⟨hU, x, ko, kc, rfl, hQ⟩
end Go.Proofs.Ytbjgojdpfehnmaa
