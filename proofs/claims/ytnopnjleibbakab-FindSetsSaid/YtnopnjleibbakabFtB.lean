/- What queries lead to, by definition: is a node as a step asks. -/
import Derived.Test.YtnopnjleibbakabFtA
import Derived.BigQuiet
namespace Go.Proofs.Ytnopnjleibbakab
set_option linter.unusedVariables false
open Go.RowKit Go.Sort

theorem contains_empty {s x : ByteArray} (h : x.toList.isEmpty = true) : Lib.contains s.data.toList x.data.toList = true := by
  have e : x.data.toList = [] := by rw [← ByteArray.toList_eq]; exact List.isEmpty_iff.1 h
  unfold Lib.contains
  rw [e, Lib.index_empty]; rfl

set_option maxRecDepth 1000000 in
set_option maxHeartbeats 3200000 in
theorem passes_any (l : Nodes) (ao : Option Addr) (cap : Nat) (s : ByteArray) (hs : (s.size : Int) ≤ 1000) (i : Nat) (hi : i < l.n) (x : Hp) (hh : (x.has.size : Int) ≤ 1000000) (B : Nat) (hn : (l.n : Int) ≤ 1000) (w : World) (hB : B ≤ w.heap.size) (hl : Has w ao B l) :
    Calls Try.prog 26 #[.slice ao l.n cap, .string s, .int .i64 (i : Int), .agg #[.int .i64 x.ax, .int .i64 x.kd, .string x.nm, .string x.is, .string x.has, .int .i64 x.nth]] w fun e w' => e = .returned (.bool (isB l s i x)) ∧ Below w.heap.size w w' := by
  have HI := Lib.hid (show isB l s i x = (kindB l i x && nameB l i x && textB l s i x) from rfl)
  generalize isB l s i x = R at *
  have HT := Lib.hid (rtext_any l ao cap s hs (i : Int) B hn)
  have HTB := Lib.hid (show textB l s i x = ((x.is.toList.isEmpty || (nodeT l s i).toList == x.is.toList) && Lib.contains (nodeT l s i).data.toList x.has.data.toList) from rfl)
  have HTS := Lib.hid (nodeT_size l s i)
  generalize textB l s i x = TB at *
  obtain ⟨T, hT⟩ : ∃ T, nodeT l s i = T := ⟨_, rfl⟩
  rw [hT] at HT HTB HTS
  obtain ⟨b, off, rfl, hb, c0, c1, c2, c3, c4⟩ := hl i hi
  have HB0 := Lib.hid ((Below.refl w.heap.size w).alloc (Nat.le_refl _) (.cells #[.int .i64 x.ax, .int .i64 x.kd, .string x.nm, .string x.is, .string x.has, .int .i64 x.nth] 33))
  have HL := Lib.hid (show Has (w.alloc (.cells #[.int .i64 x.ax, .int .i64 x.kd, .string x.nm, .string x.is, .string x.has, .int .i64 x.nth] 33)) _ B l from hl.keep HB0.out hB)
  have HO := Lib.hid (Own.fresh w 33 [.int .i64 x.ax, .int .i64 x.kd, .string x.nm, .string x.is, .string x.has, .int .i64 x.nth])
  have d0 := keepc c0 HB0.out
  have d1 := keepc c1 HB0.out
  have d2 := keepc c2 HB0.out
  have d3 := keepc c3 HB0.out
  have d4 := keepc c4 HB0.out
  have hbw : b < w.heap.size := by omega
  have hi' : (i : Int) < l.n := by omega
  have HBS := Lib.hid hB
  clear hl c0 c1 c2 c3 c4 hT hB hb
  go_enter Try.func26, Try.ntmps26
  go_upto_region 1 with fail
  generalize World.alloc w _ = w1 at *
  have hbw1 : b < w1.heap.size := Nat.lt_of_lt_of_le hbw HB0.out.size
  obtain ⟨kd, hkd⟩ : ∃ k, l.kd i = k := ⟨_, rfl⟩
  obtain ⟨nm, hnm⟩ : ∃ k, l.nm i = k := ⟨_, rfl⟩
  obtain ⟨f2, hf2⟩ : ∃ k, l.fr i = k := ⟨_, rfl⟩
  obtain ⟨f3, hf3⟩ : ∃ k, l.tt i = k := ⟨_, rfl⟩
  obtain ⟨f4, hf4⟩ : ∃ k, l.up i = k := ⟨_, rfl⟩
  rw [hkd] at d0
  rw [hnm] at d1
  rw [hf2] at d2
  rw [hf3] at d3
  rw [hf4] at d4
  have HKB := Lib.hid (show kindB l i x = (x.kd == 0 || kd == x.kd) by unfold kindB; rw [hkd])
  have HNB := Lib.hid (show nameB l i x = (x.nm.toList.isEmpty || ((kd == 1 || kd == 2) && nm.toList == x.nm.toList)) by unfold nameB; rw [hkd, hnm])
  rw [HKB.out, HNB.out] at HI
  clear hkd hnm hf2 hf3 hf4 HKB HNB
  go_upto_region 2 with fail
  have HB2 := Lib.hid (HB0.out.alloc HB0.out.size (.cells #[.int .i64 kd, .string nm, .int .i64 f2, .int .i64 f3, .int .i64 f4] 54))
  have HL2 := Lib.hid (show Has (w1.alloc (.cells #[.int .i64 kd, .string nm, .int .i64 f2, .int .i64 f3, .int .i64 f4] 54)) _ B l from HL.out.keep ((Below.refl _ _).alloc (Nat.le_refl _) _) (Nat.le_trans HBS.out HB0.out.size))
  have HO2 := Lib.hid (HO.out.on_alloc (.cells #[.int .i64 kd, .string nm, .int .i64 f2, .int .i64 f3, .int .i64 f4] 54))
  have HN2 := Lib.hid (Own.fresh w1 54 [.int .i64 kd, .string nm, .int .i64 f2, .int .i64 f3, .int .i64 f4])
  clear HB0 HL HO d0 d1 d2 d3 d4 hbw1
  generalize World.alloc w1 _ = w2 at *
  generalize w1.heap.size = G at *
  obtain ⟨x0, x1, x2, x3, x4, x5, xg, -⟩ := HO2.out.six
  have n0 : w2.cell? ⟨G, 0, none⟩ = some (.int .i64 kd) := HN2.out.cell 0
  have n1 : w2.cell? ⟨G, 1, none⟩ = some (.string nm) := HN2.out.cell 1
  have ng := HN2.out.lt
  obtain ⟨NM, hNM⟩ : ∃ z, ((kd == 1 || kd == 2) && nm.toList == x.nm.toList) = z := ⟨_, rfl⟩
  rw [hNM] at HI
  have HNM := Lib.hid hNM
  clear hNM
  go_cut [10] (fun c wx => c = .bool NM ∧ w2 = wx)
  case first =>
    obtain ⟨z1, hz1⟩ : ∃ z, (nm.toList == x.nm.toList) = z := ⟨_, rfl⟩
    rw [hz1] at HNM
    by_cases q1 : kd = 1
    · have e1 : (kd == 1) = true := by simp [q1]
      rw [e1] at HNM
      clear q1
      cases z1
      all_goals
        have HG := Lib.hid HNM.out.symm
        go_wp2_with fail
        go_meet
        exact ⟨by rw [HG.out]; rfl, rfl⟩
    · have e1 : (kd == 1) = false := by simp [q1]
      rw [e1] at HNM
      clear q1
      by_cases q2 : kd = 2
      · have e2 : (kd == 2) = true := by simp [q2]
        rw [e2] at HNM
        clear q2
        cases z1
        all_goals
          have HG := Lib.hid HNM.out.symm
          go_wp2_with fail
          go_meet
          exact ⟨by rw [HG.out]; rfl, rfl⟩
      · have e2 : (kd == 2) = false := by simp [q2]
        rw [e2] at HNM
        clear q2
        have HG := Lib.hid HNM.out.symm
        go_wp2_with fail
        go_meet
        exact ⟨by rw [HG.out]; rfl, rfl⟩
  case rest =>
    obtain ⟨rfl, rfl⟩ := hcut
    clear HNM
    go_wp2_with fail
    refine (HT.out _ (Nat.le_trans HBS.out HB2.out.size) HL2.out).mono ?_
    rintro e w3 ⟨rfl, hb3⟩
    have HO3 := Lib.hid (HO2.out.under hb3 HO2.out.lt)
    have HN3 := Lib.hid (HN2.out.under hb3 HN2.out.lt)
    have HB3 := Lib.hid (keepb HB2.out hb3)
    clear hb3 HO2 HN2 HB2 HL2 x0 x1 x2 x3 x4 x5 xg n0 n1 ng
    obtain ⟨x0, x1, x2, x3, x4, x5, xg, -⟩ := HO3.out.six
    have n0 : w3.cell? ⟨G, 0, none⟩ = some (.int .i64 kd) := HN3.out.cell 0
    have ng := HN3.out.lt
    have HC := Lib.hid (rcontains_any T x.has (by have := HTS.out; omega) hh w3)
    have HE0 := Lib.hid (fun h => @contains_empty T x.has h)
    generalize Lib.contains T.data.toList x.has.data.toList = cb at *
    obtain ⟨z0, hz0⟩ : ∃ z, x.nm.toList.isEmpty = z := ⟨_, rfl⟩
    obtain ⟨i0, hi0⟩ : ∃ z, x.is.toList.isEmpty = z := ⟨_, rfl⟩
    obtain ⟨i1, hi1⟩ : ∃ z, (T.toList == x.is.toList) = z := ⟨_, rfl⟩
    obtain ⟨h0, hh0⟩ : ∃ z, x.has.toList.isEmpty = z := ⟨_, rfl⟩
    rw [hz0] at HI
    rw [hi0, hi1] at HTB
    rw [hh0] at HE0
    by_cases q1 : x.kd = 0
    · have e1 : (x.kd == 0) = true := by simp [q1]
      rw [e1] at HI
      clear q1
      cases z0 with
      | true =>
        cases i0 with
        | true =>
          cases h0 with
          | true =>
            go_wp2
            go_ret
            exact ⟨ret_bool (by rw [HI.out]; try rw [HTB.out]
                                try rw [HE0.out trivial]
                                rfl), HB3.out⟩
          | false =>
            go_wp2_with fail
            refine HC.out.mono ?_
            rintro e w4 ⟨rfl, rfl⟩
            go_wp2
            go_ret
            exact ⟨ret_bool (by rw [HI.out]; try rw [HTB.out]
                                try rw [HE0.out trivial]
                                rfl), HB3.out⟩
        | false =>
          cases i1 with
          | true =>
            cases h0 with
            | true =>
              go_wp2
              go_ret
              exact ⟨ret_bool (by rw [HI.out]; try rw [HTB.out]
                                  try rw [HE0.out trivial]
                                  rfl), HB3.out⟩
            | false =>
              go_wp2_with fail
              refine HC.out.mono ?_
              rintro e w4 ⟨rfl, rfl⟩
              go_wp2
              go_ret
              exact ⟨ret_bool (by rw [HI.out]; try rw [HTB.out]
                                  try rw [HE0.out trivial]
                                  rfl), HB3.out⟩
          | false =>
            go_wp2
            go_ret
            exact ⟨ret_bool (by rw [HI.out]; try rw [HTB.out]
                                try rw [HE0.out trivial]
                                rfl), HB3.out⟩
      | false =>
        cases NM with
        | true =>
          cases i0 with
          | true =>
            cases h0 with
            | true =>
              go_wp2
              go_ret
              exact ⟨ret_bool (by rw [HI.out]; try rw [HTB.out]
                                  try rw [HE0.out trivial]
                                  rfl), HB3.out⟩
            | false =>
              go_wp2_with fail
              refine HC.out.mono ?_
              rintro e w4 ⟨rfl, rfl⟩
              go_wp2
              go_ret
              exact ⟨ret_bool (by rw [HI.out]; try rw [HTB.out]
                                  try rw [HE0.out trivial]
                                  rfl), HB3.out⟩
          | false =>
            cases i1 with
            | true =>
              cases h0 with
              | true =>
                go_wp2
                go_ret
                exact ⟨ret_bool (by rw [HI.out]; try rw [HTB.out]
                                    try rw [HE0.out trivial]
                                    rfl), HB3.out⟩
              | false =>
                go_wp2_with fail
                refine HC.out.mono ?_
                rintro e w4 ⟨rfl, rfl⟩
                go_wp2
                go_ret
                exact ⟨ret_bool (by rw [HI.out]; try rw [HTB.out]
                                    try rw [HE0.out trivial]
                                    rfl), HB3.out⟩
            | false =>
              go_wp2
              go_ret
              exact ⟨ret_bool (by rw [HI.out]; try rw [HTB.out]
                                  try rw [HE0.out trivial]
                                  rfl), HB3.out⟩
        | false =>
          go_wp2
          go_ret
          exact ⟨ret_bool (by rw [HI.out]; try rw [HTB.out]
                              try rw [HE0.out trivial]
                              rfl), HB3.out⟩
    · have e1 : (x.kd == 0) = false := by simp [q1]
      rw [e1] at HI
      clear q1
      by_cases q2 : kd = x.kd
      · have e2 : (kd == x.kd) = true := by simp [q2]
        rw [e2] at HI
        clear q2
        cases z0 with
        | true =>
          cases i0 with
          | true =>
            cases h0 with
            | true =>
              go_wp2
              go_ret
              exact ⟨ret_bool (by rw [HI.out]; try rw [HTB.out]
                                  try rw [HE0.out trivial]
                                  rfl), HB3.out⟩
            | false =>
              go_wp2_with fail
              refine HC.out.mono ?_
              rintro e w4 ⟨rfl, rfl⟩
              go_wp2
              go_ret
              exact ⟨ret_bool (by rw [HI.out]; try rw [HTB.out]
                                  try rw [HE0.out trivial]
                                  rfl), HB3.out⟩
          | false =>
            cases i1 with
            | true =>
              cases h0 with
              | true =>
                go_wp2
                go_ret
                exact ⟨ret_bool (by rw [HI.out]; try rw [HTB.out]
                                    try rw [HE0.out trivial]
                                    rfl), HB3.out⟩
              | false =>
                go_wp2_with fail
                refine HC.out.mono ?_
                rintro e w4 ⟨rfl, rfl⟩
                go_wp2
                go_ret
                exact ⟨ret_bool (by rw [HI.out]; try rw [HTB.out]
                                    try rw [HE0.out trivial]
                                    rfl), HB3.out⟩
            | false =>
              go_wp2
              go_ret
              exact ⟨ret_bool (by rw [HI.out]; try rw [HTB.out]
                                  try rw [HE0.out trivial]
                                  rfl), HB3.out⟩
        | false =>
          cases NM with
          | true =>
            cases i0 with
            | true =>
              cases h0 with
              | true =>
                go_wp2
                go_ret
                exact ⟨ret_bool (by rw [HI.out]; try rw [HTB.out]
                                    try rw [HE0.out trivial]
                                    rfl), HB3.out⟩
              | false =>
                go_wp2_with fail
                refine HC.out.mono ?_
                rintro e w4 ⟨rfl, rfl⟩
                go_wp2
                go_ret
                exact ⟨ret_bool (by rw [HI.out]; try rw [HTB.out]
                                    try rw [HE0.out trivial]
                                    rfl), HB3.out⟩
            | false =>
              cases i1 with
              | true =>
                cases h0 with
                | true =>
                  go_wp2
                  go_ret
                  exact ⟨ret_bool (by rw [HI.out]; try rw [HTB.out]
                                      try rw [HE0.out trivial]
                                      rfl), HB3.out⟩
                | false =>
                  go_wp2_with fail
                  refine HC.out.mono ?_
                  rintro e w4 ⟨rfl, rfl⟩
                  go_wp2
                  go_ret
                  exact ⟨ret_bool (by rw [HI.out]; try rw [HTB.out]
                                      try rw [HE0.out trivial]
                                      rfl), HB3.out⟩
              | false =>
                go_wp2
                go_ret
                exact ⟨ret_bool (by rw [HI.out]; try rw [HTB.out]
                                    try rw [HE0.out trivial]
                                    rfl), HB3.out⟩
          | false =>
            go_wp2
            go_ret
            exact ⟨ret_bool (by rw [HI.out]; try rw [HTB.out]
                                try rw [HE0.out trivial]
                                rfl), HB3.out⟩
      · have e2 : (kd == x.kd) = false := by simp [q2]
        rw [e2] at HI
        clear q2
        go_wp2
        go_ret
        exact ⟨ret_bool (by rw [HI.out]; try rw [HTB.out]
                            try rw [HE0.out trivial]
                            rfl), HB3.out⟩
end Go.Proofs.Ytnopnjleibbakab
