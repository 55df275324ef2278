/- The program's query parser: a number in brackets. -/
import Derived.Test.YtialpofiagiclaaDoorQpD
namespace Go.Proofs.YtialpofiagiclaaDoor
set_option linter.unusedVariables false
set_option maxRecDepth 1000000
open Go.RowKit Go.Sort

def ntE (x : Hp) : Except Nat (Int × Nat) → Except Nat (Hp × Nat)
  | .error a => .error a
  | .ok p => .ok ({ x with nth := p.1 }, p.2)
theorem byt_dig {s : ByteArray} {q : Nat} (h : q < s.size) : isDig (byt s q) = isDig (s[q].toNat : Int) := by rw [byt_get h]
set_option maxRecDepth 1000000 in
set_option maxHeartbeats 3200000 in
theorem pnth_any (s : ByteArray) (hs : s.size ≤ 1000000) (g h k : Nat) (hgh : g ≠ h) (hk : k ≤ s.size) (x : Hp) (hn : x.nth = 0) (w : World) (hc : Pq w g s k none) (hx : Hq w h x) :
    Calls Tryd.prog 35 #[.pointer (some ⟨g, 0, none⟩), .pointer (some ⟨h, 0, none⟩)] w (SuQ w g h s (ntE x (nthR s k))) := by
  obtain ⟨ax, kd, nm, is, has, nth⟩ := x
  have hn : nth = 0 := hn
  subst hn
  have HGH := Lib.hid hgh
  have HC0 := Lib.hid hc
  have HX0 := Lib.hid hx
  have HNR := Lib.hid (show nthR s k = if tk s k [91] = true then
    (if (dgF s (k + 1) 4 (k + 1) 0).1 = 0 ∨ tk s (dgF s (k + 1) 4 (k + 1) 0).2 [93] = false then .error (dgF s (k + 1) 4 (k + 1) 0).2 else .ok ((dgF s (k + 1) 4 (k + 1) 0).1, (dgF s (k + 1) 4 (k + 1) 0).2 + 1))
  else .ok (0, k) from rfl)
  obtain ⟨RES, hRES⟩ : ∃ r, nthR s k = r := ⟨_, rfl⟩
  rw [hRES] at HNR ⊢
  clear hRES hc hx
  obtain ⟨ts, hts⟩ : ∃ b, tk s k [91] = b := ⟨_, rfl⟩
  go_enter Tryd.func35, Tryd.ntmps35
  go_wp2_with fail
  refine (ptake_any s ⟨#[91]⟩ hs (by decide) g k hk none w HC0.out).mono ?_
  rintro e w1 ⟨he, hp, hb⟩
  have he : e = .returned (.bool (tk s k [91])) := he
  rw [hts] at he
  subst he
  have hp : Pq w1 g s (tkN s k [91]) none := hp
  have HX1 := Lib.hid (HX0.out.but hb (fun e => HGH.out e.symm))
  have HB1 := Lib.hid (hb.mono (T := fun j => j = g ∨ j = h) (fun j _ e => .inl e))
  clear hb HC0 HX0
  cases ts with
  | false =>
    rw [tk_not hts] at hp
    have HE := Lib.hid (show RES = .ok (0, k) from by rw [HNR.out, if_neg (by rw [hts]; decide)])
    have HP := Lib.hid hp
    clear hp hts
    go_wp2
    first | go_ret | (refine bodyPost_ret rfl rfl ?_)
    have he := HE.out
    subst he
    exact ⟨⟨rfl, HP.out, HX1.out⟩, HB1.out⟩
  | true =>
    rw [tk_yes hts] at hp
    have hk1 := tk_size hts hk
    have hp : Pq w1 g s (k + 1) none := hp
    have hk1 : k + 1 ≤ s.size := hk1
    rw [if_pos hts] at HNR
    clear hts
    obtain ⟨j, hj⟩ : ∃ j, k + 1 = j := ⟨_, rfl⟩
    rw [hj] at HNR hp hk1
    clear hj
    have HP1 := Lib.hid hp
    have HBD := Lib.hid (dgF_bd s j 4 j 0 hk1 (by omega))
    clear hp
    go_wp2_with fail
    go_loopw [5, 6] (fun v5 v6 wr => ∃ (i f q : Nat) (n : Int) (vv : Value), f + i = 4 ∧ v5 = .int .i64 (i : Int) ∧ vv = v6 ∧ 0 ≤ n ∧ n < 10 ^ i ∧ q ≤ s.size ∧ Hid (j + i = q) ∧ Hid (0 < i → byt s j ≠ 48) ∧ Hid (Pq wr g s q none) ∧ Hid (Hq wr h ⟨ax, kd, nm, is, has, n⟩) ∧ Hid (dgF s j f q n = dgF s j 4 j 0) ∧ Hid (But (fun j => j = g ∨ j = h) w wr)) (fun v5 _ _ => 4 - (intOf v5).toNat)
    case atStart => exact ⟨0, 4, j, 0, _, rfl, rfl, rfl, by omega, by decide, hk1, Lib.hid rfl, Lib.hid (fun h => absurd h (Nat.lt_irrefl 0)), HP1, HX1, Lib.hid rfl, HB1⟩
    case round =>
      clear HP1 HX1 HB1
      obtain ⟨i, f, q, n, vv, hfi, rfl, hvv, hn0, hn1, hqs, HQ, HNZ, HP, HX, HD, HB⟩ := hrel
      subst hvv
      have hnb : n ≤ 10000 := by
        have h5 : i = 0 ∨ i = 1 ∨ i = 2 ∨ i = 3 ∨ i = 4 := by omega
        rcases h5 with rfl | rfl | rfl | rfl | rfl <;> simp at hn1 <;> omega
      obtain ⟨B, hB⟩ : ∃ B, (decide (i < 4) && decide (q < s.size) && isDig (byt s q)) = B := ⟨_, rfl⟩
      have HBV := Lib.hid hB
      clear hB
      obtain ⟨c0, c1, hg, -⟩ := HP.out.at_
      go_upto_region 4 with fail
      go_cut [35] (fun c wx => c = .bool B ∧ ∃ n, wx = wr.drewN n)
      case first =>
        by_cases a1 : i < 4
        · have d1 : decide ((i : Int) < 4) = true := decide_eq_true (by omega)
          have d1' : decide (i < 4) = true := decide_eq_true a1
          by_cases a2 : q < s.size
          · have d2 : decide ((q : Int) < (s.size : Int)) = true := decide_eq_true (by omega)
            have d2' : decide (q < s.size) = true := decide_eq_true a2
            have HDG := Lib.hid (fun W => qdigit_any (s[q].toNat : Int) W)
            rw [← byt_dig a2] at HDG
            have hbv := HBV.out
            rw [d1', d2', Bool.true_and, Bool.true_and] at hbv
            rw [hbv] at HDG
            clear hbv
            cases B with
            | true =>
              go_quiet (first | (go_at_call 51; with_reducible exact Calls.quiet_of_same (HDG.out _)))
              go_wp2_with fail
              go_meet
              exact ⟨rfl, nq, rfl⟩
            | false =>
              go_quiet (first | (go_at_call 51; with_reducible exact Calls.quiet_of_same (HDG.out _)))
              go_wp2_with fail
              go_meet
              exact ⟨rfl, nq, rfl⟩
          · have d2 : decide ((q : Int) < (s.size : Int)) = false := decide_eq_false (by omega)
            have d2' : decide (q < s.size) = false := decide_eq_false a2
            have hbv := HBV.out
            rw [d1', d2', Bool.true_and, Bool.false_and] at hbv
            subst hbv
            go_quiet (fail)
            go_wp2_with fail
            go_meet
            exact ⟨rfl, nq, rfl⟩
        · have d1 : decide ((i : Int) < 4) = false := decide_eq_false (by omega)
          have d1' : decide (i < 4) = false := decide_eq_false a1
          have hbv := HBV.out
          rw [d1', Bool.false_and, Bool.false_and] at hbv
          subst hbv
          go_quiet (fail)
          go_wp2_with fail
          go_meet
          exact ⟨rfl, nq, rfl⟩
      case rest =>
        obtain ⟨rfl, nr, rfl⟩ := hcut
        have HP5 := Lib.hid (show Pq (wr.drewN nr) g s q none from HP.out.on_drewN nr)
        have HX5 := Lib.hid (show Hq (wr.drewN nr) h _ from HX.out.on_drewN nr)
        have HB5 := Lib.hid (HB.out.drewN nr)
        clear HP HX HB c0 c1 hg
        generalize wr.drewN nr = w5 at *
        cases B with
        | true =>
          have hbv := HBV.out
          simp only [Bool.and_eq_true, decide_eq_true_eq] at hbv
          obtain ⟨⟨a1, a2⟩, a3⟩ := hbv
          unfold isDig at a3
          simp only [Bool.and_eq_true, decide_eq_true_eq] at a3
          obtain ⟨a4, a5⟩ := a3
          obtain ⟨b, hbb⟩ : ∃ b, byt s q = b := ⟨_, rfl⟩
          have HBY := Lib.hid hbb
          have hb9 : (s[q].toNat : Int) = b := by rw [← hbb, byt_get a2]
          rw [hbb] at a4 a5
          have HB9 := Lib.hid hb9
          clear hbb hb9
          obtain ⟨c0, c1, hg, f1, -⟩ := HP5.out.at_
          have d2' : decide (q < s.size) = true := decide_eq_true a2
          have u1 : IntKind.u8.wrap ((s[q].toNat : Int) - 48) = b - 48 := by rw [HB9.out, IntKind.wrap_u8]; omega
          have u2 : IntKind.i64.wrap (b - 48) = b - 48 := by rw [IntKind.wrap_i64]; omega
          go_wp2_with fail
          go_quiet (fail)
          have HP6 := Lib.hid (show Pq (w5.drewN nq) g s q none from HP5.out.on_drewN nq)
          have HX6 := Lib.hid (show Hq (w5.drewN nq) h _ from HX5.out.on_drewN nq)
          have HB6 := Lib.hid (HB5.out.drewN nq)
          clear HP5 HX5 HB5 c0 c1 hg f1 u1 u2
          generalize w5.drewN nq = w6 at *
          by_cases hz : i = 0 ∧ b = 48
          · obtain ⟨rfl, rfl⟩ := hz
            have hn : n = 0 := by simp at hn1; omega
            subst hn
            have hqj : j = q := by have := HQ.out; omega
            subst hqj
            have HDZ := Lib.hid (show dgF s j 4 j 0 = (0, j) from by
              unfold dgF
              rw [if_neg]
              rintro ⟨-, -, h9⟩
              exact h9 HBY.out)
            have HE := Lib.hid (show RES = .error j from by rw [HNR.out, HDZ.out, if_pos (.inl rfl)])
            have x5 : w6.cell? ⟨h, 5, none⟩ = some (.int .i64 0) := HX6.out.cell 5
            have xl := HX6.out.lt
            go_wp2_with fail
            refine (qstop_any s 2 g j none w6 HP6.out).mono ?_
            rintro e w7 ⟨rfl, hp, hb⟩
            have HX7 := Lib.hid (HX6.out.but hb (fun e => HGH.out e.symm))
            have HP7 := Lib.hid hp
            have HB7 := Lib.hid (HB6.out.trans hb (fun j _ e => .inl e))
            clear hp hb
            go_wp2
            first | go_ret | (refine bodyPost_ret rfl rfl ?_)
            have he := HE.out
            subst he
            exact ⟨⟨rfl, HP7.out, _, HX7.out⟩, HB7.out⟩
          · have hne : byt s j ≠ 48 := by
              by_cases h0 : i = 0
              · subst h0
                have hqj : j = q := by have := HQ.out; omega
                rw [hqj, HBY.out]
                intro e
                exact hz ⟨rfl, e⟩
              · exact HNZ.out (by omega)
            have HNE := Lib.hid (show 0 < i + 1 → byt s j ≠ 48 from fun _ => hne)
            have hgo : goB s j q (4 - f) = true := by
              unfold goB
              rw [show 4 - f = i by omega, decide_eq_true a2, decide_eq_true a1, HBY.out, decide_eq_true a4, decide_eq_true a5, decide_eq_true hne]
              rfl
            have HM := dg_more (n := n) hgo (by omega) (by omega)
            rw [HBY.out] at HM
            have HMO := Lib.hid HM
            have HQ1 := Lib.hid (show j + (i + 1) = q + 1 from by have := HQ.out; omega)
            have hn3 : 0 ≤ 10 * n + (b - 48) := by omega
            have hn4 : 10 * n + (b - 48) < 10 ^ (i + 1) := by rw [Int.pow_succ]; omega
            have HN4 := Lib.hid (And.intro hn3 hn4)
            clear hgo HM hne hn4
            have z1 : ¬ (i = 0 ∧ b = 48) := hz
            have x5 : w6.cell? ⟨h, 5, none⟩ = some (.int .i64 n) := HX6.out.cell 5
            have xf : w6.frozen? ⟨h, 5, none⟩ = false := HX6.out.thaw 5
            have xl := HX6.out.lt
            have u1 : IntKind.i64.wrap (n * 10) = n * 10 := by rw [IntKind.wrap_i64]; omega
            have u2 : IntKind.i64.wrap (n * 10 + (b - 48)) = 10 * n + (b - 48) := by rw [IntKind.wrap_i64]; omega
            have u3 : IntKind.i64.wrap ((q : Int) + 1) = (q : Int) + 1 := by rw [IntKind.wrap_i64]; omega
            have u4 : IntKind.i64.wrap ((i : Int) + 1) = (i : Int) + 1 := by rw [IntKind.wrap_i64]; omega
            have hb1 := But.put w6 h 5 (.int .i64 (10 * n + (b - 48)))
            have hp1 := HP6.out.but hb1 (fun e => HGH.out e)
            obtain ⟨-, c1', hg', f1', -⟩ := hp1.at_
            obtain ⟨c0, c1, hg, f1, -⟩ := HP6.out.at_
            have hb2 := But.put (w6.setCell ⟨h, 5, none⟩ (.int .i64 (10 * n + (b - 48)))) g 1 (.int .i64 ((q + 1 : Nat) : Int))
            have HP9 := Lib.hid (hp1.go (q + 1))
            have HX9 := Lib.hid (show Hq _ h ⟨ax, kd, nm, is, has, 10 * n + (b - 48)⟩ from (HX6.out.put 5 (.int .i64 (10 * n + (b - 48)))).but hb2 (fun e => HGH.out e.symm))
            have HB9 := Lib.hid ((HB6.out.trans hb1 (fun j _ e => .inr e)).trans hb2 (fun j _ e => .inl e))
            have HD9 := Lib.hid (HMO.out.symm.trans HD.out)
            clear hb1 hp1 hb2
            by_cases h0 : i = 0
            · have hb48 : ¬ b = 48 := fun e => hz ⟨h0, e⟩
              have e1 : (b - 48 == 0) = false := by simp; omega
              have e2 : decide (b - 48 = 0) = false := decide_eq_false (by omega)
              have e3 : ¬ b - 48 = 0 := by omega
              subst h0
              go_wp2
              go_roundw
              case rel => exact ⟨1, f - 1, q + 1, 10 * n + (b - 48), _, by omega, by go_num, rfl, hn3, HN4.out.2, by omega, HQ1, HNE, HP9, HX9, HD9, HB9⟩
              case measure => simp [intOf]
            · have e1 : ((i : Int) == 0) = false := by simp; omega
              have e2 : decide ((i : Int) = 0) = false := decide_eq_false (by omega)
              have e3 : ¬ (i : Int) = 0 := by omega
              have e4 : decide (i = 0) = false := decide_eq_false h0
              go_wp2
              go_roundw
              case rel => exact ⟨i + 1, f - 1, q + 1, 10 * n + (b - 48), _, by omega, by go_num, rfl, hn3, HN4.out.2, by omega, HQ1, HNE, HP9, HX9, HD9, HB9⟩
              case measure => simp [intOf]; omega
        | false =>
          have hgo : goB s j q (4 - f) = false := by
            have hbv := HBV.out
            unfold isDig at hbv
            unfold goB
            rw [show 4 - f = i by omega]
            cases h1 : decide (i < 4) <;> cases h2 : decide (q < s.size) <;> cases h3 : decide (48 ≤ byt s q) <;> cases h4 : decide (byt s q ≤ 57) <;> simp_all
          have HDN := Lib.hid (show dgF s j 4 j 0 = (n, q) from HD.out.symm.trans (dg_stop hgo (by omega)))
          have hnr := HNR.out
          rw [HDN.out] at hnr
          have HN2 := Lib.hid (show RES = if n = 0 ∨ tk s q [93] = false then .error q else .ok (n, q + 1) from hnr)
          have x5 : w5.cell? ⟨h, 5, none⟩ = some (.int .i64 n) := HX5.out.cell 5
          have xl := HX5.out.lt
          clear hgo hnr HNR HD HBD
          by_cases hn : 0 < n
          · have d5 : decide (0 < n) = true := decide_eq_true hn
            obtain ⟨tq, htq⟩ : ∃ b, tk s q [93] = b := ⟨_, rfl⟩
            go_wp2_with fail
            refine (ptake_any s ⟨#[93]⟩ hs (by decide) g q hqs none w5 HP5.out).mono ?_
            rintro e w6 ⟨he, hp, hb⟩
            have he : e = .returned (.bool (tk s q [93])) := he
            rw [htq] at he
            subst he
            have hp : Pq w6 g s (tkN s q [93]) none := hp
            have HX6 := Lib.hid (HX5.out.but hb (fun e => HGH.out e.symm))
            have HB6 := Lib.hid (HB5.out.trans hb (fun j _ e => .inl e))
            clear hb x5 xl
            cases tq with
            | true =>
              rw [tk_yes htq] at hp
              have HE := Lib.hid (show RES = .ok (n, q + 1) from by rw [HN2.out, if_neg]; rintro (h9 | h9); omega; rw [htq] at h9; cases h9)
              have HP6 := Lib.hid hp
              clear hp htq
              go_wp2
              first | go_ret | (refine bodyPost_ret rfl rfl ?_)
              have he := HE.out
              subst he
              exact ⟨⟨rfl, HP6.out, HX6.out⟩, HB6.out⟩
            | false =>
              rw [tk_not htq] at hp
              have HE := Lib.hid (show RES = .error q from by rw [HN2.out, if_pos (.inr htq)])
              have HP6 := Lib.hid hp
              clear hp htq
              go_wp2_with fail
              refine (qstop_any s 2 g q none w6 HP6.out).mono ?_
              rintro e w7 ⟨rfl, hp, hb⟩
              have HX7 := Lib.hid (HX6.out.but hb (fun e => HGH.out e.symm))
              have HP7 := Lib.hid hp
              have HB7 := Lib.hid (HB6.out.trans hb (fun j _ e => .inl e))
              clear hp hb
              go_wp2
              first | go_ret | (refine bodyPost_ret rfl rfl ?_)
              have he := HE.out
              subst he
              exact ⟨⟨rfl, HP7.out, _, HX7.out⟩, HB7.out⟩
          · have hn : n = 0 := by omega
            subst hn
            have HE := Lib.hid (show RES = .error q from by rw [HN2.out, if_pos (.inl rfl)])
            go_wp2_with fail
            refine (qstop_any s 2 g q none w5 HP5.out).mono ?_
            rintro e w7 ⟨rfl, hp, hb⟩
            have HX7 := Lib.hid (HX5.out.but hb (fun e => HGH.out e.symm))
            have HP7 := Lib.hid hp
            have HB7 := Lib.hid (HB5.out.trans hb (fun j _ e => .inl e))
            clear hp hb
            go_wp2
            first | go_ret | (refine bodyPost_ret rfl rfl ?_)
            have he := HE.out
            subst he
            exact ⟨⟨rfl, HP7.out, _, HX7.out⟩, HB7.out⟩
end Go.Proofs.YtialpofiagiclaaDoor
