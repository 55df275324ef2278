/- The program's query parser: what is asked for, a literal. -/
import Derived.Test.YtialpofiagiclaaDoorQpB
import Derived.Test.YtialpofiagiclaaDoorQuoteL
namespace Go.Proofs.YtialpofiagiclaaDoor
set_option linter.unusedVariables false
set_option maxRecDepth 1000000
open Go.RowKit Go.Sort

/-- What a part of the parser leaves: the place behind it, and the step; or a fault, told. -/
def SuQ (w : World) (g h : Nat) (s : ByteArray) (R : Except Nat (Hp × Nat)) (e : Ending) (w' : World) : Prop :=
  (match R with
    | .ok p => e = .returned (.bool true) ∧ Pq w' g s p.2 none ∧ Hq w' h p.1
    | .error a => e = .returned (.bool false) ∧ Pq w' g s a (some (2, a)) ∧ ∃ y, Hq w' h y) ∧ But (fun j => j = g ∨ j = h) w w'
def whE (a : Int) (k : Nat) : Option (Int × ByteArray × Nat) → Except Nat (Hp × Nat)
  | none => .error k
  | some (kd, nm, m) => .ok (⟨a, kd, nm, ⟨#[]⟩, ⟨#[]⟩, 0⟩, m)
theorem tk_yes {s : ByteArray} {k : Nat} {x : List UInt8} (h : tk s k x = true) : tkN s k x = k + x.length := by unfold tkN; rw [if_pos h]
theorem tk_not {s : ByteArray} {k : Nat} {x : List UInt8} (h : tk s k x = false) : tkN s k x = k := by unfold tkN; rw [if_neg (by rw [h]; decide)]
set_option maxRecDepth 1000000 in
set_option maxHeartbeats 3200000 in
theorem pwhat_any (s : ByteArray) (hs : s.size ≤ 1000000) (g h k : Nat) (hgh : g ≠ h) (hk : k ≤ s.size) (a : Int) (w : World) (hc : Pq w g s k none) (hx : Hq w h ⟨a, 0, ⟨#[]⟩, ⟨#[]⟩, ⟨#[]⟩, 0⟩) :
    Calls Tryd.prog 33 #[.pointer (some ⟨g, 0, none⟩), .pointer (some ⟨h, 0, none⟩)] w (SuQ w g h s (whE a k (whR s k))) := by
  have HGH := Lib.hid hgh
  have HC0 := Lib.hid hc
  have HX0 := Lib.hid hx
  have HWH := Lib.hid (show whR s k = if kwF s k 5 1 ≠ 0 then some (((kwF s k 5 1 : Nat) : Int), ⟨#[]⟩, k + (kwL (kwF s k 5 1)).length)
    else if tk s k [42] = true then some (0, ⟨#[]⟩, k + 1)
    else if wordB (s.extract k (nmF s 12 k)) = true then some (0, s.extract k (nmF s 12 k), nmF s 12 k) else none from rfl)
  obtain ⟨RES, hRES⟩ : ∃ r, whR s k = r := ⟨_, rfl⟩
  rw [hRES] at HWH ⊢
  clear hRES hc hx
  obtain ⟨ts, hts⟩ : ∃ b, tk s k [42] = b := ⟨_, rfl⟩
  have HTS := Lib.hid hts
  go_enter Tryd.func33, Tryd.ntmps33
  go_wp2_with fail
  refine (ptake_any s ⟨#[42]⟩ hs (by decide) g k hk none w HC0.out).mono ?_
  rintro e w1 ⟨he, hp, hb⟩
  have he : e = .returned (.bool (tk s k [42])) := he
  rw [hts] at he
  subst he
  have HX1 := Lib.hid (HX0.out.but hb (fun e => HGH.out e.symm))
  have HB1 := Lib.hid (hb.mono (T := fun j => j = g ∨ j = h) (fun j _ e => .inl e))
  cases ts with
  | true =>
    have hp : Pq w1 g s (tkN s k [42]) none := hp
    rw [tk_yes hts] at hp
    have HE := Lib.hid (show RES = some (0, ⟨#[]⟩, k + 1) from by rw [HWH.out, star_kw hts, if_neg (by simp), if_pos hts])
    have HP := Lib.hid hp
    clear hp hb hts
    go_wp2
    go_ret
    have he := HE.out
    subst he
    exact ⟨⟨rfl, HP.out, HX1.out⟩, HB1.out⟩
  | false =>
    have hp : Pq w1 g s (tkN s k [42]) none := hp
    rw [tk_not hts] at hp
    have HP1 := Lib.hid hp
    clear hp hb hts HC0 HX0
    go_wp2_with fail
    go_loopw [5] (fun v5 wr => ∃ j f : Nat, v5 = .int .i64 (j : Int) ∧ 1 ≤ j ∧ j + f = 6 ∧ Hid (kwF s k 5 1 = kwF s k f j) ∧ Hid (Pq wr g s k none) ∧ Hid (Hq wr h ⟨a, 0, ⟨#[]⟩, ⟨#[]⟩, ⟨#[]⟩, 0⟩) ∧ Hid (But (fun j => j = g ∨ j = h) w wr)) (fun v5 _ => 6 - (intOf v5).toNat)
    case atStart => exact ⟨1, 5, rfl, by omega, rfl, Lib.hid rfl, HP1, HX1, HB1⟩
    case round =>
      clear HP1 HX1 HB1
      obtain ⟨j, f, rfl, hj1, hjf, HK, HP, HX, HB⟩ := hrel
      by_cases h5 : j ≤ 5
      · have d1 : decide ((j : Int) ≤ 5) = true := decide_eq_true (by omega)
        have d2 : decide (j ≤ 5) = true := decide_eq_true h5
        have hw1 : IntKind.i64.wrap ((j : Int) + 1) = (j : Int) + 1 := by rw [IntKind.wrap_i64]; omega
        have HKW := Lib.hid (fun W => kindword_any (j : Int) W)
        rw [kdS_j hj1 h5] at HKW
        go_wp2_with fail
        refine (HKW.out wr).mono ?_
        rintro e w2 ⟨rfl, hw2⟩
        subst hw2
        obtain ⟨tj, htj⟩ : ∃ b, tk s k (kwL j) = b := ⟨_, rfl⟩
        go_wp2_with fail
        refine (ptake_any s (kwS j) hs (by have := kwS_size j; omega) g k hk none w2 HP.out).mono ?_
        rintro e w3 ⟨he, hp, hb⟩
        rw [kwS_list, htj] at he
        rw [kwS_list] at hp
        subst he
        have HX3 := Lib.hid (HX.out.but hb (fun e => HGH.out e.symm))
        have HB3 := Lib.hid (HB.out.trans hb (fun j _ e => .inl e))
        cases tj with
        | true =>
          rw [tk_yes htj] at hp
          have HE := Lib.hid (show RES = some ((j : Int), ⟨#[]⟩, k + (kwL j).length) from by
            have h1 : kwF s k 5 1 = j := by rw [HK.out, kwF_step (by omega), if_pos htj]
            rw [HWH.out, h1, if_pos (by omega)])
          have HP3 := Lib.hid hp
          have x1 : w3.cell? ⟨h, 1, none⟩ = some (.int .i64 0) := HX3.out.cell 1
          have xf : w3.frozen? ⟨h, 1, none⟩ = false := HX3.out.thaw 1
          have xl := HX3.out.lt
          clear hp hb htj
          go_wp2
          first | go_ret | (refine bodyPost_ret rfl rfl ?_)
          have he := HE.out
          subst he
          exact ⟨⟨rfl, HP3.out.but (But.put w3 h 1 _) (fun e => HGH.out e), HX3.out.put 1 _⟩, HB3.out.trans (But.put w3 h 1 _) (fun j _ e => .inr e)⟩
        | false =>
          rw [tk_not htj] at hp
          have HP3 := Lib.hid hp
          have HK3 := Lib.hid (show kwF s k 5 1 = kwF s k (f - 1) (j + 1) by rw [HK.out, kwF_step (by omega), if_neg (by rw [htj]; decide)])
          clear hp hb htj
          go_wp2
          go_roundw
          case rel => exact ⟨j + 1, f - 1, by go_num, by omega, by omega, HK3, HP3, HX3, HB3⟩
          case measure => simp [intOf]; omega
      · have d1 : decide ((j : Int) ≤ 5) = false := decide_eq_false (by omega)
        have d2 : decide (j ≤ 5) = false := decide_eq_false h5
        have HW2 := Lib.hid (show RES = if wordB (s.extract k (nmF s 12 k)) = true then some (0, s.extract k (nmF s 12 k), nmF s 12 k) else none by
          have h1 : kwF s k 5 1 = 0 := by rw [HK.out, show f = 0 by omega]; rfl
          rw [HWH.out, h1, if_neg (by simp), if_neg (by rw [HTS.out]; decide)])
        clear HWH HK HTS
        obtain ⟨c0, c1, hg, -⟩ := HP.out.at_
        go_wp2_with fail
        clear c0 c1 hg
        go_loopw [6] (fun v6 wx => ∃ q p : Nat, v6 = .int .i64 (q : Int) ∧ p + q = k + 12 ∧ k ≤ q ∧ q ≤ s.size ∧ Hid (nmF s 12 k = nmF s p q) ∧ wr = wx) (fun v6 _ => k + 12 - (intOf v6).toNat)
        case atStart => exact ⟨k, 12, rfl, by omega, Nat.le_refl _, hk, Lib.hid rfl, rfl⟩
        case round =>
          obtain ⟨q, p, rfl, hpq, hkq, hqs, HNM, hwx⟩ := hrel
          subst hwx
          obtain ⟨c0, c1, hg, -⟩ := HP.out.at_
          have hw9 : IntKind.i64.wrap ((q : Int) - (k : Int)) = (q : Int) - (k : Int) := by rw [IntKind.wrap_i64]; omega
          have hw8 : IntKind.i64.wrap ((q : Int) + 1) = (q : Int) + 1 := by rw [IntKind.wrap_i64]; omega
          obtain ⟨B, hB⟩ : ∃ B, goN s k q = B := ⟨_, rfl⟩
          have HGB := Lib.hid hB
          clear hB
          cases B with
          | true =>
            have hgn := HGB.out
            unfold goN at hgn
            simp only [Bool.and_eq_true, decide_eq_true_eq] at hgn
            obtain ⟨⟨a1, a2⟩, a3⟩ := hgn
            rw [inW_ok a1, byt_get a1] at a3
            have HMORE := Lib.hid (nm_more HGB.out hpq)
            have d3 : decide ((q : Int) < (s.size : Int)) = true := decide_eq_true (by omega)
            have d4 : decide ((q : Int) - (k : Int) < 12) = true := decide_eq_true (by omega)
            have d5 : decide (q < s.size) = true := decide_eq_true a1
            go_wp2_with fail
            refine (ofname_any _ _).mono ?_
            rintro e w2 ⟨rfl, hw2⟩
            subst hw2
            rw [a3]
            go_wp2
            go_roundw
            case rel => exact ⟨q + 1, p - 1, by go_num, by omega, by omega, by omega, Lib.hid (HNM.out.trans HMORE.out), by first | rfl | trivial⟩
            case measure => simp [intOf]; omega
          | false =>
            have HSTOP := Lib.hid (show nmF s 12 k = q from HNM.out.trans (nm_stop HGB.out hpq))
            have HGF := Lib.hid (show (decide (q < s.size) && decide (q < k + 12) && inW s q) = false from HGB.out)
            go_upto_region 10 with fail
            go_cut [50] (fun c wx => c = .bool false ∧ wr = wx)
            case first =>
              by_cases a1 : q < s.size
              · have d3 : decide ((q : Int) < (s.size : Int)) = true := decide_eq_true (by omega)
                have d5 : decide (q < s.size) = true := decide_eq_true a1
                by_cases a2 : q < k + 12
                · have d4 : decide ((q : Int) - (k : Int) < 12) = true := decide_eq_true (by omega)
                  have a3 := HGF.out
                  rw [decide_eq_true a1, decide_eq_true a2, Bool.true_and, Bool.true_and, inW_ok a1, byt_get a1] at a3
                  go_wp2_with fail
                  refine (ofname_any _ _).mono ?_
                  rintro e w2 ⟨rfl, hw2⟩
                  subst hw2
                  rw [a3]
                  go_wp2_with fail
                  go_meet
                  exact ⟨rfl, by first | rfl | trivial⟩
                · have d4 : decide ((q : Int) - (k : Int) < 12) = false := decide_eq_false (by omega)
                  go_wp2_with fail
                  go_meet
                  exact ⟨rfl, by first | rfl | trivial⟩
              · have d3 : decide ((q : Int) < (s.size : Int)) = false := decide_eq_false (by omega)
                have d5 : decide (q < s.size) = false := decide_eq_false a1
                go_wp2_with fail
                go_meet
                exact ⟨rfl, by first | rfl | trivial⟩
            case rest =>
              obtain ⟨rfl, hwx⟩ := hcut
              subst hwx
              have hs2 := HSTOP.out
              rw [hs2] at HW2
              obtain ⟨T, hT⟩ : ∃ T, s.extract k q = T := ⟨_, rfl⟩
              have hTs : T.size ≤ 1000000 := by rw [← hT, ByteArray.size_extract]; omega
              rw [hT] at HW2
              have hqi : decide ((q : Int) ≤ (s.size : Int)) = true := decide_eq_true (by omega)
              clear hs2 HSTOP HGF HGB HNM
              go_wp2_with fail
              go_quiet (fail)
              have HPq := Lib.hid (show Pq (wr.drewN nq) g s k none from HP.out.on_drewN nq)
              have HXq := Lib.hid (show Hq (wr.drewN nq) h _ from HX.out.on_drewN nq)
              have HBq := Lib.hid (HB.out.drewN nq)
              clear HP HX HB c0 c1 hg
              generalize wr.drewN nq = w5 at *
              have HWD := Lib.hid (word_any T (by unfold maxLen; omega) w5)
              obtain ⟨z, hz⟩ : ∃ z, wordB T = z := ⟨_, rfl⟩
              rw [hz] at HWD HW2
              clear hz
              go_wp2_with fail
              refine HWD.out.mono ?_
              rintro e w6 ⟨rfl, hw6⟩
              subst hw6
              cases z with
              | false =>
                have HE := Lib.hid (show RES = none from by rw [HW2.out, if_neg (by decide)])
                go_wp2_with fail
                refine (qstop_any s 2 g k none w5 HPq.out).mono ?_
                rintro e w7 ⟨rfl, hp, hb⟩
                have HX7 := Lib.hid (HXq.out.but hb (fun e => HGH.out e.symm))
                have HP7 := Lib.hid hp
                have HB7 := Lib.hid (HBq.out.trans hb (fun j _ e => .inl e))
                clear hp hb
                go_wp2
                first | go_ret | (refine bodyPost_ret rfl rfl ?_)
                have he := HE.out
                subst he
                exact ⟨⟨rfl, HP7.out, _, HX7.out⟩, HB7.out⟩
              | true =>
                have HE := Lib.hid (show RES = some (0, T, q) from by rw [HW2.out, if_pos rfl])
                have x2 : w5.cell? ⟨h, 2, none⟩ = some (.string ⟨#[]⟩) := HXq.out.cell 2
                have xf : w5.frozen? ⟨h, 2, none⟩ = false := HXq.out.thaw 2
                have xl := HXq.out.lt
                obtain ⟨c0, c1, hg, f1, -⟩ := HPq.out.at_
                have hb1 := But.put w5 h 2 (.string T)
                have hp1 := HPq.out.but hb1 (fun e => HGH.out e)
                obtain ⟨-, c1', hg', f1', -⟩ := hp1.at_
                go_wp2
                first | go_ret | (refine bodyPost_ret rfl rfl ?_)
                have he := HE.out
                subst he
                have hb2 := But.put (w5.setCell ⟨h, 2, none⟩ (.string T)) g 1 (.int .i64 (q : Int))
                exact ⟨⟨rfl, hp1.go q, (HXq.out.put 2 (.string T)).but hb2 (fun e => HGH.out e.symm)⟩, (HBq.out.trans hb1 (fun j _ e => .inr e)).trans hb2 (fun j _ e => .inl e)⟩
end Go.Proofs.YtialpofiagiclaaDoor
