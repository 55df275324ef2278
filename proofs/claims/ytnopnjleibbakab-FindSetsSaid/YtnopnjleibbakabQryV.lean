/- What a text is as a query: the document's answer: numbers. -/
import Derived.Test.YtnopnjleibbakabGi
import Derived.Deep.DeepCutAuto
namespace Go.Proofs.Ytnopnjleibbakab
set_option linter.unusedVariables false
open Go.RowKit Go.Sort

def nthV : Except Nat (Int × Nat) → Int → Prop | .ok p, n => n = p.1 | .error _, _ => True
def nthK : Except Nat (Int × Nat) → Nat | .ok p => p.2 | .error e => e
def nthX : Except Nat (Int × Nat) → Bool | .ok _ => false | .error _ => true
def goB (s : ByteArray) (b k i : Nat) : Bool := decide (k < s.size) && decide (i < 4) && decide (48 ≤ byt s k) && decide (byt s k ≤ 57) && decide (byt s b ≠ 48)
set_option maxRecDepth 100000 in
set_option maxHeartbeats 1600000 in
theorem nth_bad (s : ByteArray) (g k : Nat) (w : World) (hc : Cur w g s k true) :
    Calls Try.prog 48 #[.pointer (some ⟨g, 0, none⟩)] w fun e w' => e = .returned (.int .i64 0) ∧ Cur w' g s k true ∧ But (fun j => j = g) w w' := by
  have HC := Lib.hid hc
  obtain ⟨c0, c1, c2, hg, f1, f2⟩ := hc.at_
  clear hc
  go_enter Try.func48, Try.ntmps48
  go_wp2
  go_ret
  exact ⟨rfl, HC.out, But.refl _ _⟩
theorem dg_more {s : ByteArray} {b f k : Nat} {n : Int} (h : goB s b k (4 - f) = true) (hf : 0 < f) (hf4 : f ≤ 4) : dgF s b f k n = dgF s b (f - 1) (k + 1) (10 * n + (byt s k - 48)) := by
  obtain ⟨f, rfl⟩ : ∃ q, f = q + 1 := ⟨f - 1, by omega⟩
  unfold goB at h
  simp only [Bool.and_eq_true, decide_eq_true_eq] at h
  conv => lhs; unfold dgF
  rw [if_pos ⟨h.1.1.1.1, by unfold digB; simp only [Bool.and_eq_true, decide_eq_true_eq]; exact ⟨h.1.1.2, h.1.2⟩, h.2⟩]; rfl
theorem dg_stop {s : ByteArray} {b f k : Nat} {n : Int} (h : goB s b k (4 - f) = false) (hf4 : f ≤ 4) : dgF s b f k n = (n, k) := by
  cases f with
  | zero => rfl
  | succ f =>
    unfold dgF
    rw [if_neg]
    intro ⟨h1, h2, h3⟩
    unfold digB at h2
    simp only [Bool.and_eq_true, decide_eq_true_eq] at h2
    unfold goB at h
    rw [decide_eq_true h1, decide_eq_true (show 4 - (f + 1) < 4 by omega), decide_eq_true h2.1, decide_eq_true h2.2, decide_eq_true h3] at h
    cases h
set_option maxRecDepth 1000000 in
set_option maxHeartbeats 3200000 in
theorem nth_any (s : ByteArray) (hs : s.size ≤ 1000000) (g k : Nat) (hk : k ≤ s.size) (w : World) (hc : Cur w g s k false) :
    Calls Try.prog 48 #[.pointer (some ⟨g, 0, none⟩)] w fun e w' => (∃ n, e = .returned (.int .i64 n) ∧ nthV (nthR s k) n) ∧ Cur w' g s (nthK (nthR s k)) (nthX (nthR s k)) ∧ But (fun j => j = g) w w' := by
  have HC := Lib.hid hc
  have HS := Lib.hid hs
  have HN := Lib.hid (show nthR s k = if tk s k [91] = true then
    (if (dgF s (k + 1) 4 (k + 1) 0).1 = 0 ∨ tk s (dgF s (k + 1) 4 (k + 1) 0).2 [93] = false then .error (dgF s (k + 1) 4 (k + 1) 0).2 else .ok ((dgF s (k + 1) 4 (k + 1) 0).1, (dgF s (k + 1) 4 (k + 1) 0).2 + 1))
  else .ok (0, k) from rfl)
  generalize nthR s k = l at *
  obtain ⟨c0, c1, c2, hg, f1, f2⟩ := hc.at_
  clear hc
  cases h1 : tk s k [91] with
  | false =>
    have HE := Lib.hid (show l = .ok (0, k) by rw [HN.out, if_neg (by rw [h1]; decide)])
    clear HN
    go_enter Try.func48, Try.ntmps48
    go_wp2_with fail
    refine (take_no s ⟨#[91]⟩ HS.out (by decide) g k hk false _ HC.out h1).mono ?_
    rintro e w1 ⟨rfl, hc1, hb1⟩
    go_wp2
    go_ret
    rw [HE.out]; exact ⟨⟨0, rfl, rfl⟩, hc1, hb1⟩
  | true =>
    rw [if_pos h1] at HN
    have hk1 := tk_size h1 hk
    simp at hk1
    obtain ⟨j, hj⟩ : ∃ j, k + 1 = j := ⟨_, rfl⟩
    rw [hj] at HN hk1
    have HBD := Lib.hid (dgF_bd s j 4 j 0 hk1 (by omega))
    clear c0 c1 c2 hg f1 f2
    go_enter Try.func48, Try.ntmps48
    obtain ⟨c0, c1, c2, hg, f1, f2⟩ := HC.out.at_
    go_wp2_with fail
    clear c0 c1 c2 hg f1 f2
    refine (take_yes s ⟨#[91]⟩ HS.out (by decide) g k hk false _ HC.out h1).mono ?_
    rintro e w1 ⟨rfl, hc1, hb1⟩
    have HC1 := Lib.hid (show Cur w1 g s j false by rw [← hj]; exact hc1)
    have HB1 := Lib.hid hb1
    clear hc1 hb1 hj h1 hk HC
    obtain ⟨c0, c1, c2, hg, f1, f2⟩ := HC1.out.at_
    go_wp2_with fail
    go_quiet (fail)
    have HC2 := Lib.hid (show Cur (w1.drewN nq) g s j false from HC1.out.on_drewN nq)
    have HB2 := Lib.hid (HB1.out.drewN nq)
    clear c0 c1 c2 hg f1 f2 HC1 HB1
    generalize w1.drewN nq = w2 at *
    go_wp2_with fail
    go_loopw [3] (fun b3 wr => ∃ (i f : Nat) (n : Int), f + i = 4 ∧ b3 = .int .i64 n ∧ 0 ≤ n ∧ n < 10 ^ i ∧ j + i ≤ s.size ∧ Hid (Cur wr g s (j + i) false) ∧ Hid (dgF s j f (j + i) n = dgF s j 4 j 0) ∧ Hid (But (fun q => q = g) w wr))
      (fun _ wr => j + 4 - (intOf ((wr.cell? ⟨g, 1, none⟩).getD (.bool false))).toNat)
    case atStart => exact ⟨0, 4, 0, rfl, rfl, by omega, by decide, by omega, HC2, Lib.hid rfl, HB2⟩
    case round =>
      obtain ⟨i, f, n, hfi, rfl, hn0, hn1, hji, HCR, HD, HBR⟩ := hrel
      clear HC2 HB2
      have hi4 : i ≤ 4 := by omega
      have hnb : n ≤ 10000 := by
        have h5 : i = 0 ∨ i = 1 ∨ i = 2 ∨ i = 3 ∨ i = 4 := by omega
        rcases h5 with rfl | rfl | rfl | rfl | rfl <;> simp at hn1 <;> omega
      obtain ⟨B, hB⟩ : ∃ B, goB s j (j + i) i = B := ⟨_, rfl⟩
      have HGB := Lib.hid hB
      obtain ⟨q, hq⟩ : ∃ q, j + i = q := ⟨_, rfl⟩
      rw [hq] at hB hji HCR HD HGB
      have HQ1 := Lib.hid HCR.out.at_.2.1
      obtain ⟨c0, c1, c2, hg, f1, f2⟩ := HCR.out.at_
      go_upto_region 4 with fail
      clear hB
      go_cut [69] (fun c wx => c = .bool B ∧ ∃ n, wx = wr.drewN n)
      case first =>
        by_cases a1 : q < s.size
        · have d1 : decide (q < s.size) = true := decide_eq_true a1
          have hjs : j < s.size := by omega
          by_cases a2 : i < 4
          · have d2 : decide ((q : Int) < (j : Int) + 4) = true := decide_eq_true (by omega)
            obtain ⟨d, hd⟩ : ∃ d : Int, (s[q].toNat : Int) = d := ⟨_, rfl⟩
            have hbd : byt s q = d := by rw [byt_get a1, hd]
            have HBD2 := Lib.hid hbd
            clear hbd
            by_cases a3 : 48 ≤ d
            · by_cases a4 : d ≤ 57
              · obtain ⟨z, hz⟩ : ∃ z : Int, (s[j].toNat : Int) = z := ⟨_, rfl⟩
                have HBZ := Lib.hid (show byt s j = z by rw [byt_get hjs, hz])
                by_cases a5 : z = 48
                · have d5 : (z == 48) = true := beq_iff_eq.2 a5
                  have HF := Lib.hid (show B = false by rw [← HGB.out]; unfold goB; rw [decide_eq_true a1, decide_eq_true a2, HBD2.out, decide_eq_true a3, decide_eq_true a4, HBZ.out, a5]; rfl)
                  go_quiet (fail)
                  go_wp2_with fail
                  go_meet
                  exact ⟨by rw [HF.out], nq, rfl⟩
                · have d5 : (z == 48) = false := beq_eq_false_iff_ne.2 a5
                  have d6 : (z != 48) = true := by unfold bne; rw [d5]; rfl
                  have HF := Lib.hid (show B = true by rw [← HGB.out]; unfold goB; rw [decide_eq_true a1, decide_eq_true a2, HBD2.out, decide_eq_true a3, decide_eq_true a4, HBZ.out, decide_eq_true a5]; rfl)
                  go_quiet (fail)
                  go_wp2_with fail
                  go_meet
                  exact ⟨by rw [HF.out], nq, rfl⟩
              · have d4 : decide (d ≤ 57) = false := decide_eq_false a4
                have HF := Lib.hid (show B = false by rw [← HGB.out]; unfold goB; rw [decide_eq_true a1, decide_eq_true a2, HBD2.out, decide_eq_true a3, decide_eq_false a4]; rfl)
                go_quiet (fail)
                go_wp2_with fail
                go_meet
                exact ⟨by rw [HF.out], nq, rfl⟩
            · have d3 : decide (48 ≤ d) = false := decide_eq_false a3
              have HF := Lib.hid (show B = false by rw [← HGB.out]; unfold goB; rw [decide_eq_true a1, decide_eq_true a2, HBD2.out, decide_eq_false a3]; rfl)
              go_quiet (fail)
              go_wp2_with fail
              go_meet
              exact ⟨by rw [HF.out], nq, rfl⟩
          · have d2 : decide ((q : Int) < (j : Int) + 4) = false := decide_eq_false (by omega)
            have HF := Lib.hid (show B = false by rw [← HGB.out]; unfold goB; rw [decide_eq_true a1, decide_eq_false a2]; rfl)
            go_quiet (fail)
            go_wp2_with fail
            go_meet
            exact ⟨by rw [HF.out], nq, rfl⟩
        · have d1 : decide (q < s.size) = false := decide_eq_false a1
          have HF := Lib.hid (show B = false by rw [← HGB.out]; unfold goB; rw [decide_eq_false a1]; rfl)
          go_quiet (fail)
          go_wp2_with fail
          go_meet
          exact ⟨by rw [HF.out], nq, rfl⟩
      case rest =>
        obtain ⟨rfl, nr, rfl⟩ := hcut
        have HC3 := Lib.hid (show Cur (wr.drewN nr) g s q false from HCR.out.on_drewN nr)
        have HB3 := Lib.hid (HBR.out.drewN nr)
        clear HCR HBR c0 c1 c2 hg f1 f2
        generalize wr.drewN nr = w3 at *
        obtain ⟨c0, c1, c2, hg, f1, f2⟩ := (show Cur w3 g s q false from HC3.out).at_
        cases B with
        | true =>
          have hG := HGB.out
          unfold goB at hG
          simp only [Bool.and_eq_true, decide_eq_true_eq] at hG
          obtain ⟨⟨⟨⟨a1, a2⟩, a3⟩, a4⟩, a5⟩ := hG
          have HMORE := Lib.hid (show dgF s j f q n = dgF s j (f - 1) (q + 1) (10 * n + (byt s q - 48)) from dg_more (by rw [show 4 - f = i by omega]; exact HGB.out) (by omega) (by omega))
          obtain ⟨d, hd⟩ : ∃ d : Int, (s[q].toNat : Int) = d := ⟨_, rfl⟩
          rw [byt_get a1, hd] at a3 a4 HMORE
          have v1 : IntKind.i64.wrap (10 * n) = 10 * n := by rw [IntKind.wrap_i64]; omega
          have v2 : IntKind.u8.wrap (d - 48) = d - 48 := by rw [IntKind.wrap_u8]; omega
          have v3 : IntKind.i64.wrap (d - 48) = d - 48 := by rw [IntKind.wrap_i64]; omega
          have v4 : IntKind.i64.wrap (10 * n + (d - 48)) = 10 * n + (d - 48) := by rw [IntKind.wrap_i64]; omega
          have v5 : IntKind.i64.wrap ((q : Int) + 1) = (q : Int) + 1 := by rw [IntKind.wrap_i64]; omega
          have hpw : 10 * n + (d - 48) < 10 ^ (i + 1) := by rw [Int.pow_succ]; omega
          clear a5
          go_wp2_with fail
          go_quiet (fail)
          have HC4 := Lib.hid (show Cur ((w3.drewN nq).setCell ⟨g, 1, none⟩ (.int .i64 ((q : Int) + 1))) g s (q + 1) false from Cur.go (w := w3.drewN nq) HC3.out (q + 1))
          have HB4 := Lib.hid ((HB3.out.drewN nq).setCell (p := ⟨g, 1, none⟩) (fun _ => rfl) (.int .i64 ((q : Int) + 1)))
          go_wp2
          go_roundw
          case rel => exact ⟨i + 1, f - 1, _, by omega, rfl, by omega, hpw, by omega, by rw [show j + (i + 1) = q + 1 by omega]; exact HC4, Lib.hid (by rw [show j + (i + 1) = q + 1 by omega, ← HMORE.out]; exact HD.out), HB4⟩
          case measure => rw [HC4.out.at_.2.1, HQ1.out]; simp [intOf]; omega
        | false =>
          have HST := Lib.hid (show dgF s j 4 j 0 = (n, q) by rw [← HD.out]; exact dg_stop (by rw [show 4 - f = i by omega]; exact HGB.out) (by omega))
          rw [HST.out] at HN
          simp only at HN
          by_cases hz : n = 0
          · subst hz
            have HE := Lib.hid (show l = .error q by rw [HN.out, if_pos (.inl rfl)])
            clear HN HST HBD
            go_wp2
            go_ret
            rw [HE.out]; exact ⟨⟨0, rfl, trivial⟩, Cur.bad HC3.out true, HB3.out.setCell (p := ⟨g, 2, none⟩) (fun _ => rfl) _⟩
          · have hz1 : (n == 0) = false := beq_eq_false_iff_ne.2 hz
            cases ht : tk s q [93] with
            | false =>
              have HE := Lib.hid (show l = .error q by rw [HN.out, if_pos (.inr ht)])
              clear HN HST HBD
              clear c0 c1 c2 hg f1 f2
              go_wp2_with fail
              refine (take_no s ⟨#[93]⟩ HS.out (by decide) g q hji false _ HC3.out ht).mono ?_
              rintro e w4 ⟨rfl, hc4, hb4⟩
              have HC4 := Lib.hid hc4
              have HB4 := Lib.hid (HB3.out.two hb4)
              clear hc4 hb4
              obtain ⟨c0, c1, c2, hg, f1, f2⟩ := HC4.out.at_
              go_wp2
              go_ret
              rw [HE.out]; exact ⟨⟨n, rfl, trivial⟩, Cur.bad HC4.out true, HB4.out.setCell (p := ⟨g, 2, none⟩) (fun _ => rfl) _⟩
            | true =>
              have HE := Lib.hid (show l = .ok (n, q + 1) by rw [HN.out, if_neg (fun h => by rcases h with h | h; exact hz h; rw [ht] at h; cases h)])
              clear HN HST HBD
              clear c0 c1 c2 hg f1 f2
              go_wp2_with fail
              refine (take_yes s ⟨#[93]⟩ HS.out (by decide) g q hji false _ HC3.out ht).mono ?_
              rintro e w4 ⟨rfl, hc4, hb4⟩
              have HC4 := Lib.hid hc4
              have HB4 := Lib.hid (HB3.out.two hb4)
              clear hc4 hb4
              go_wp2
              go_ret
              rw [HE.out]; exact ⟨⟨n, rfl, rfl⟩, HC4.out, HB4.out⟩
end Go.Proofs.Ytnopnjleibbakab
