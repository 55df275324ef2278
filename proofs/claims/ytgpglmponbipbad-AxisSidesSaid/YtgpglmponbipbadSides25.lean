/- The law AxisSides, walked. -/
import Derived.Test.YtgpglmponbipbadTells25
import Derived.Test.YtgpglmponbipbadAxisSum
namespace Go.Proofs.Ytgpglmponbipbad
set_option linter.unusedVariables false
open Go.RowKit Go.Sort

theorem kid_facts {l : Nodes} {i : Int} (hr : rightB l l.n = true) (hi : -1 ≤ i) {k : Nat} (hk : k < (kidsL l i).length) :
    ∃ x : Nat, x < l.n ∧ (kidsL l i).getD k 0 = (x : Int) ∧ i < x ∧ l.up x = i ∧ (nextL l (x : Int)).length + (k + 1) = (kidsL l i).length ∧ (0 < k → (kidsL l i).getD (k - 1) 0 < (x : Int)) := by
  rw [kids_eq hi] at hk ⊢
  obtain ⟨x, hx, hp, hg, hl⟩ := sel_at hk
  have hp' : l.up x = i := by simpa using hp
  have h := right_ok hr x hx
  have h1 : (sel (fun x => decide (l.up x = i)) (x + 1)).length = k + 1 := by rw [sel_yes hp, List.length_append, hl]; rfl
  refine ⟨x, hx, hg, by omega, hp', ?_, fun h0 => ?_⟩
  · rw [next_in hx, hp']
    have := sel_from (P := fun x => decide (l.up x = i)) (lo := x + 1) (l.n - (x + 1))
    rw [show x + 1 + (l.n - (x + 1)) = l.n by omega, h1] at this
    exact this
  · obtain ⟨y, hy, hpy, hgy, hly⟩ := sel_at (show k - 1 < (sel (fun x => decide (l.up x = i)) l.n).length by omega)
    rw [hgy]
    rcases Nat.lt_or_ge y x with h2 | h2
    · omega
    · rcases Nat.lt_or_ge x y with h3 | h3
      · have := sel_mono (fun x => decide (l.up x = i)) (x + 1) (y - (x + 1))
        rw [show x + 1 + (y - (x + 1)) = y by omega, h1, hly] at this
        omega
      · rw [show y = x by omega, hl] at hly; omega
def acc (L : List Int) (f : Int → Nat) : Nat → Nat | 0 => 0 | k + 1 => acc L f k + f (L.getD k 0)
theorem acc_cons (a : Int) (L : List Int) (f : Int → Nat) (k : Nat) : acc (a :: L) f (k + 1) = f a + acc L f k := by
  induction k with
  | zero => show 0 + f a = f a + 0; omega
  | succ k ih => show acc (a :: L) f (k + 1) + f (L.getD k 0) = f a + (acc L f k + f (L.getD k 0)); rw [ih]; omega
theorem acc_all (f : Int → Nat) : ∀ L : List Int, acc L f L.length = (L.map f).sum
  | [] => rfl
  | a :: L => by rw [List.length_cons, acc_cons, acc_all f L]; simp
theorem acc_mono (L : List Int) (f : Int → Nat) (a d : Nat) : acc L f a ≤ acc L f (a + d) := by
  induction d with
  | zero => exact Nat.le_refl _
  | succ d ih => show _ ≤ acc L f (a + d) + _; omega
theorem acc_le (L : List Int) (f : Int → Nat) {k : Nat} (h : k ≤ L.length) : acc L f k ≤ (L.map f).sum := by
  rw [← acc_all]; have := acc_mono L f k (L.length - k); rwa [show k + (L.length - k) = L.length by omega] at this
theorem Owns.at {w : World} {B : Nat} {ao : Option Addr} {n cap : Nat} {L : List Int} (h : Owns w B (.slice ao n cap) L) {j : Nat} (hj : j < L.length) :
    ∃ g, ao = some ⟨g, 0, Option.none⟩ ∧ w.cell? ⟨g, j, Option.none⟩ = some (.int .i64 (L.getD j 0)) := by
  obtain ⟨ao', cap', e, hc⟩ := h.form
  simp only [Value.slice.injEq] at e
  obtain ⟨rfl, _, _⟩ := e
  obtain ⟨g, e1, _, _, e2⟩ := hc j hj
  exact ⟨g, e1, e2⟩
theorem belowL_le (l : Nodes) (i : Int) : (belowL l i).length ≤ l.n := by unfold belowL; split; exact sel_len _ _; exact Nat.zero_le _

set_option maxRecDepth 1000000 in
set_option maxHeartbeats 8000000 in
theorem sides_walk (l : Nodes) (ao : Option Addr) (cap : Nat) (w : World) (hl : Has w ao w.heap.size l) :
    Calls Try.prog 4 #[.slice ao l.n cap] w fun e w' => e = .returned (.bool true) ∧ Below w.heap.size w w' := by
  by_cases h1 : (l.n : Int) ≤ 30
  · have hn : (l.n : Int) ≤ 1000 := by omega
    have hn2 : l.n ≤ 1000 := by omega
    have HL := Lib.hid hl
    have hB : Below w.heap.size w w := Below.refl _ _
    obtain ⟨N, hNN⟩ : ∃ N, w.heap.size = N := ⟨_, rfl⟩
    rw [hNN] at hB HL ⊢
    have hN : N ≤ w.heap.size := by omega
    clear hl hn2
    cases hr : rightB l l.n with
    | false =>
      have R := Lib.hid (right_any l ao cap N hn w hN HL.out)
      rw [hr] at R
      go_enter Try.func4, Try.ntmps4
      go_wp2_with fail
      refine R.out.mono ?_
      rintro e w1 ⟨rfl, hb⟩
      have hB1 := keepb0 hB hN hb
      have hN1 := Nat.le_trans hN hb.size
      go_wp2_with fail
      refine (awake_any _).mono ?_
      rintro e w2 ⟨rfl, hb2⟩
      go_wp2_with fail
      go_ret
      exact ⟨rfl, keepb0 hB1 hN1 hb2⟩
    | true =>
      have R := Lib.hid (right_any l ao cap N hn w hN HL.out)
      rw [hr] at R
      have KF := Lib.hid (fun i (hi : -1 ≤ i) k (hk : k < (kidsL l i).length) => kid_facts hr hi hk)
      have BS := Lib.hid (fun i (hi : -1 ≤ i) => below_split hr hi)
      have BA := Lib.hid (below_all hr)
      have BL := Lib.hid (fun i => belowL_le l i)
      clear hr
      go_enter Try.func4, Try.ntmps4
      go_wp2_with fail
      refine R.out.mono ?_
      rintro e w1 ⟨rfl, hb⟩
      have hB1 := keepb0 hB hN hb
      clear R hb
      go_wp2_with fail
      go_loopw [2, 3] (fun b2 b3 wr => ∃ i : Int, b2 = .bool false ∧ b3 = .int .i64 i ∧ -1 ≤ i ∧ i ≤ l.n ∧ Below N w wr)
        (fun _ b3 _ => (l.n - intOf b3).toNat)
      case atStart => exact ⟨-1, rfl, rfl, by omega, by omega, hB1⟩
      case round =>
        obtain ⟨i, rfl, rfl, hi1, hi2, hb⟩ := hrel
        clear hB1
        have hNr : N ≤ wr.heap.size := Nat.le_trans hN hb.size
        have HR := Lib.hid (HL.out.keep hb (Nat.le_refl _))
        by_cases hi : i < l.n
        · have K0 := Lib.hid (kids_any l ao cap i N hn wr hNr HR.out)
          have S0 := Lib.hid (BS.out i hi1)
          have S1 := Lib.hid (KF.out i hi1)
          have S2 := Lib.hid (BL.out i)
          have S3 := Lib.hid (kidsL_len l i (by omega))
          obtain ⟨K, hK⟩ : ∃ K, kidsL l i = K := ⟨_, rfl⟩
          rw [hK] at K0 S0 S1 S3
          clear KF BA hK
          go_wp2_with fail
          refine K0.out.mono ?_
          rintro e w2 ⟨v4, rfl, ho, hb2⟩
          have hB2 := keepb0 hb hNr hb2
          have hN2 := Nat.le_trans hNr hb2.size
          obtain ⟨a4, c4, rfl, -⟩ := ho.form
          have HO := Lib.hid ho
          obtain ⟨B4, hB4⟩ : ∃ B4, wr.heap.size = B4 := ⟨_, rfl⟩
          rw [hB4] at HO
          obtain ⟨m, hm⟩ : ∃ m, K.length = m := ⟨_, rfl⟩
          rw [hm] at S0 S1 S3 ⊢
          have hm1 : (m : Int) ≤ 1000 := S3.out
          clear K0 ho hb2 hb HR hNr hB4 S3
          go_wp2_with fail
          go_loopw [2, 5, 6] (fun b2 b5 b6 wr => ∃ k A : Nat, b2 = .bool false ∧ b5 = .int .i64 (A : Int) ∧ b6 = .int .i64 (k : Int) ∧ (k : Int) ≤ m ∧ Hid (A = m + acc K (fun x => (belowL l x).length) k) ∧ (A : Int) ≤ 1000 ∧ Below N w wr ∧ Below w2.heap.size w2 wr)
            (fun _ _ b6 _ => m - (intOf b6).toNat)
          case atStart => exact ⟨0, m, rfl, rfl, rfl, by omega, Lib.hid rfl, hm1, hB2, Below.refl _ _⟩
          case round =>
            obtain ⟨k, A, rfl, rfl, rfl, hkm, hA1, hA0, hb, h2⟩ := hrel
            clear hB2
            have hNr : N ≤ wr.heap.size := Nat.le_trans hN2 h2.size
            by_cases hk : (k : Int) < m
            · obtain ⟨x, hx, hg, hix, hux, hnx, hpv⟩ := S1.out k (by omega)
              have hxn : (x : Int) < l.n := by omega
              have hA2 : Hid (A + (belowL l (x : Int)).length ≤ 1000) := Lib.hid (by
                have a1 := hA1.out
                have a2 := acc_le K (fun x => (belowL l x).length) (k := k + 1) (by omega)
                have a3 : acc K (fun x => (belowL l x).length) (k + 1) = acc K (fun x => (belowL l x).length) k + (belowL l (K.getD k 0)).length := rfl
                have a4 := S0.out
                have a5 := S2.out
                rw [hg] at a3
                omega)
              obtain ⟨g, rfl, ck⟩ := (HO.out.keep h2).at (j := k) (by omega)
              rw [hg] at ck
              clear S0 S1 S2 BS BL
              by_cases hi0 : i < 0
              · rcases Nat.eq_zero_or_pos k with hk0 | hk0
                · have hz : ¬ ((0 : Int) < (k : Int)) := by omega
                  have hz2 : decide (0 < k) = false := by simp; omega
                  clear hpv hk0
                  have hd1 : decide (l.n ≤ x) = false := by simp; omega
                  have hd2 : decide ((x : Int) ≤ i) = false := by simp; omega
                  have hd3 : ¬ (l.n ≤ x) := by omega
                  have hxB := Lib.hid hx
                  have hiB := Lib.hid hix
                  have huB := Lib.hid hux
                  have hnB := Lib.hid hnx
                  clear hx hux hnx
                  go_wp2_with fail
                  go_quiet (fail)
                  have hx := hxB.out
                  have hux := huB.out
                  go_wp2_with fail
                  have hbq : Below N w (wr.drewN nq) := below_drewN hb nq
                  have h2q : Below w2.heap.size w2 (wr.drewN nq) := below_drewN h2 nq
                  have hNq : N ≤ (wr.drewN nq).heap.size := hNr
                  have HRq := Lib.hid (HL.out.keep hbq (Nat.le_refl _))
                  clear ck
                  refine (up_any l ao cap (x : Int) N hn _ hNq HRq.out).mono ?_
                  rintro e w3 ⟨v7, rfl, ho7, hb3⟩
                  have hb' := keepb0 hbq hNq hb3
                  have h2' := keepb h2q hb3
                  have hN3 := Nat.le_trans hNq hb3.size
                  have HR3 := Lib.hid (HL.out.keep hb' (Nat.le_refl _))
                  rw [up_no (l := l) (i := x) (by omega)] at ho7
                  obtain ⟨a7, c7, rfl⟩ := ho7.nil_len
                  clear ho7 hb3 hbq h2q hNq HRq
                  obtain ⟨g3, eg3, ck3⟩ := (HO.out.keep h2').at (j := k) (by omega)
                  simp only [Option.some.injEq, Addr.mk.injEq, and_true] at eg3
                  obtain rfl := eg3
                  rw [hg] at ck3
                  go_wp2_with fail
                  refine (below_any l ao cap (x : Int) N hn _ hN3 HR3.out).mono ?_
                  rintro e w4 ⟨v8, rfl, ho8, hb4⟩
                  obtain ⟨a8, c8, rfl, -⟩ := ho8.form
                  have hb4' := keepb0 hb' hN3 hb4
                  have h24 := keepb h2' hb4
                  have hN4 := Nat.le_trans hN3 hb4.size
                  have HR4 := Lib.hid (HL.out.keep hb4' (Nat.le_refl _))
                  clear ho8 hb4 hb' h2' hN3 HR3 ck3 
                  obtain ⟨g4, eg4, ck4⟩ := (HO.out.keep h24).at (j := k) (by omega)
                  simp only [Option.some.injEq, Addr.mk.injEq, and_true] at eg4
                  obtain rfl := eg4
                  rw [hg] at ck4
                  obtain ⟨q, hq⟩ : ∃ q, (belowL l (x : Int)).length = q := ⟨_, rfl⟩
                  rw [hq] at hA2 ⊢
                  have hAq : ((A + q : Nat) : Int) ≤ 1000 := by have := hA2.out; omega
                  have hAq2 : (A : Int) + (q : Int) ≤ 1000 := by omega
                  go_wp2_with fail
                  refine (next_any l ao cap (x : Int) N hn _ hN4 HR4.out).mono ?_
                  rintro e w5 ⟨v9, rfl, ho9, hb5⟩
                  obtain ⟨a9, c9, rfl, -⟩ := ho9.form
                  have hb5' := keepb0 hb4' hN4 hb5
                  have h25 := keepb h24 hb5
                  obtain ⟨r, hr9⟩ : ∃ r, (nextL l (x : Int)).length = r := ⟨_, rfl⟩
                  have hnx := hnB.out
                  rw [hr9] at hnx ⊢
                  have hr8 : (r : Int) = (m : Int) - 1 - (k : Int) := by omega
                  clear ho9 hb5 hb4' h24 hN4 HR4 ck4
                  have HA : Hid (A + q = m + acc K (fun x => (belowL l x).length) (k + 1)) := Lib.hid (by
                    show A + q = m + (acc K (fun x => (belowL l x).length) k + (belowL l (K.getD k 0)).length)
                    rw [hg, hq, hA1.out]; omega)
                  clear hA1 hA2 hg hq
                  go_wp2
                  go_roundw
                  case rel => exact ⟨k + 1, A + q, rfl, by go_num, by go_num, by omega, HA, hAq, hb5', h25⟩
                  case measure => simp [intOf]; omega
                · obtain ⟨k', hk'⟩ : ∃ k' : Nat, (k : Int) - 1 = (k' : Int) := ⟨k - 1, by omega⟩
                  have hz : (0 : Int) < (k : Int) := by omega
                  obtain ⟨g1, eg1, ck1⟩ := (HO.out.keep h2).at (j := k') (by omega)
                  simp only [Option.some.injEq, Addr.mk.injEq, and_true] at eg1
                  obtain rfl := eg1
                  have hpv' := hpv hk0
                  rw [show k - 1 = k' by omega] at hpv'
                  generalize K.getD k' 0 = y at hpv' ck1
                  have hd5 : decide ((x : Int) ≤ y) = false := by simp; omega
                  have hz2 : decide (0 < k) = true := by simp; omega
                  clear hpv hk0
                  have hd1 : decide (l.n ≤ x) = false := by simp; omega
                  have hd2 : decide ((x : Int) ≤ i) = false := by simp; omega
                  have hd3 : ¬ (l.n ≤ x) := by omega
                  have hxB := Lib.hid hx
                  have hiB := Lib.hid hix
                  have huB := Lib.hid hux
                  have hnB := Lib.hid hnx
                  clear hx hux hnx
                  go_wp2_with fail
                  go_quiet (fail)
                  have hx := hxB.out
                  have hux := huB.out
                  go_wp2_with fail
                  have hbq : Below N w (wr.drewN nq) := below_drewN hb nq
                  have h2q : Below w2.heap.size w2 (wr.drewN nq) := below_drewN h2 nq
                  have hNq : N ≤ (wr.drewN nq).heap.size := hNr
                  have HRq := Lib.hid (HL.out.keep hbq (Nat.le_refl _))
                  clear ck ck1 hpv' hk'
                  refine (up_any l ao cap (x : Int) N hn _ hNq HRq.out).mono ?_
                  rintro e w3 ⟨v7, rfl, ho7, hb3⟩
                  have hb' := keepb0 hbq hNq hb3
                  have h2' := keepb h2q hb3
                  have hN3 := Nat.le_trans hNq hb3.size
                  have HR3 := Lib.hid (HL.out.keep hb' (Nat.le_refl _))
                  rw [up_no (l := l) (i := x) (by omega)] at ho7
                  obtain ⟨a7, c7, rfl⟩ := ho7.nil_len
                  clear ho7 hb3 hbq h2q hNq HRq
                  obtain ⟨g3, eg3, ck3⟩ := (HO.out.keep h2').at (j := k) (by omega)
                  simp only [Option.some.injEq, Addr.mk.injEq, and_true] at eg3
                  obtain rfl := eg3
                  rw [hg] at ck3
                  go_wp2_with fail
                  refine (below_any l ao cap (x : Int) N hn _ hN3 HR3.out).mono ?_
                  rintro e w4 ⟨v8, rfl, ho8, hb4⟩
                  obtain ⟨a8, c8, rfl, -⟩ := ho8.form
                  have hb4' := keepb0 hb' hN3 hb4
                  have h24 := keepb h2' hb4
                  have hN4 := Nat.le_trans hN3 hb4.size
                  have HR4 := Lib.hid (HL.out.keep hb4' (Nat.le_refl _))
                  clear ho8 hb4 hb' h2' hN3 HR3 ck3 
                  obtain ⟨g4, eg4, ck4⟩ := (HO.out.keep h24).at (j := k) (by omega)
                  simp only [Option.some.injEq, Addr.mk.injEq, and_true] at eg4
                  obtain rfl := eg4
                  rw [hg] at ck4
                  obtain ⟨q, hq⟩ : ∃ q, (belowL l (x : Int)).length = q := ⟨_, rfl⟩
                  rw [hq] at hA2 ⊢
                  have hAq : ((A + q : Nat) : Int) ≤ 1000 := by have := hA2.out; omega
                  have hAq2 : (A : Int) + (q : Int) ≤ 1000 := by omega
                  go_wp2_with fail
                  refine (next_any l ao cap (x : Int) N hn _ hN4 HR4.out).mono ?_
                  rintro e w5 ⟨v9, rfl, ho9, hb5⟩
                  obtain ⟨a9, c9, rfl, -⟩ := ho9.form
                  have hb5' := keepb0 hb4' hN4 hb5
                  have h25 := keepb h24 hb5
                  obtain ⟨r, hr9⟩ : ∃ r, (nextL l (x : Int)).length = r := ⟨_, rfl⟩
                  have hnx := hnB.out
                  rw [hr9] at hnx ⊢
                  have hr8 : (r : Int) = (m : Int) - 1 - (k : Int) := by omega
                  clear ho9 hb5 hb4' h24 hN4 HR4 ck4
                  have HA : Hid (A + q = m + acc K (fun x => (belowL l x).length) (k + 1)) := Lib.hid (by
                    show A + q = m + (acc K (fun x => (belowL l x).length) k + (belowL l (K.getD k 0)).length)
                    rw [hg, hq, hA1.out]; omega)
                  clear hA1 hA2 hg hq
                  go_wp2
                  go_roundw
                  case rel => exact ⟨k + 1, A + q, rfl, by go_num, by go_num, by omega, HA, hAq, hb5', h25⟩
                  case measure => simp [intOf]; omega
              · rcases Nat.eq_zero_or_pos k with hk0 | hk0
                · have hz : ¬ ((0 : Int) < (k : Int)) := by omega
                  have hz2 : decide (0 < k) = false := by simp; omega
                  clear hpv hk0
                  have hd1 : decide (l.n ≤ x) = false := by simp; omega
                  have hd2 : decide ((x : Int) ≤ i) = false := by simp; omega
                  have hd3 : ¬ (l.n ≤ x) := by omega
                  have hxB := Lib.hid hx
                  have hiB := Lib.hid hix
                  have huB := Lib.hid hux
                  have hnB := Lib.hid hnx
                  clear hx hux hnx
                  go_wp2_with fail
                  go_quiet (fail)
                  have hx := hxB.out
                  have hux := huB.out
                  go_wp2_with fail
                  have hbq : Below N w (wr.drewN nq) := below_drewN hb nq
                  have h2q : Below w2.heap.size w2 (wr.drewN nq) := below_drewN h2 nq
                  have hNq : N ≤ (wr.drewN nq).heap.size := hNr
                  have HRq := Lib.hid (HL.out.keep hbq (Nat.le_refl _))
                  clear ck
                  refine (up_any l ao cap (x : Int) N hn _ hNq HRq.out).mono ?_
                  rintro e w3 ⟨v7, rfl, ho7, hb3⟩
                  have hb' := keepb0 hbq hNq hb3
                  have h2' := keepb h2q hb3
                  have hN3 := Nat.le_trans hNq hb3.size
                  have HR3 := Lib.hid (HL.out.keep hb' (Nat.le_refl _))
                  rw [show upL l (x : Int) = [i] by rw [up_in hx (by omega), hux]] at ho7
                  obtain ⟨a7, c7, rfl, -⟩ := ho7.form
                  obtain ⟨g7, rfl, c70⟩ := ho7.at (j := 0) (by simp)
                  have e7 : ([i] : List Int).length = 1 := rfl
                  rw [show ([i] : List Int).getD 0 0 = i from rfl] at c70
                  rw [e7]
                  clear ho7 hb3 hbq h2q hNq HRq
                  obtain ⟨g3, eg3, ck3⟩ := (HO.out.keep h2').at (j := k) (by omega)
                  simp only [Option.some.injEq, Addr.mk.injEq, and_true] at eg3
                  obtain rfl := eg3
                  rw [hg] at ck3
                  go_wp2_with fail
                  refine (below_any l ao cap (x : Int) N hn _ hN3 HR3.out).mono ?_
                  rintro e w4 ⟨v8, rfl, ho8, hb4⟩
                  obtain ⟨a8, c8, rfl, -⟩ := ho8.form
                  have hb4' := keepb0 hb' hN3 hb4
                  have h24 := keepb h2' hb4
                  have hN4 := Nat.le_trans hN3 hb4.size
                  have HR4 := Lib.hid (HL.out.keep hb4' (Nat.le_refl _))
                  clear ho8 hb4 hb' h2' hN3 HR3 ck3 c70
                  obtain ⟨g4, eg4, ck4⟩ := (HO.out.keep h24).at (j := k) (by omega)
                  simp only [Option.some.injEq, Addr.mk.injEq, and_true] at eg4
                  obtain rfl := eg4
                  rw [hg] at ck4
                  obtain ⟨q, hq⟩ : ∃ q, (belowL l (x : Int)).length = q := ⟨_, rfl⟩
                  rw [hq] at hA2 ⊢
                  have hAq : ((A + q : Nat) : Int) ≤ 1000 := by have := hA2.out; omega
                  have hAq2 : (A : Int) + (q : Int) ≤ 1000 := by omega
                  go_wp2_with fail
                  refine (next_any l ao cap (x : Int) N hn _ hN4 HR4.out).mono ?_
                  rintro e w5 ⟨v9, rfl, ho9, hb5⟩
                  obtain ⟨a9, c9, rfl, -⟩ := ho9.form
                  have hb5' := keepb0 hb4' hN4 hb5
                  have h25 := keepb h24 hb5
                  obtain ⟨r, hr9⟩ : ∃ r, (nextL l (x : Int)).length = r := ⟨_, rfl⟩
                  have hnx := hnB.out
                  rw [hr9] at hnx ⊢
                  have hr8 : (r : Int) = (m : Int) - 1 - (k : Int) := by omega
                  clear ho9 hb5 hb4' h24 hN4 HR4 ck4
                  have HA : Hid (A + q = m + acc K (fun x => (belowL l x).length) (k + 1)) := Lib.hid (by
                    show A + q = m + (acc K (fun x => (belowL l x).length) k + (belowL l (K.getD k 0)).length)
                    rw [hg, hq, hA1.out]; omega)
                  clear hA1 hA2 hg hq
                  go_wp2
                  go_roundw
                  case rel => exact ⟨k + 1, A + q, rfl, by go_num, by go_num, by omega, HA, hAq, hb5', h25⟩
                  case measure => simp [intOf]; omega
                · obtain ⟨k', hk'⟩ : ∃ k' : Nat, (k : Int) - 1 = (k' : Int) := ⟨k - 1, by omega⟩
                  have hz : (0 : Int) < (k : Int) := by omega
                  obtain ⟨g1, eg1, ck1⟩ := (HO.out.keep h2).at (j := k') (by omega)
                  simp only [Option.some.injEq, Addr.mk.injEq, and_true] at eg1
                  obtain rfl := eg1
                  have hpv' := hpv hk0
                  rw [show k - 1 = k' by omega] at hpv'
                  generalize K.getD k' 0 = y at hpv' ck1
                  have hd5 : decide ((x : Int) ≤ y) = false := by simp; omega
                  have hz2 : decide (0 < k) = true := by simp; omega
                  clear hpv hk0
                  have hd1 : decide (l.n ≤ x) = false := by simp; omega
                  have hd2 : decide ((x : Int) ≤ i) = false := by simp; omega
                  have hd3 : ¬ (l.n ≤ x) := by omega
                  have hxB := Lib.hid hx
                  have hiB := Lib.hid hix
                  have huB := Lib.hid hux
                  have hnB := Lib.hid hnx
                  clear hx hux hnx
                  go_wp2_with fail
                  go_quiet (fail)
                  have hx := hxB.out
                  have hux := huB.out
                  go_wp2_with fail
                  have hbq : Below N w (wr.drewN nq) := below_drewN hb nq
                  have h2q : Below w2.heap.size w2 (wr.drewN nq) := below_drewN h2 nq
                  have hNq : N ≤ (wr.drewN nq).heap.size := hNr
                  have HRq := Lib.hid (HL.out.keep hbq (Nat.le_refl _))
                  clear ck ck1 hpv' hk'
                  refine (up_any l ao cap (x : Int) N hn _ hNq HRq.out).mono ?_
                  rintro e w3 ⟨v7, rfl, ho7, hb3⟩
                  have hb' := keepb0 hbq hNq hb3
                  have h2' := keepb h2q hb3
                  have hN3 := Nat.le_trans hNq hb3.size
                  have HR3 := Lib.hid (HL.out.keep hb' (Nat.le_refl _))
                  rw [show upL l (x : Int) = [i] by rw [up_in hx (by omega), hux]] at ho7
                  obtain ⟨a7, c7, rfl, -⟩ := ho7.form
                  obtain ⟨g7, rfl, c70⟩ := ho7.at (j := 0) (by simp)
                  have e7 : ([i] : List Int).length = 1 := rfl
                  rw [show ([i] : List Int).getD 0 0 = i from rfl] at c70
                  rw [e7]
                  clear ho7 hb3 hbq h2q hNq HRq
                  obtain ⟨g3, eg3, ck3⟩ := (HO.out.keep h2').at (j := k) (by omega)
                  simp only [Option.some.injEq, Addr.mk.injEq, and_true] at eg3
                  obtain rfl := eg3
                  rw [hg] at ck3
                  go_wp2_with fail
                  refine (below_any l ao cap (x : Int) N hn _ hN3 HR3.out).mono ?_
                  rintro e w4 ⟨v8, rfl, ho8, hb4⟩
                  obtain ⟨a8, c8, rfl, -⟩ := ho8.form
                  have hb4' := keepb0 hb' hN3 hb4
                  have h24 := keepb h2' hb4
                  have hN4 := Nat.le_trans hN3 hb4.size
                  have HR4 := Lib.hid (HL.out.keep hb4' (Nat.le_refl _))
                  clear ho8 hb4 hb' h2' hN3 HR3 ck3 c70
                  obtain ⟨g4, eg4, ck4⟩ := (HO.out.keep h24).at (j := k) (by omega)
                  simp only [Option.some.injEq, Addr.mk.injEq, and_true] at eg4
                  obtain rfl := eg4
                  rw [hg] at ck4
                  obtain ⟨q, hq⟩ : ∃ q, (belowL l (x : Int)).length = q := ⟨_, rfl⟩
                  rw [hq] at hA2 ⊢
                  have hAq : ((A + q : Nat) : Int) ≤ 1000 := by have := hA2.out; omega
                  have hAq2 : (A : Int) + (q : Int) ≤ 1000 := by omega
                  go_wp2_with fail
                  refine (next_any l ao cap (x : Int) N hn _ hN4 HR4.out).mono ?_
                  rintro e w5 ⟨v9, rfl, ho9, hb5⟩
                  obtain ⟨a9, c9, rfl, -⟩ := ho9.form
                  have hb5' := keepb0 hb4' hN4 hb5
                  have h25 := keepb h24 hb5
                  obtain ⟨r, hr9⟩ : ∃ r, (nextL l (x : Int)).length = r := ⟨_, rfl⟩
                  have hnx := hnB.out
                  rw [hr9] at hnx ⊢
                  have hr8 : (r : Int) = (m : Int) - 1 - (k : Int) := by omega
                  clear ho9 hb5 hb4' h24 hN4 HR4 ck4
                  have HA : Hid (A + q = m + acc K (fun x => (belowL l x).length) (k + 1)) := Lib.hid (by
                    show A + q = m + (acc K (fun x => (belowL l x).length) k + (belowL l (K.getD k 0)).length)
                    rw [hg, hq, hA1.out]; omega)
                  clear hA1 hA2 hg hq
                  go_wp2
                  go_roundw
                  case rel => exact ⟨k + 1, A + q, rfl, by go_num, by go_num, by omega, HA, hAq, hb5', h25⟩
                  case measure => simp [intOf]; omega
            · have hkm2 : k = m := by omega
              subst hkm2
              have HRr := Lib.hid (HL.out.keep hb (Nat.le_refl _))
              have hSA : (belowL l i).length = A := by rw [S0.out, hA1.out, ← acc_all, hm]
              clear S0 S1 S2 hA1 BS BL
              go_wp2_with fail
              refine (below_any l ao cap i N hn _ hNr HRr.out).mono ?_
              rintro e w3 ⟨v8, rfl, ho8, hb3⟩
              obtain ⟨a8, c8, rfl, -⟩ := ho8.form
              have hb3' := keepb0 hb hNr hb3
              clear ho8 hb3
              rw [hSA]
              clear hSA hm hk hkm
              go_wp2
              go_roundw
              case rel => exact ⟨i + 1, rfl, by go_num, by omega, by omega, hb3'⟩
              case measure => simp [intOf]; omega
        · clear KF BS BL
          go_wp2_with fail
          refine (awake_any _).mono ?_
          rintro e w2 ⟨rfl, hb2⟩
          have hb' := keepb0 hb hNr hb2
          have hN2 := Nat.le_trans hNr hb2.size
          have HR2 := Lib.hid (HL.out.keep hb' (Nat.le_refl _))
          go_wp2_with fail
          refine (below_any l ao cap (-1) N hn _ hN2 HR2.out).mono ?_
          rintro e w3 ⟨v8, rfl, ho8, hb3⟩
          obtain ⟨a8, c8, rfl, -⟩ := ho8.form
          have hb3' := keepb0 hb' hN2 hb3
          clear ho8 hb3
          rw [BA.out]
          go_wp2
          go_ret
          exact ⟨rfl, hb3'⟩
  · go_enter Try.func4, Try.ntmps4
    go_wp2_with fail
    refine (awake_any _).mono ?_
    rintro e w1 ⟨rfl, hb⟩
    go_wp2_with fail
    go_ret
    exact ⟨rfl, hb⟩
end Go.Proofs.Ytgpglmponbipbad
