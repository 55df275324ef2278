/- What queries lead to, by definition: where an axis leads; is a text within another one. -/
import Derived.Test.YtnopnjleibbakabGj
import Derived.Test.YtnopnjleibbakabFndA
import Derived.Test.YtnopnjleibbakabGi
import Derived.Test.YtnopnjleibbakabAxisNext
import Derived.Test.YtnopnjleibbakabGh
import Derived.Test.YtnopnjleibbakabGg
import Derived.Lib.IndexLaws
namespace Go.Proofs.Ytnopnjleibbakab
set_option linter.unusedVariables false
open Go.RowKit Go.Sort

set_option maxHeartbeats 1600000 in
theorem leads_any (l : Nodes) (ao : Option Addr) (cap : Nat) (i ax : Int) (B : Nat) (hn : (l.n : Int) ≤ 1000) (w : World) (hB : B ≤ w.heap.size) (hl : Has w ao B l) :
    Calls Try.prog 25 #[.slice ao l.n cap, .int .i64 i, .int .i64 ax] w fun e w' => ∃ v, e = .returned v ∧ Owns w' w.heap.size v (wayL l i ax) ∧ Below w.heap.size w w' := by
  have HW := Lib.hid (show wayL l i ax = if ax = 1 then kidsL l i else if ax = 2 then belowL l i else if ax = 3 then upL l i else if ax = 4 then nextL l i else [] from rfl)
  generalize wayL l i ax = R at *
  have K1 := Lib.hid (rkids_any l ao cap i B hn w hB hl)
  have K2 := Lib.hid (rbelow_any l ao cap i B hn w hB hl)
  have K3 := Lib.hid (rup_any l ao cap i B hn w hB hl)
  have K4 := Lib.hid (rnext_any l ao cap i B hn w hB hl)
  clear hl
  by_cases h1 : ax = 1
  · have HE := Lib.hid (show R = kidsL l i by rw [HW.out, if_pos h1])
    subst h1
    go_enter Try.func25, Try.ntmps25
    go_wp2_with fail
    refine K1.out.mono ?_
    rintro e w1 ⟨v, rfl, ho, hb⟩
    have HO := Lib.hid ho
    have HB := Lib.hid hb
    clear ho hb
    go_wp2
    go_ret
    exact ⟨_, rfl, by rw [HE.out]; exact HO.out, HB.out⟩
  by_cases h2 : ax = 2
  · have HE := Lib.hid (show R = belowL l i by rw [HW.out, if_neg h1, if_pos h2])
    subst h2
    go_enter Try.func25, Try.ntmps25
    go_wp2_with fail
    refine K2.out.mono ?_
    rintro e w1 ⟨v, rfl, ho, hb⟩
    have HO := Lib.hid ho
    have HB := Lib.hid hb
    clear ho hb
    go_wp2
    go_ret
    exact ⟨_, rfl, by rw [HE.out]; exact HO.out, HB.out⟩
  by_cases h3 : ax = 3
  · have HE := Lib.hid (show R = upL l i by rw [HW.out, if_neg h1, if_neg h2, if_pos h3])
    subst h3
    go_enter Try.func25, Try.ntmps25
    go_wp2_with fail
    refine K3.out.mono ?_
    rintro e w1 ⟨v, rfl, ho, hb⟩
    have HO := Lib.hid ho
    have HB := Lib.hid hb
    clear ho hb
    go_wp2
    go_ret
    exact ⟨_, rfl, by rw [HE.out]; exact HO.out, HB.out⟩
  by_cases h4 : ax = 4
  · have HE := Lib.hid (show R = nextL l i by rw [HW.out, if_neg h1, if_neg h2, if_neg h3, if_pos h4])
    subst h4
    go_enter Try.func25, Try.ntmps25
    go_wp2_with fail
    refine K4.out.mono ?_
    rintro e w1 ⟨v, rfl, ho, hb⟩
    have HO := Lib.hid ho
    have HB := Lib.hid hb
    clear ho hb
    go_wp2
    go_ret
    exact ⟨_, rfl, by rw [HE.out]; exact HO.out, HB.out⟩
  have HE := Lib.hid (show R = [] by rw [HW.out, if_neg h1, if_neg h2, if_neg h3, if_neg h4])
  have e1 : (ax == 1) = false := beq_eq_false_iff_ne.2 h1
  have e2 : (ax == 2) = false := beq_eq_false_iff_ne.2 h2
  have e3 : (ax == 3) = false := beq_eq_false_iff_ne.2 h3
  have e4 : (ax == 4) = false := beq_eq_false_iff_ne.2 h4
  clear h1 h2 h3 h4 K1 K2 K3 K4
  go_enter Try.func25, Try.ntmps25
  go_wp2
  go_ret
  exact ⟨_, rfl, by rw [HE.out]; exact Owns.none _ _, Below.refl _ _⟩

theorem occ_tk (s x : ByteArray) (k : Nat) (hk : k ≤ s.size) : Lib.occAt s.data.toList x.data.toList k = (decide (k + x.size ≤ s.size) && decide (s.extract k (k + x.size) = x)) := by
  have h := tk_cut s x k hk
  rw [← h]
  rfl
theorem contains_hit {s x : ByteArray} {k : Nat} (hn : Lib.NoOcc s.data.toList x.data.toList k) (hk : k ≤ s.size) (h : Lib.occAt s.data.toList x.data.toList k = true) : Lib.contains s.data.toList x.data.toList = true := by
  unfold Lib.contains
  rw [Lib.index_hit hn (by simpa using hk) h]
  simp
theorem contains_past {s x : ByteArray} {k : Nat} (hn : Lib.NoOcc s.data.toList x.data.toList k) (hk : k ≤ s.size + 1) (h : s.size < k + x.size) (hx : 0 < x.size ∨ k = s.size + 1) : Lib.contains s.data.toList x.data.toList = false := by
  unfold Lib.contains
  rw [Lib.index_none]
  · simp
  intro j hj
  by_cases hjk : j < k
  · exact hn j hjk
  · rw [occ_tk s x j (by simpa using hj)]
    have hj2 : j ≤ s.size := by simpa using hj
    rw [decide_eq_false (by omega)]; rfl

set_option maxRecDepth 1000000 in
set_option maxHeartbeats 1600000 in
theorem rcontains_any (s x : ByteArray) (hs : (s.size : Int) ≤ 1000000) (hx : (x.size : Int) ≤ 1000000) (w : World) :
    Calls Try.prog 42 #[.string s, .string x] w fun e w' => e = .returned (.bool (Lib.contains s.data.toList x.data.toList)) ∧ w = w' := by
  obtain ⟨R, hR⟩ : ∃ R, Lib.contains s.data.toList x.data.toList = R := ⟨_, rfl⟩
  have HR := Lib.hid hR
  rw [hR]
  clear hR
  go_enter Try.func42, Try.ntmps42
  go_wp2_with fail
  go_loopw [5] (fun b5 wr => ∃ k : Nat, b5 = .int .i64 (k : Int) ∧ (k : Int) ≤ s.size + 1 ∧ Hid (Lib.NoOcc s.data.toList x.data.toList k) ∧ w = wr) (fun b5 _ => s.size + 1 - (intOf b5).toNat)
  case atStart => exact ⟨0, rfl, by omega, Lib.hid (Lib.NoOcc.zero _ _), rfl⟩
  case round =>
    obtain ⟨k, rfl, hk, HN, rfl⟩ := hrel
    have hw : IntKind.i64.wrap ((k : Int) + x.size) = (k : Int) + x.size := by rw [IntKind.wrap_i64]; omega
    have hw1 : IntKind.i64.wrap ((k : Int) + 1) = (k : Int) + 1 := by rw [IntKind.wrap_i64]; omega
    by_cases h1 : k + x.size ≤ s.size
    · have h1' : (k : Int) + x.size ≤ s.size := by omega
      have h9 : ((k : Int) + x.size).toNat = k + x.size := by omega
      obtain ⟨q, hq⟩ : ∃ q, s.extract k (k + x.size) = q := ⟨_, rfl⟩
      have HO := Lib.hid (occ_tk s x k (by omega))
      rw [decide_eq_true h1, hq, Bool.true_and] at HO
      by_cases h2 : q = x
      · have HE := Lib.hid (show R = true by rw [← HR.out]; exact contains_hit HN.out (by omega) (by rw [HO.out, decide_eq_true h2]))
        subst h2
        clear h1
        go_wp2
        go_ret
        exact ⟨ret_bool HE.out.symm, rfl⟩
      · have hqx := toList_ne h2
        have HE := Lib.hid (show Lib.NoOcc s.data.toList x.data.toList (k + 1) from fun j hj => by
          by_cases e : j = k
          · subst e; rw [HO.out, decide_eq_false h2]
          · exact HN.out j (by omega))
        clear h1 h2
        go_wp2
        go_roundw
        case rel => exact ⟨k + 1, by go_num, by omega, HE, trivial⟩
        case measure => simp [intOf]; omega
    · have h1' : decide ((k : Int) + x.size ≤ s.size) = false := decide_eq_false (by omega)
      have HE := Lib.hid (show R = false by rw [← HR.out]; exact contains_past HN.out (by omega) (by omega) (by omega))
      clear h1
      go_wp2
      go_ret
      exact ⟨ret_bool HE.out.symm, rfl⟩
end Go.Proofs.Ytnopnjleibbakab
