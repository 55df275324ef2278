/- What queries lead to: marks, ways: the walks of mark, marked, way. -/
import Derived.Test.YtnopnjleibbakabAxisNext
import Derived.Test.YtnopnjleibbakabGg
import Derived.Test.YtnopnjleibbakabAxisText
import Derived.Test.YtnopnjleibbakabBut
import Derived.Test.YtnopnjleibbakabQuiet
import Derived.BigQuiet
namespace Go.Proofs.Ytnopnjleibbakab
set_option linter.unusedVariables false
open Go.RowKit Go.Sort

/-- Marks: n of them. -/
def rowM (M : Nat → Bool) (n : Nat) : List Value := (List.range n).map fun j => .bool (M j)
theorem rowM_get {M : Nat → Bool} {n j : Nat} (h : j < n) : (rowM M n)[j]? = some (.bool (M j)) := by simp [rowM, h]
theorem rowM_set {M : Nat → Bool} {n k : Nat} (h : k < n) : (rowM M n).set k (.bool true) = rowM (fun j => M j || decide (j = k)) n := by
  apply List.ext_getElem?
  intro j
  rw [List.getElem?_set]
  by_cases hj : j < n
  · rw [rowM_get hj, rowM_get hj]
    by_cases e : k = j
    · subst e; simp [rowM, h]
    · rw [if_neg e]; simp [Ne.symm e]
  · rw [List.getElem?_eq_none (by simp [rowM]; omega), List.getElem?_eq_none (by simp [rowM]; omega)]
    split <;> (try split) <;> simp_all
theorem rowM_congr {M N : Nat → Bool} {n : Nat} (h : ∀ j, j < n → M j = N j) : rowM M n = rowM N n := by
  unfold rowM; apply List.map_congr_left; intro j hj; rw [h j (List.mem_range.1 hj)]
theorem rowM_zero (n : Nat) : rowM (fun _ => false) n = List.replicate n (.bool false) := by
  apply List.ext_getElem?; intro j
  by_cases hj : j < n
  · rw [rowM_get hj, List.getElem?_replicate, if_pos hj]
  · rw [List.getElem?_eq_none (by simp [rowM]; omega), List.getElem?_eq_none (by simp; omega)]
def inL (L : List Int) (j : Nat) : Bool := decide ((j : Int) ∈ L)
theorem Owns.but {S : Nat → Prop} {w w' : World} {C : Nat} {v : Value} {L : List Int} (h : Owns w C v L) (hb : But S w w') (hS : ∀ g, C ≤ g → ¬ S g) : Owns w' C v L := by
  obtain ⟨hl, hcase⟩ := h
  refine ⟨hl, ?_⟩
  rcases hcase with h1 | ⟨g, cap, cur, e, hg, hh, r⟩
  · exact .inl h1
  · exact .inr ⟨g, cap, cur, e, hg, (hb.block g (lt_of_block hh) (hS g hg)).trans hh, r⟩

/-- Numbers in memory, in blocks from C on. -/
def IntsAt (w : World) (C : Nat) (v : Value) (L : List Int) : Prop := ∃ ao cap, v = .slice ao L.length cap ∧ L.length ≤ cap ∧ ∀ j, j < L.length → ∃ g off, ao = some ⟨g, off, none⟩ ∧ g < w.heap.size ∧ C ≤ g ∧ w.cell? ⟨g, off + j, none⟩ = some (.int .i64 (L.getD j 0))
theorem Owns.ints {w : World} {C : Nat} {v : Value} {L : List Int} (h : Owns w C v L) : IntsAt w C v L := by
  have hcp : ∀ ao cap, v = .slice ao L.length cap → L.length ≤ cap := fun ao cap e => by
    rcases h.2 with ⟨e2, h2⟩ | ⟨g, cap', cur, e2, _, _, h2, _⟩
    · rw [e] at e2; injection e2 with _ e3 e4; omega
    · rw [e] at e2; injection e2 with _ _ e4; omega
  obtain ⟨ao, cap, rfl, hA⟩ := h.form
  refine ⟨ao, cap, rfl, hcp ao cap rfl, fun j hj => ?_⟩
  obtain ⟨b, e, hb, hc, hcl⟩ := hA j hj
  exact ⟨b, 0, e, hb, hc, by rw [Nat.zero_add]; exact hcl⟩
theorem IntsAt.below {w w' : World} {C : Nat} {v : Value} {L : List Int} (h : IntsAt w C v L) (hb : Below w.heap.size w w') : IntsAt w' C v L := by
  obtain ⟨ao, cap, e, hcp, hA⟩ := h
  refine ⟨ao, cap, e, hcp, fun j hj => ?_⟩
  obtain ⟨b, off, e, hb', hc, hcl⟩ := hA j hj
  exact ⟨b, off, e, Nat.lt_of_lt_of_le hb' hb.size, hc, keepc hcl hb⟩
theorem IntsAt.mono {w : World} {C D : Nat} {v : Value} {L : List Int} (h : IntsAt w C v L) (hD : D ≤ C) : IntsAt w D v L := by
  obtain ⟨ao, cap, e, hcp, hA⟩ := h
  refine ⟨ao, cap, e, hcp, fun j hj => ?_⟩
  obtain ⟨b, off, e, hb', hc, hcl⟩ := hA j hj
  exact ⟨b, off, e, hb', Nat.le_trans hD hc, hcl⟩
theorem IntsAt.but {S : Nat → Prop} {w w' : World} {C : Nat} {v : Value} {L : List Int} (h : IntsAt w C v L) (hb : But S w w') (hS : ∀ g, C ≤ g → ¬ S g) : IntsAt w' C v L := by
  obtain ⟨ao, cap, e, hcp, hA⟩ := h
  refine ⟨ao, cap, e, hcp, fun j hj => ?_⟩
  obtain ⟨b, off, e, hb', hc, hcl⟩ := hA j hj
  exact ⟨b, off, e, Nat.lt_of_lt_of_le hb' hb.size, hc, hb.cell (p := ⟨b, off + j, none⟩) (hS b hc) hcl⟩
theorem IntsAt.nil (w : World) (C : Nat) : IntsAt w C (.slice none 0 0) [] := ⟨none, 0, rfl, Nat.le_refl _, fun j hj => by simp at hj⟩

set_option maxHeartbeats 1600000 in
theorem mark_any (g n : Nat) (M : Nat → Bool) (v : Value) (L : List Int) (C : Nat) (hC : g < C) (hL : ∀ x ∈ L, 0 ≤ x ∧ x < n) (hn : (L.length : Int) ≤ 100000) (cap : Nat) (hcap : n ≤ cap) (w : World) (hm : Own w g 4 (rowM M n)) (hv : IntsAt w C v L) :
    Calls Try.prog 20 #[.slice (some ⟨g, 0, none⟩) n cap, v] w fun e w' => e = .returned (.tuple #[]) ∧ Own w' g 4 (rowM (fun j => M j || inL L j) n) ∧ But (fun j => j = g) w w' := by
  have HM0 := Lib.hid (show Own w g 4 (rowM (fun j => M j || inL (L.take 0) j) n) by rw [rowM_congr (N := M) (fun j _ => by simp [inL])]; exact hm)
  have HV := Lib.hid hv
  have HL := Lib.hid hL
  obtain ⟨ao, c, rfl, hcp, hA⟩ := hv
  have HA := Lib.hid hA
  obtain ⟨m, hm2⟩ : ∃ m, L.length = m := ⟨_, rfl⟩
  have HMM := Lib.hid hm2
  have HB0 := Lib.hid (But.refl (fun j => j = g) w)
  rw [hm2] at hn HA ⊢
  clear hm hL hA hm2 HV
  go_enter Try.func20, Try.ntmps20
  go_wp2_with fail
  go_loopw [8] (fun b8 wr => ∃ k : Nat, b8 = .int .i64 (k : Int) ∧ (k : Int) ≤ m ∧ Hid (Own wr g 4 (rowM (fun j => M j || inL (L.take k) j) n)) ∧ Hid (But (fun j => j = g) w wr)) (fun b8 _ => m - (intOf b8).toNat)
  case atStart => exact ⟨0, rfl, by omega, HM0, HB0⟩
  case round =>
    obtain ⟨k, rfl, hk, HR, HB⟩ := hrel
    clear HM0 HB0
    by_cases h1 : (k : Int) < m
    · obtain ⟨b, off, rfl, hb, hbC, hc⟩ := HA.out k (by omega)
      have hk2 : k < L.length := by have := HMM.out; omega
      obtain ⟨y, hy⟩ : ∃ y, L[k]? = some y := ⟨_, List.getElem?_eq_getElem hk2⟩
      have hmem := HL.out y (List.mem_of_getElem? hy)
      obtain ⟨q, rfl⟩ : ∃ q : Nat, y = (q : Int) := ⟨y.toNat, by omega⟩
      have HT := Lib.hid (show L.take (k + 1) = L.take k ++ [(q : Int)] by rw [List.take_add_one, hy]; rfl)
      have hcw : wr.cell? ⟨b, off + k, none⟩ = some (.int .i64 (q : Int)) := by
        rw [HB.out.cell (p := ⟨b, off + k, none⟩) (by simp; omega) hc]
        rw [List.getD_eq_getElem?_getD, hy]; rfl
      have hcg : wr.cell? ⟨g, q, none⟩ = some (.bool (M q || inL (L.take k) q)) := by rw [HR.out.cell, rowM_get (by omega)]
      have hfz : wr.frozen? ⟨g, q, none⟩ = false := HR.out.thaw q
      have hgl := HR.out.lt
      have hqn : (q : Int) < n := hmem.2
      have hw1 : IntKind.i64.wrap ((k : Int) + 1) = (k : Int) + 1 := by rw [IntKind.wrap_i64]; omega
      have HR2 := Lib.hid (show Own (wr.setCell ⟨g, q, none⟩ (.bool true)) g 4 (rowM (fun j => M j || inL (L.take (k + 1)) j) n) by
        have h := HR.out.put q (.bool true)
        rw [rowM_set (by omega)] at h
        rw [rowM_congr (N := fun j => M j || inL (L.take k) j || decide (j = q)) (fun j _ => by
          unfold inL; rw [HT.out]
          rw [show decide ((j : Int) ∈ L.take k ++ [(q : Int)]) = (decide ((j : Int) ∈ L.take k) || decide (j = q)) by
            rw [← Bool.decide_or]; apply decide_eq_decide.2; simp only [List.mem_append, List.mem_singleton]; constructor <;> (rintro (h | h); exact .inl h; exact .inr (by omega))]
          rw [Bool.or_assoc])]
        exact h)
      have HB2 := Lib.hid (HB.out.setCell (p := ⟨g, q, none⟩) (fun _ => rfl) (.bool true))
      clear hy hc hmem HR HB
      go_wp2
      go_roundw
      case rel => exact ⟨k + 1, by go_num, by omega, HR2, HB2⟩
      case measure => simp [intOf]; omega
    · obtain rfl : k = m := by omega
      have HE := Lib.hid (show rowM (fun j => M j || inL (L.take k) j) n = rowM (fun j => M j || inL L j) n by rw [List.take_of_length_le (by rw [HMM.out]; omega)])
      go_wp2
      go_end0
      exact ⟨rfl, by rw [← HE.out]; exact HR.out, HB.out⟩

set_option maxHeartbeats 1600000 in
theorem marked_any (g n : Nat) (M : Nat → Bool) (cap : Nat) (hn : (n : Int) ≤ 1000) (w : World) (hm : Own w g 4 (rowM M n)) :
    Calls Try.prog 23 #[.slice (some ⟨g, 0, none⟩) n cap] w fun e w' => ∃ v, e = .returned v ∧ Owns w' w.heap.size v (sel M n) ∧ Below w.heap.size w w' := by
  have HM := Lib.hid hm
  have HB0 := Lib.hid (Below.refl w.heap.size w)
  have HO0 := Lib.hid (Owns.none w w.heap.size)
  obtain ⟨i0, hi, hz0, hz1, hz2⟩ := info_parts info_int
  clear hm
  go_enter Try.func23, Try.ntmps23
  go_wp2_with fail
  go_loopw [3, 8] (fun v b8 wr => ∃ k : Nat, b8 = .int .i64 (k : Int) ∧ (k : Int) ≤ n ∧ Hid (Owns wr w.heap.size v (sel M k)) ∧ Hid (Below w.heap.size w wr)) (fun _ b8 _ => n - (intOf b8).toNat)
  case atStart => exact ⟨0, rfl, by omega, HO0, HB0⟩
  case round =>
    obtain ⟨k, rfl, hk, HO, HB⟩ := hrel
    clear HB0 HO0
    by_cases h1 : (k : Int) < n
    · have hw1 : IntKind.i64.wrap ((k : Int) + 1) = (k : Int) + 1 := by rw [IntKind.wrap_i64]; omega
      have hMw := HM.out.under HB.out HM.out.lt
      have hc : wr.cell? ⟨g, k, none⟩ = some (.bool (M k)) := by rw [hMw.cell, rowM_get (by omega)]
      have hgl := hMw.lt
      obtain ⟨b, hb⟩ : ∃ b, M k = b := ⟨_, rfl⟩
      rw [hb] at hc
      have HMK := Lib.hid hb
      clear hMw hb
      cases b with
      | true =>
        have hS := Lib.hid (sel_yes HMK.out)
        have ho' := HO.out
        unfold Owns at ho'
        have hbs := HB.out.size
        have hsl := sel_len M k
        go_wp2_with (first
          | (at_builtin; refine wpList_append_own _ rfl _ _ 29 rfl w.heap.size 3 i0 (.int .i64 0) 1 8 Try.underlying29 hi hz0 hz1 hz2 rfl (by decide) _ _ _ rfl (ho'.alloc _) ⟨wr.heap.size, 0, none⟩ 1 1 [.int .i64 (k : Int)] rfl rfl ?c1 ?c2 ?c3 ?c4 ?c5 ?_))
        case c1 =>
          intro j u hj
          match j, hj with
          | 0, hj => simp at hj; subst hj; simp [Addr.add]
        case c2 => intro u hu; simp at hu; subst hu; rfl
        case c3 => unfold maxLen; omega
        case c4 => omega
        case c5 => simp; omega
        intro v' w1 hown' hgrow _
        have hO := Lib.hid (Owns.step hown')
        rw [← hS.out] at hO
        have hB1 := Lib.hid (below_grow HB.out ho' hgrow)
        clear hown' ho' HO hgrow HB hS
        go_wp2
        go_roundw
        case rel => exact ⟨k + 1, by go_num, by omega, hO, hB1⟩
        case measure => simp [intOf]; omega
      | false =>
        have HO2 := Lib.hid (show Owns wr w.heap.size _ (sel M (k + 1)) by rw [sel_no HMK.out]; exact HO.out)
        clear HO
        go_wp2
        go_roundw
        case rel => exact ⟨k + 1, by go_num, by omega, HO2, HB⟩
        case measure => simp [intOf]; omega
    · obtain rfl : k = n := by omega
      go_wp2
      go_ret
      exact ⟨_, rfl, HO.out, HB.out⟩

def wayL (l : Nodes) (i ax : Int) : List Int := if ax = 1 then kidsL l i else if ax = 2 then belowL l i else if ax = 3 then upL l i else if ax = 4 then nextL l i else []
set_option maxHeartbeats 1600000 in
theorem way_any (l : Nodes) (ao : Option Addr) (cap : Nat) (i ax : Int) (B : Nat) (hn : (l.n : Int) ≤ 1000) (w : World) (hB : B ≤ w.heap.size) (hl : Has w ao B l) :
    Calls Try.prog 22 #[.slice ao l.n cap, .int .i64 i, .int .i64 ax] w fun e w' => ∃ v, e = .returned v ∧ Owns w' w.heap.size v (wayL l i ax) ∧ Below w.heap.size w w' := by
  have HW := Lib.hid (show wayL l i ax = if ax = 1 then kidsL l i else if ax = 2 then belowL l i else if ax = 3 then upL l i else if ax = 4 then nextL l i else [] from rfl)
  generalize wayL l i ax = R at *
  have K1 := Lib.hid (kids_any l ao cap i B hn w hB hl)
  have K2 := Lib.hid (below_any l ao cap i B hn w hB hl)
  have K3 := Lib.hid (up_any l ao cap i B hn w hB hl)
  have K4 := Lib.hid (next_any l ao cap i B hn w hB hl)
  clear hl
  by_cases h1 : ax = 1
  · have HE := Lib.hid (show R = kidsL l i by rw [HW.out, if_pos h1])
    subst h1
    go_enter Try.func22, Try.ntmps22
    go_wp2_with fail
    refine K1.out.mono ?_
    rintro e w1 ⟨v, rfl, ho, hb⟩
    have HO := Lib.hid ho
    have HB := Lib.hid hb
    clear ho hb
    go_wp2
    go_ret
    exact ⟨_, rfl, by rw [HE.out]; exact HO.out, HB.out⟩
  by_cases h2 : ax = 2
  · have HE := Lib.hid (show R = belowL l i by rw [HW.out, if_neg h1, if_pos h2])
    subst h2
    go_enter Try.func22, Try.ntmps22
    go_wp2_with fail
    refine K2.out.mono ?_
    rintro e w1 ⟨v, rfl, ho, hb⟩
    have HO := Lib.hid ho
    have HB := Lib.hid hb
    clear ho hb
    go_wp2
    go_ret
    exact ⟨_, rfl, by rw [HE.out]; exact HO.out, HB.out⟩
  by_cases h3 : ax = 3
  · have HE := Lib.hid (show R = upL l i by rw [HW.out, if_neg h1, if_neg h2, if_pos h3])
    subst h3
    go_enter Try.func22, Try.ntmps22
    go_wp2_with fail
    refine K3.out.mono ?_
    rintro e w1 ⟨v, rfl, ho, hb⟩
    have HO := Lib.hid ho
    have HB := Lib.hid hb
    clear ho hb
    go_wp2
    go_ret
    exact ⟨_, rfl, by rw [HE.out]; exact HO.out, HB.out⟩
  by_cases h4 : ax = 4
  · have HE := Lib.hid (show R = nextL l i by rw [HW.out, if_neg h1, if_neg h2, if_neg h3, if_pos h4])
    subst h4
    go_enter Try.func22, Try.ntmps22
    go_wp2_with fail
    refine K4.out.mono ?_
    rintro e w1 ⟨v, rfl, ho, hb⟩
    have HO := Lib.hid ho
    have HB := Lib.hid hb
    clear ho hb
    go_wp2
    go_ret
    exact ⟨_, rfl, by rw [HE.out]; exact HO.out, HB.out⟩
  have HE := Lib.hid (show R = [] by rw [HW.out, if_neg h1, if_neg h2, if_neg h3, if_neg h4])
  have e1 : (ax == 1) = false := beq_eq_false_iff_ne.2 h1
  have e2 : (ax == 2) = false := beq_eq_false_iff_ne.2 h2
  have e3 : (ax == 3) = false := beq_eq_false_iff_ne.2 h3
  have e4 : (ax == 4) = false := beq_eq_false_iff_ne.2 h4
  clear h1 h2 h3 h4 K1 K2 K3 K4
  go_enter Try.func22, Try.ntmps22
  go_wp2
  go_ret
  exact ⟨_, rfl, by rw [HE.out]; exact Owns.none _ _, Below.refl _ _⟩
end Go.Proofs.Ytnopnjleibbakab
