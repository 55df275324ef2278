/- The law TokenOrder, walked. -/
import Derived.Test.YtinkgidncdjapabTells05
namespace Go.Proofs.Ytinkgidncdjapab
set_option linter.unusedVariables false
open Go.RowKit Go.Sort

theorem skF_clear {s : ByteArray} : ∀ f k, s.size < f + k → skF s f k < s.size → blkB (byt s (skF s f k)) = false
  | 0, k, h1, h2 => by unfold skF at h2; omega
  | f + 1, k, h1, h2 => by
    by_cases hk : k < s.size
    · cases hb : blkB (byt s k) with
      | true =>
        rw [skF_blank h1 hk hb] at h2 ⊢
        exact skF_clear f (k + 1) (by omega) h2
      | false =>
        by_cases h35 : byt s k = 35
        · have := ntO_pos hk h35
          rw [skF_note h1 hk h35] at h2 ⊢
          exact skF_clear f (k + ntO s k) (by omega) h2
        · rw [skF_stop hb h35]; exact hb
    · rw [skF_out hk] at h2; omega
theorem nextO_none {s : ByteArray} {k : Nat} (h : nextO s k = none) : skO s k < s.size := by
  unfold nextO at h
  split at h
  · cases h
  · omega
/-- Tokens in their order, from a place on. -/
def GoodL (s : ByteArray) : Nat → List Tok → Prop
  | _, [] => False
  | k, t :: L => (L = [] ∧ t.kd = 0 ∧ t.pos = s.size) ∨ (t.kd ≠ 0 ∧ k ≤ t.pos ∧ t.pos < s.size ∧ blkB (byt s t.pos) = false ∧ GoodL s (t.pos + 1) L)
theorem GoodL.mono {s : ByteArray} {j k : Nat} (h : j ≤ k) : ∀ {L : List Tok}, GoodL s k L → GoodL s j L
  | [], g => g
  | t :: L, .inl g => .inl g
  | t :: L, .inr ⟨g1, g2, g3⟩ => .inr ⟨g1, by omega, g3⟩
theorem allF_good {s : ByteArray} : ∀ (f k : Nat) (L : List Tok), s.size < f + k → k ≤ s.size → allF s f k = .ok L → GoodL s k L
  | 0, k, L, h1, h2, h => by omega
  | f + 1, k, L, h1, h2, h => by
    cases hq : nextO s k with
    | none => rw [allF_no h1 h2 hq] at h; cases h
    | some q =>
      obtain ⟨t, m⟩ := q
      obtain ⟨q1, q2, q3⟩ := nextO_bd hq
      by_cases h0 : t.kd = 0
      · rw [allF_end h1 h2 hq h0] at h
        injection h with h
        subst h
        exact .inl ⟨rfl, h0, (q3 h0).1⟩
      · rw [allF_go h1 h2 hq h0] at h
        obtain ⟨M, hM, rfl⟩ := addA_len h
        obtain ⟨r1, r2, r3⟩ := q2 h0
        have hg := allF_good f m M (by omega) q1 hM
        refine .inr ⟨h0, ?_, by omega, ?_, hg.mono (by omega)⟩
        · rw [r2]; exact skF_ge _ _
        · rw [r2]; exact skF_clear _ _ (by omega) (by show skO s k < s.size; omega)
theorem allF_bad {s : ByteArray} : ∀ (f k e : Nat), s.size < f + k → k ≤ s.size → allF s f k = .error e → e < s.size
  | 0, k, e, h1, h2, h => by omega
  | f + 1, k, e, h1, h2, h => by
    cases hq : nextO s k with
    | none => rw [allF_no h1 h2 hq] at h; injection h with h; rw [← h]; exact nextO_none hq
    | some q =>
      obtain ⟨t, m⟩ := q
      obtain ⟨q1, q2, q3⟩ := nextO_bd hq
      by_cases h0 : t.kd = 0
      · rw [allF_end h1 h2 hq h0] at h; cases h
      · rw [allF_go h1 h2 hq h0] at h
        have := (q2 h0).1
        cases hr : allF s f m with
        | ok M => rw [Nat.add_sub_cancel, hr] at h; cases h
        | error e' => rw [Nat.add_sub_cancel, hr] at h; injection h with h; rw [← h]; exact allF_bad f m e' (by omega) q1 hr
theorem GoodL.at {s : ByteArray} : ∀ {L : List Tok} {k : Nat}, GoodL s k L → ∀ i t, L[i]? = some t → k ≤ t.pos ∨ (i + 1 = L.length ∧ t.pos = s.size)
  | [], k, g, i, t, h => by simp at h
  | x :: L, k, g, 0, t, h => by
    simp at h; subst h
    rcases g with ⟨g1, g2, g3⟩ | ⟨g1, g2, g3, g4, g5⟩
    · exact .inr ⟨by rw [g1]; rfl, g3⟩
    · exact .inl g2
  | x :: L, k, g, i + 1, t, h => by
    rcases g with ⟨g1, g2, g3⟩ | ⟨g1, g2, g3, g4, g5⟩
    · rw [g1] at h; simp at h
    · rcases GoodL.at g5 i t (by simpa using h) with r | ⟨r1, r2⟩
      · exact .inl (by omega)
      · exact .inr ⟨by simp [r1], r2⟩
theorem GoodL.one {s : ByteArray} : ∀ {L : List Tok} {k : Nat}, GoodL s k L → ∀ i t, L[i]? = some t → (i + 1 = L.length ∧ t.kd = 0 ∧ t.pos = s.size) ∨ (i + 1 < L.length ∧ t.kd ≠ 0 ∧ t.pos < s.size ∧ blkB (byt s t.pos) = false)
  | [], k, g, i, t, h => by simp at h
  | x :: L, k, g, 0, t, h => by
    simp at h; subst h
    rcases g with ⟨g1, g2, g3⟩ | ⟨g1, g2, g3, g4, g5⟩
    · exact .inl ⟨by rw [g1]; rfl, g2, g3⟩
    · refine .inr ⟨?_, g1, g3, g4⟩
      cases L with
      | nil => exact absurd g5 id
      | cons y L => simp
  | x :: L, k, g, i + 1, t, h => by
    rcases g with ⟨g1, g2, g3⟩ | ⟨g1, g2, g3, g4, g5⟩
    · rw [g1] at h; simp at h
    · rcases GoodL.one g5 i t (by simpa using h) with ⟨r1, r2⟩ | ⟨r1, r2⟩
      · exact .inl ⟨by simp [r1], r2⟩
      · exact .inr ⟨by simp; omega, r2⟩
theorem GoodL.two {s : ByteArray} : ∀ {L : List Tok} {k : Nat}, GoodL s k L → ∀ i t u, L[i]? = some t → L[i + 1]? = some u → t.pos < u.pos
  | [], k, g, i, t, u, h, h2 => by simp at h
  | x :: L, k, g, 0, t, u, h, h2 => by
    simp at h; subst h
    rcases g with ⟨g1, g2, g3⟩ | ⟨g1, g2, g3, g4, g5⟩
    · rw [g1] at h2; simp at h2
    · rcases GoodL.at g5 0 u (by simpa using h2) with r | ⟨r1, r2⟩
      · omega
      · omega
  | x :: L, k, g, i + 1, t, u, h, h2 => by
    rcases g with ⟨g1, g2, g3⟩ | ⟨g1, g2, g3, g4, g5⟩
    · rw [g1] at h; simp at h
    · exact GoodL.two g5 i t u (by simpa using h) (by simpa using h2)

set_option maxRecDepth 1000000 in
set_option maxHeartbeats 2400000 in
theorem order_walk (s : ByteArray) (w : World) :
    Calls Try.prog 5 #[.string s] w fun e w' => e = .returned (.bool true) ∧ Below w.heap.size w w' := by
  by_cases hs : (s.size : Int) ≤ 300
  · cases hall : allO s with
    | error k =>
      have C5 := Lib.hid (fun W => all_no (s := s) (by omega) hall W)
      have hk := allF_bad _ _ _ (by omega) (by omega) hall
      have hk2 : (k : Int) < s.size := by omega
      clear hall hk
      go_enter Try.func5, Try.ntmps5
      go_wp2_with fail
      refine (C5.out _).mono ?_
      rintro e w1 ⟨he, hb1⟩
      subst he
      have HA1 := Lib.hid (hb1.alloc hb1.size (.cells #[.int .i64 2, .int .i64 (k : Int), .int .i64 0, .int .i64 0] 33))
      have HF1 := Lib.hid (Own.fresh w1 33 [.int .i64 2, .int .i64 (k : Int), .int .i64 0, .int .i64 0])
      clear hb1
      go_wp2_with fail
      refine (awake_any _).mono ?_
      rintro e w2 ⟨rfl, hb2⟩
      have HA2 := Lib.hid (keepb HA1.out hb2)
      have HF2 := Lib.hid (HF1.out.under hb2 HF1.out.lt)
      clear hb2 HA1 HF1
      obtain ⟨f0, f1, f2, f3, -⟩ := HF2.out.four
      go_wp2
      go_ret
      exact ⟨rfl, HA2.out⟩
    | ok L =>
      have C5 := Lib.hid (fun W => all_ok (s := s) (by omega) hall W)
      have hll := allO_len (by omega) hall
      have HG := Lib.hid (allF_good _ _ _ (by omega) (by omega) hall)
      clear hall
      have hpos : 0 < L.length := by
        have g := HG.out
        cases L with
        | nil => exact absurd g id
        | cons x L => simp
      obtain ⟨n, hn⟩ : ∃ n, L.length = n + 1 := ⟨L.length - 1, by omega⟩
      have HN := Lib.hid hn
      go_enter Try.func5, Try.ntmps5
      go_wp2_with fail
      refine (C5.out _).mono ?_
      rintro e w1 ⟨⟨ao, cap, he, hr1⟩, hb1⟩
      rw [hn] at he hll
      have he2 : e = .returned (.tuple #[.slice ao (n + 1) cap, .agg #[.int .i64 0, .int .i64 0, .int .i64 0, .int .i64 0]]) := he
      subst he2
      clear he hn hpos C5
      have HA1 := Lib.hid (hb1.alloc hb1.size (.cells #[.int .i64 0, .int .i64 0, .int .i64 0, .int .i64 0] 33))
      have HF1 := Lib.hid (Own.fresh w1 33 [.int .i64 0, .int .i64 0, .int .i64 0, .int .i64 0])
      have HT1 := Lib.hid (own7_has (hr1.alloc (.cells #[.int .i64 0, .int .i64 0, .int .i64 0, .int .i64 0] 33)))
      clear hb1 hr1
      go_wp2_with fail
      generalize World.alloc w1 _ = W at *
      go_loopw [5] (fun i wr => ∃ k : Nat, i = .int .i64 (k : Int) ∧ (k : Int) ≤ n + 1 ∧ Hid (HasT wr ao L) ∧ Hid (Below w.heap.size w wr)) (fun i _ => n + 1 - (intOf i).toNat)
      case atStart => exact ⟨0, rfl, by omega, HT1, HA1⟩
      case round =>
        obtain ⟨k, rfl, hk, HTR, HBR⟩ := hrel
        clear HT1 HA1 HF1
        by_cases hlt : (k : Int) < (n : Int) + 1
        · obtain ⟨t, ht⟩ : ∃ t, L[k]? = some t := ⟨_, List.getElem?_eq_getElem (by have := HN.out; omega)⟩
          have hone := HG.out.one k t ht
          rw [HN.out] at hone
          obtain ⟨g, off, rfl, hg, c0, -, -, -, -, -, c6⟩ := HTR.out k t ht
          have hwr : IntKind.i64.wrap (n : Int) = (n : Int) := by rw [IntKind.wrap_i64]; omega
          by_cases hz : k = 0
          · have h0 : decide (0 < k) = false := decide_eq_false (by omega)
            rcases hone with ⟨r1, r2, r3⟩ | ⟨r1, r2, r3, r4⟩
            · obtain rfl : n = k := by omega
              have e1 : ((t.kd : Int) == 0) = true := beq_iff_eq.2 (by omega)
              have e2 : decide (t.pos < s.size) = false := decide_eq_false (by omega)
              clear r1 r2 r3 ht hz
              go_wp2_with fail
              try simp only [List.append_eq, List.cons_append, List.nil_append]
              go_big_quiet (fail)
              go_wp2
              go_roundw
              case rel => exact ⟨n + 1, by go_num, by omega, Lib.hid (HTR.out.below (below_drewN (Below.refl _ _) _)), Lib.hid (below_drewN HBR.out _)⟩
              case measure => simp [intOf] <;> omega
            · have e1 : ((t.kd : Int) == 0) = false := beq_eq_false_iff_ne.2 (by omega)
              have e2 : decide (t.pos < s.size) = true := decide_eq_true r3
              have e3 : ((k : Int) == (n : Int)) = false := beq_eq_false_iff_ne.2 (by omega)
              obtain ⟨d, hd⟩ : ∃ d : Int, (s[t.pos].toNat : Int) = d := ⟨_, rfl⟩
              rw [byt_get r3, hd] at r4
              unfold blkB at r4
              simp only [Bool.or_eq_false_iff] at r4
              obtain ⟨⟨b1, b2⟩, b3⟩ := r4
              clear r1 r2 ht hz
              go_wp2_with fail
              try simp only [List.append_eq, List.cons_append, List.nil_append]
              go_big_quiet (fail)
              go_wp2
              go_roundw
              case rel => exact ⟨k + 1, by go_num, by omega, Lib.hid (HTR.out.below (below_drewN (Below.refl _ _) _)), Lib.hid (below_drewN HBR.out _)⟩
              case measure => simp [intOf] <;> omega
          · have h0 : decide (0 < k) = true := decide_eq_true (by omega)
            obtain ⟨j, hkj⟩ : ∃ j : Nat, (k : Int) - 1 = (j : Int) := ⟨k - 1, by omega⟩
            have hj1 : (j : Int) < (n : Int) + 1 := by omega
            have hwj : IntKind.i64.wrap (j : Int) = (j : Int) := by rw [IntKind.wrap_i64]; omega
            obtain ⟨u, hu⟩ : ∃ u, L[j]? = some u := ⟨_, List.getElem?_eq_getElem (by have := HN.out; omega)⟩
            have htwo := HG.out.two j u t hu (by rw [show j + 1 = k by omega]; exact ht)
            obtain ⟨g', off', hgg, hg', -, -, -, -, -, -, d6⟩ := HTR.out j u hu
            injection hgg with hgg
            injection hgg with hg1 hg2
            subst hg1 hg2
            have htw : decide (t.pos ≤ u.pos) = false := decide_eq_false (by omega)
            clear ht hu htwo hz
            rcases hone with ⟨r1, r2, r3⟩ | ⟨r1, r2, r3, r4⟩
            · obtain rfl : n = k := by omega
              have e1 : ((t.kd : Int) == 0) = true := beq_iff_eq.2 (by omega)
              have e2 : decide (t.pos < s.size) = false := decide_eq_false (by omega)
              clear r1 r2 r3
              go_wp2_with fail
              try simp only [List.append_eq, List.cons_append, List.nil_append]
              go_big_quiet (fail)
              go_wp2
              go_roundw
              case rel => exact ⟨n + 1, by go_num, by omega, Lib.hid (HTR.out.below (below_drewN (Below.refl _ _) _)), Lib.hid (below_drewN HBR.out _)⟩
              case measure => simp [intOf] <;> omega
            · have e1 : ((t.kd : Int) == 0) = false := beq_eq_false_iff_ne.2 (by omega)
              have e2 : decide (t.pos < s.size) = true := decide_eq_true r3
              have e3 : ((k : Int) == (n : Int)) = false := beq_eq_false_iff_ne.2 (by omega)
              obtain ⟨d, hd⟩ : ∃ d : Int, (s[t.pos].toNat : Int) = d := ⟨_, rfl⟩
              rw [byt_get r3, hd] at r4
              unfold blkB at r4
              simp only [Bool.or_eq_false_iff] at r4
              obtain ⟨⟨b1, b2⟩, b3⟩ := r4
              clear r1 r2
              go_wp2_with fail
              try simp only [List.append_eq, List.cons_append, List.nil_append]
              go_big_quiet (fail)
              go_wp2
              go_roundw
              case rel => exact ⟨k + 1, by go_num, by omega, Lib.hid (HTR.out.below (below_drewN (Below.refl _ _) _)), Lib.hid (below_drewN HBR.out _)⟩
              case measure => simp [intOf] <;> omega
        · obtain rfl : k = n + 1 := by omega
          obtain ⟨t, ht⟩ : ∃ t, L[n]? = some t := ⟨_, List.getElem?_eq_getElem (by have := HN.out; omega)⟩
          have hone := HG.out.one n t ht
          rw [HN.out] at hone
          have e2 : (t.pos : Int) = s.size := by rcases hone with r | r <;> omega
          clear hone
          go_wp2_with fail
          refine (awake_any _).mono ?_
          rintro e w2 ⟨rfl, hb2⟩
          have HA2 := Lib.hid (keepb HBR.out hb2)
          obtain ⟨g, off, rfl, hg, -, -, -, -, -, -, c6⟩ := HTR.out.below hb2 n t ht
          clear hb2 ht
          go_wp2
          go_ret
          exact ⟨rfl, HA2.out⟩
  · go_enter Try.func5, Try.ntmps5
    go_wp2_with fail
    refine (awake_any _).mono ?_
    rintro e w9 ⟨rfl, hb9⟩
    go_wp2
    go_ret
    exact ⟨rfl, hb9⟩
end Go.Proofs.Ytinkgidncdjapab
