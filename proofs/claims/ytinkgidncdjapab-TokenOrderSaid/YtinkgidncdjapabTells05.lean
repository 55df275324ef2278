/- The law TokenTells, walked. -/
import Derived.Test.YtinkgidncdjapabAwake05
namespace Go.Proofs.Ytinkgidncdjapab
set_option linter.unusedVariables false
open Go.RowKit Go.Sort

theorem nextT_form (s : ByteArray) (k : Nat) : ∃ (t : Tok) (n : Nat) (b : Bool), nextT s k = .tuple #[.agg #[.int .i64 (t.kd : Int), .string t.tx, .int .u64 (t.st.1 : Int), .int .u64 (t.st.2.1 : Int), .int .u64 (t.st.2.2.1 : Int), .int .u64 (t.st.2.2.2 : Int), .int .i64 (t.pos : Int)], .int .i64 (n : Int), .bool b] := by
  unfold nextT
  cases nextO s k with
  | none => exact ⟨_, _, _, rfl⟩
  | some q => exact ⟨q.1, q.2, _, rfl⟩
theorem HasT.nil (w : World) : HasT w none [] := fun k t h => by simp at h
theorem rall_ok {s : ByteArray} (hs : s.size ≤ 4000) {L : List Tok} (h : allO s = .ok L) (w : World) : Calls Try.prog 10 #[.string s] w
    fun e w' => (∃ ao cap, e = .returned (.tuple #[.slice ao L.length cap, .agg #[.int .i64 0, .int .i64 0, .int .i64 0, .int .i64 0]]) ∧ w'.ownsRow (w.heap.size + 1) 27 7 (.slice ao L.length cap) L.length (tokR L)) ∧ Below w.heap.size w w' := by
  refine (rall_any s hs w).mono ?_
  rintro e w' ⟨he, hb⟩
  rw [h] at he
  obtain ⟨v, rfl, ho⟩ := he
  obtain ⟨ao, cap, rfl⟩ := own7_form ho
  exact ⟨⟨ao, cap, rfl, ho⟩, hb⟩
theorem rall_no {s : ByteArray} (hs : s.size ≤ 4000) {k : Nat} (h : allO s = .error k) (w : World) : Calls Try.prog 10 #[.string s] w
    fun e w' => e = .returned (.tuple #[.slice none 0 0, .agg #[.int .i64 2, .int .i64 (k : Int), .int .i64 0, .int .i64 0]]) ∧ Below w.heap.size w w' := by
  refine (rall_any s hs w).mono ?_
  rintro e w' ⟨he, hb⟩
  rw [h] at he
  exact ⟨he, hb⟩
theorem addA_len {a : List Tok} : ∀ {r : Except Nat (List Tok)} {L : List Tok}, addA a r = .ok L → ∃ M, r = .ok M ∧ L = a ++ M
  | .ok M, L, h => ⟨M, rfl, by injection h with h; exact h.symm⟩
  | .error e, L, h => by cases h
theorem allF_len {s : ByteArray} : ∀ (f k : Nat) (L : List Tok), allF s f k = .ok L → L.length ≤ f
  | 0, k, L, h => by cases h
  | f + 1, k, L, h => by
    rw [allF.eq_2] at h
    cases hq : nextO s k with
    | none => rw [hq] at h; cases h
    | some q =>
      obtain ⟨t, m⟩ := q
      rw [hq] at h
      simp only at h
      split at h
      · injection h with h; rw [← h]; simp
      · cases hr : allF s f m with
        | error e => rw [hr] at h; cases h
        | ok M => rw [hr] at h; injection h with h; rw [← h]; have := allF_len f m M hr; simp; omega
theorem allO_len {s : ByteArray} (hs : s.size ≤ 4000) {L : List Tok} (h : allO s = .ok L) : L.length ≤ 4002 := by
  have := allF_len _ _ _ h; omega

set_option maxRecDepth 1000000 in
set_option maxHeartbeats 12800000 in
theorem tells_walk (s : ByteArray) (i : Int) (hi : i ≤ 9223372036854775807) (w : World) :
    Calls Try.prog 3 #[.string s, .int .i64 i] w fun e w' => e = .returned (.bool true) ∧ Below w.heap.size w w' := by
  by_cases hs : (s.size : Int) ≤ 300
  · by_cases h0 : i < 0
    · go_enter Try.func3, Try.ntmps3
      go_wp2_with fail
      refine (awake_any _).mono ?_
      rintro e w9 ⟨rfl, hb9⟩
      go_wp2
      go_ret
      exact ⟨rfl, hb9⟩
    · obtain ⟨t, n, b, ht⟩ := nextT_form s i.toNat
      have C1 := Lib.hid (fun W => next_any s (by omega) i hi W)
      have C2 := Lib.hid (fun W => rnext_any s (by omega) i hi W)
      rw [ht] at C1 C2
      have C3 := Lib.hid (fun W => skip_any s (by omega) i.toNat (by omega) W)
      have C4 := Lib.hid (fun W => rskip_any s (by omega) i.toNat (by omega) W)
      rw [show ((i.toNat : Nat) : Int) = i by omega] at C3 C4
      generalize skO s i.toNat = p at *
      have hq := tokQ_self t
      clear ht
      cases hall : allO s with
      | error k =>
        have C5 := Lib.hid (fun W => all_no (s := s) (by omega) hall W)
        have C6 := Lib.hid (fun W => rall_no (s := s) (by omega) hall W)
        clear hall
        go_enter Try.func3, Try.ntmps3
        go_wp2_with fail
        refine (C1.out _).mono ?_
        rintro e w1 ⟨he, hb1⟩
        subst he
        have HA1 := Lib.hid (hb1.alloc hb1.size (.cells #[.int .i64 (t.kd : Int), .string t.tx, .int .u64 (t.st.1 : Int), .int .u64 (t.st.2.1 : Int), .int .u64 (t.st.2.2.1 : Int), .int .u64 (t.st.2.2.2 : Int), .int .i64 (t.pos : Int)] 27))
        have HX1 := Lib.hid (Own.fresh w1 27 [.int .i64 (t.kd : Int), .string t.tx, .int .u64 (t.st.1 : Int), .int .u64 (t.st.2.1 : Int), .int .u64 (t.st.2.2.1 : Int), .int .u64 (t.st.2.2.2 : Int), .int .i64 (t.pos : Int)])
        clear hb1
        go_wp2_with fail
        refine (C2.out _).mono ?_
        rintro e w2 ⟨he, hb2⟩
        subst he
        have HA2' := keepb HA1.out hb2
        have HA2 := Lib.hid (HA2'.alloc HA2'.size (.cells #[.int .i64 (t.kd : Int), .string t.tx, .int .u64 (t.st.1 : Int), .int .u64 (t.st.2.1 : Int), .int .u64 (t.st.2.2.1 : Int), .int .u64 (t.st.2.2.2 : Int), .int .i64 (t.pos : Int)] 27))
        have HX2 := Lib.hid ((HX1.out.under hb2 HX1.out.lt).on_alloc (.cells #[.int .i64 (t.kd : Int), .string t.tx, .int .u64 (t.st.1 : Int), .int .u64 (t.st.2.1 : Int), .int .u64 (t.st.2.2.1 : Int), .int .u64 (t.st.2.2.2 : Int), .int .i64 (t.pos : Int)] 27))
        have HY2 := Lib.hid (Own.fresh w2 27 [.int .i64 (t.kd : Int), .string t.tx, .int .u64 (t.st.1 : Int), .int .u64 (t.st.2.1 : Int), .int .u64 (t.st.2.2.1 : Int), .int .u64 (t.st.2.2.2 : Int), .int .i64 (t.pos : Int)])
        clear hb2 HA1 HX1 HA2'
        go_wp2_with fail
        refine (C5.out _).mono ?_
        rintro e w3 ⟨he, hb3⟩
        subst he
        have HA3' := keepb HA2.out hb3
        have HA3 := Lib.hid (HA3'.alloc HA3'.size (.cells #[.int .i64 2, .int .i64 (k : Int), .int .i64 0, .int .i64 0] 33))
        have HX3 := Lib.hid ((HX2.out.under hb3 HX2.out.lt).on_alloc (.cells #[.int .i64 2, .int .i64 (k : Int), .int .i64 0, .int .i64 0] 33))
        have HY3 := Lib.hid ((HY2.out.under hb3 HY2.out.lt).on_alloc (.cells #[.int .i64 2, .int .i64 (k : Int), .int .i64 0, .int .i64 0] 33))
        have HF3 := Lib.hid (Own.fresh w3 33 [.int .i64 2, .int .i64 (k : Int), .int .i64 0, .int .i64 0])
        clear hb3 HA2 HX2 HY2 HA3'
        go_wp2_with fail
        refine (C6.out _).mono ?_
        rintro e w4 ⟨he, hb4⟩
        subst he
        have HA4' := keepb HA3.out hb4
        have HA4 := Lib.hid (HA4'.alloc HA4'.size (.cells #[.int .i64 2, .int .i64 (k : Int), .int .i64 0, .int .i64 0] 33))
        have HX4 := Lib.hid ((HX3.out.under hb4 HX3.out.lt).on_alloc (.cells #[.int .i64 2, .int .i64 (k : Int), .int .i64 0, .int .i64 0] 33))
        have HY4 := Lib.hid ((HY3.out.under hb4 HY3.out.lt).on_alloc (.cells #[.int .i64 2, .int .i64 (k : Int), .int .i64 0, .int .i64 0] 33))
        have HF4 := Lib.hid ((HF3.out.under hb4 HF3.out.lt).on_alloc (.cells #[.int .i64 2, .int .i64 (k : Int), .int .i64 0, .int .i64 0] 33))
        have HG4 := Lib.hid (Own.fresh w4 33 [.int .i64 2, .int .i64 (k : Int), .int .i64 0, .int .i64 0])
        clear hb4 HA3 HX3 HY3 HF3 HA4'
        go_wp2_with fail
        generalize World.alloc w4 _ = W at *
        generalize w4.heap.size = g4 at *
        generalize w3.heap.size = g3 at *
        generalize w2.heap.size = g2 at *
        generalize w1.heap.size = g1 at *
        refine (awake_any _).mono ?_
        rintro e w5 ⟨rfl, hb5⟩
        have HA5 := Lib.hid (keepb HA4.out hb5)
        have HX5 := Lib.hid (HX4.out.under hb5 HX4.out.lt)
        have HY5 := Lib.hid (HY4.out.under hb5 HY4.out.lt)
        have HF5 := Lib.hid (HF4.out.under hb5 HF4.out.lt)
        have HG5 := Lib.hid (HG4.out.under hb5 HG4.out.lt)
        clear hb5 HA4 HX4 HY4 HF4 HG4
        obtain ⟨x0, x1, x2, x3, x4, x5, x6⟩ := HX5.out.seven
        obtain ⟨y0, y1, y2, y3, y4, y5, y6⟩ := HY5.out.seven
        go_wp2_with fail
        refine (C3.out _).mono ?_
        rintro e w6 ⟨rfl, rfl⟩
        go_wp2_with fail
        refine (C4.out _).mono ?_
        rintro e w6 ⟨rfl, rfl⟩
        go_wp2_with fail
        clear x0 x1 x2 x3 x4 x5 x6 y0 y1 y2 y3 y4 y5 y6
        refine (same5_any [] [] none none 0 0 (by simp) (by simp) _ (HasT.nil _) (HasT.nil _)).mono ?_
        rintro e w7 ⟨rfl, hb7⟩
        rw [show decide (([] : List Tok) = []) = true from decide_eq_true rfl]
        have HA7 := Lib.hid (keepb HA5.out hb7)
        have HF7 := Lib.hid (HF5.out.under hb7 HF5.out.lt)
        have HG7 := Lib.hid (HG5.out.under hb7 HG5.out.lt)
        clear hb7 HA5 HF5 HG5
        obtain ⟨f0, f1, f2, f3, -⟩ := HF7.out.four
        obtain ⟨j0, j1, j2, j3, -⟩ := HG7.out.four
        go_wp2
        go_ret
        exact ⟨rfl, HA7.out⟩
      | ok L =>
        have C5 := Lib.hid (fun W => all_ok (s := s) (by omega) hall W)
        have C6 := Lib.hid (fun W => rall_ok (s := s) (by omega) hall W)
        have hll := allO_len (by omega) hall
        clear hall
        go_enter Try.func3, Try.ntmps3
        go_wp2_with fail
        refine (C1.out _).mono ?_
        rintro e w1 ⟨he, hb1⟩
        subst he
        have HA1 := Lib.hid (hb1.alloc hb1.size (.cells #[.int .i64 (t.kd : Int), .string t.tx, .int .u64 (t.st.1 : Int), .int .u64 (t.st.2.1 : Int), .int .u64 (t.st.2.2.1 : Int), .int .u64 (t.st.2.2.2 : Int), .int .i64 (t.pos : Int)] 27))
        have HX1 := Lib.hid (Own.fresh w1 27 [.int .i64 (t.kd : Int), .string t.tx, .int .u64 (t.st.1 : Int), .int .u64 (t.st.2.1 : Int), .int .u64 (t.st.2.2.1 : Int), .int .u64 (t.st.2.2.2 : Int), .int .i64 (t.pos : Int)])
        clear hb1
        go_wp2_with fail
        refine (C2.out _).mono ?_
        rintro e w2 ⟨he, hb2⟩
        subst he
        have HA2' := keepb HA1.out hb2
        have HA2 := Lib.hid (HA2'.alloc HA2'.size (.cells #[.int .i64 (t.kd : Int), .string t.tx, .int .u64 (t.st.1 : Int), .int .u64 (t.st.2.1 : Int), .int .u64 (t.st.2.2.1 : Int), .int .u64 (t.st.2.2.2 : Int), .int .i64 (t.pos : Int)] 27))
        have HX2 := Lib.hid ((HX1.out.under hb2 HX1.out.lt).on_alloc (.cells #[.int .i64 (t.kd : Int), .string t.tx, .int .u64 (t.st.1 : Int), .int .u64 (t.st.2.1 : Int), .int .u64 (t.st.2.2.1 : Int), .int .u64 (t.st.2.2.2 : Int), .int .i64 (t.pos : Int)] 27))
        have HY2 := Lib.hid (Own.fresh w2 27 [.int .i64 (t.kd : Int), .string t.tx, .int .u64 (t.st.1 : Int), .int .u64 (t.st.2.1 : Int), .int .u64 (t.st.2.2.1 : Int), .int .u64 (t.st.2.2.2 : Int), .int .i64 (t.pos : Int)])
        clear hb2 HA1 HX1 HA2'
        go_wp2_with fail
        refine (C5.out _).mono ?_
        rintro e w3 ⟨⟨ao, cap, he, hr3⟩, hb3⟩
        subst he
        have HA3' := keepb HA2.out hb3
        have HA3 := Lib.hid (HA3'.alloc HA3'.size (.cells #[.int .i64 0, .int .i64 0, .int .i64 0, .int .i64 0] 33))
        have HX3 := Lib.hid ((HX2.out.under hb3 HX2.out.lt).on_alloc (.cells #[.int .i64 0, .int .i64 0, .int .i64 0, .int .i64 0] 33))
        have HY3 := Lib.hid ((HY2.out.under hb3 HY2.out.lt).on_alloc (.cells #[.int .i64 0, .int .i64 0, .int .i64 0, .int .i64 0] 33))
        have HF3 := Lib.hid (Own.fresh w3 33 [.int .i64 0, .int .i64 0, .int .i64 0, .int .i64 0])
        have HT3 := Lib.hid (own7_has (hr3.alloc (.cells #[.int .i64 0, .int .i64 0, .int .i64 0, .int .i64 0] 33)))
        clear hr3
        clear hb3 HA2 HX2 HY2 HA3'
        go_wp2_with fail
        refine (C6.out _).mono ?_
        rintro e w4 ⟨⟨bo, cap2, he, hr4⟩, hb4⟩
        subst he
        have HA4' := keepb HA3.out hb4
        have HA4 := Lib.hid (HA4'.alloc HA4'.size (.cells #[.int .i64 0, .int .i64 0, .int .i64 0, .int .i64 0] 33))
        have HX4 := Lib.hid ((HX3.out.under hb4 HX3.out.lt).on_alloc (.cells #[.int .i64 0, .int .i64 0, .int .i64 0, .int .i64 0] 33))
        have HY4 := Lib.hid ((HY3.out.under hb4 HY3.out.lt).on_alloc (.cells #[.int .i64 0, .int .i64 0, .int .i64 0, .int .i64 0] 33))
        have HF4 := Lib.hid ((HF3.out.under hb4 HF3.out.lt).on_alloc (.cells #[.int .i64 0, .int .i64 0, .int .i64 0, .int .i64 0] 33))
        have HG4 := Lib.hid (Own.fresh w4 33 [.int .i64 0, .int .i64 0, .int .i64 0, .int .i64 0])
        have HU4 := Lib.hid (own7_has (hr4.alloc (.cells #[.int .i64 0, .int .i64 0, .int .i64 0, .int .i64 0] 33)))
        have HT4 := Lib.hid ((HT3.out.below hb4).below ((Below.refl w4.heap.size w4).alloc (Nat.le_refl _) (.cells #[.int .i64 0, .int .i64 0, .int .i64 0, .int .i64 0] 33)))
        clear hr4 HT3
        clear hb4 HA3 HX3 HY3 HF3 HA4'
        go_wp2_with fail
        generalize World.alloc w4 _ = W at *
        generalize w4.heap.size = g4 at *
        generalize w3.heap.size = g3 at *
        generalize w2.heap.size = g2 at *
        generalize w1.heap.size = g1 at *
        refine (awake_any _).mono ?_
        rintro e w5 ⟨rfl, hb5⟩
        have HA5 := Lib.hid (keepb HA4.out hb5)
        have HX5 := Lib.hid (HX4.out.under hb5 HX4.out.lt)
        have HY5 := Lib.hid (HY4.out.under hb5 HY4.out.lt)
        have HF5 := Lib.hid (HF4.out.under hb5 HF4.out.lt)
        have HG5 := Lib.hid (HG4.out.under hb5 HG4.out.lt)
        have HT5 := Lib.hid (HT4.out.below hb5)
        have HU5 := Lib.hid (HU4.out.below hb5)
        clear HT4 HU4
        clear hb5 HA4 HX4 HY4 HF4 HG4
        obtain ⟨x0, x1, x2, x3, x4, x5, x6⟩ := HX5.out.seven
        obtain ⟨y0, y1, y2, y3, y4, y5, y6⟩ := HY5.out.seven
        go_wp2_with fail
        refine (C3.out _).mono ?_
        rintro e w6 ⟨rfl, rfl⟩
        go_wp2_with fail
        refine (C4.out _).mono ?_
        rintro e w6 ⟨rfl, rfl⟩
        go_wp2_with fail
        clear x0 x1 x2 x3 x4 x5 x6 y0 y1 y2 y3 y4 y5 y6
        refine (same5_any L L _ _ _ _ (by omega) (by omega) _ HT5.out HU5.out).mono ?_
        rintro e w7 ⟨rfl, hb7⟩
        rw [show decide (L = L) = true from decide_eq_true rfl]
        have HA7 := Lib.hid (keepb HA5.out hb7)
        have HF7 := Lib.hid (HF5.out.under hb7 HF5.out.lt)
        have HG7 := Lib.hid (HG5.out.under hb7 HG5.out.lt)
        clear hb7 HA5 HF5 HG5
        obtain ⟨f0, f1, f2, f3, -⟩ := HF7.out.four
        obtain ⟨j0, j1, j2, j3, -⟩ := HG7.out.four
        go_wp2
        go_ret
        exact ⟨rfl, HA7.out⟩
  · go_enter Try.func3, Try.ntmps3
    go_wp2_with fail
    refine (awake_any _).mono ?_
    rintro e w9 ⟨rfl, hb9⟩
    go_wp2
    go_ret
    exact ⟨rfl, hb9⟩
end Go.Proofs.Ytinkgidncdjapab
