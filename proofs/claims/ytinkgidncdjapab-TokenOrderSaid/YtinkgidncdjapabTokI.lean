/- Tokens in memory; the walk of the reference's Same. -/
import Derived.Test.YtinkgidncdjapabTokH
import Derived.Laws.StructEq
import Derived.Lib.SliceRun
import Derived.Deep.QuietTactic
import Derived.BigQuiet
namespace Go.Proofs.Ytinkgidncdjapab
set_option linter.unusedVariables false
open Go.RowKit Go.Sort

theorem eq4b (a b c d a' b' c' d' : Int) (w : World) :
    (Op.equalIn 9999 25 (.agg #[.int .u64 a, .int .u64 b, .int .u64 c, .int .u64 d]) (.agg #[.int .u64 a', .int .u64 b', .int .u64 c', .int .u64 d'])).run Try.prog w = .ok (a == a' && b == b' && c == c' && d == d') w := by
  have u3 := Try.underlying23
  have a3 := Try.isAgg23
  have z3 := Try.sizeOf23
  rw [show (9999 : Nat) = 9998 + 1 from rfl, Op.equalIn]
  simp only [Sem.run_bind, run_underlying Try.underlying25, Result.andThen_ok]
  simp only [Std.Legacy.Range.forIn_eq_forIn_range', Std.Legacy.Range.size, Nat.sub_zero, Nat.add_sub_cancel, Nat.div_one, List.range'_succ, List.range'_zero, List.forIn_cons, List.forIn_nil]
  go_simp
  by_cases h1 : a = a' <;> by_cases h2 : b = b' <;> by_cases h3 : c = c' <;> by_cases h4 : d = d' <;> simp [h1, h2, h3, h4]
@[go_sem 2000] theorem eqTok7 (a e f g h p a' e' f' g' h' p' : Int) (b b' : ByteArray) (w : World) :
    (Op.equalIn 10000 27 (.agg #[.int .i64 a, .string b, .int .u64 e, .int .u64 f, .int .u64 g, .int .u64 h, .int .i64 p]) (.agg #[.int .i64 a', .string b', .int .u64 e', .int .u64 f', .int .u64 g', .int .u64 h', .int .i64 p'])).run Try.prog w =
      .ok (a == a' && decide (b = b') && (e == e' && f == f' && g == g' && h == h') && p == p') w := by
  have u3 := Try.underlying3
  have a3 := Try.isAgg3
  have z3 := Try.sizeOf3
  have u9 := Try.underlying9
  have a9 := Try.isAgg9
  have z9 := Try.sizeOf9
  have u8 := Try.underlying23
  have a8 := Try.isAgg23
  have z8 := Try.sizeOf23
  have hS : Try.prog.underlying 27 = some (.struct (Try.prog.fieldsOf 27)) := by kernel_rfl
  have hp : Try.prog.stoodInHeld 27 = false := by kernel_rfl
  rw [show (10000 : Nat) = 9999 + 1 from rfl, run_equalIn_agg w 9999 27 _ _ hS hp]
  simp only [Program.fieldsOf, Try.underlying27]
  have hb : (b.toList == b'.toList) = decide (b = b') := by
    rw [← beq_toListBytes]
    by_cases h : b = b'
    · subst h; rw [beq_toListBytes]; simp
    · rw [beq_toListBytes, decide_eq_false h]
      refine beq_false_of_ne fun e => h ?_
      rw [ByteArray.toList_eq, ByteArray.toList_eq] at e
      obtain ⟨⟨x⟩⟩ := b
      obtain ⟨⟨y⟩⟩ := b'
      simp at e; rw [e]
  go_simp
  have hq := eq4b e f g h e' f' g' h' w
  generalize hQ : (e == e' && f == f' && g == g' && h == h') = q at hq
  rw [hq]
  by_cases h1 : a = a' <;> by_cases h2 : b = b' <;> by_cases h3 : p = p' <;> cases q <;> simp [h1, h2, h3, Result.andThen]
@[go_sem 2000] theorem eqFault (a b c d a' b' c' d' : Int) (w : World) :
    (Op.equalIn 10000 33 (.agg #[.int .i64 a, .int .i64 b, .int .i64 c, .int .i64 d]) (.agg #[.int .i64 a', .int .i64 b', .int .i64 c', .int .i64 d'])).run Try.prog w = .ok (a == a' && b == b' && c == c' && d == d') w := by
  have u3 := Try.underlying3
  have a3 := Try.isAgg3
  have z3 := Try.sizeOf3
  have u8 := Try.underlying31
  have a8 := Try.isAgg31
  have z8 := Try.sizeOf31
  have hS : Try.prog.underlying 33 = some (.struct (Try.prog.fieldsOf 33)) := by kernel_rfl
  have hp : Try.prog.stoodInHeld 33 = false := by kernel_rfl
  rw [show (10000 : Nat) = 9999 + 1 from rfl, run_equalIn_agg w 9999 33 _ _ hS hp]
  simp only [Program.fieldsOf, Try.underlying33]
  go_simp
  by_cases h1 : a = a' <;> by_cases h2 : b = b' <;> by_cases h3 : c = c' <;> by_cases h4 : d = d' <;> simp [h1, h2, h3, h4]
/-- Are two tokens the same? -/
def tokQ (t u : Tok) : Bool := (t.kd : Int) == (u.kd : Int) && decide (t.tx = u.tx) && ((t.st.1 : Int) == (u.st.1 : Int) && (t.st.2.1 : Int) == (u.st.2.1 : Int) && (t.st.2.2.1 : Int) == (u.st.2.2.1 : Int) && (t.st.2.2.2 : Int) == (u.st.2.2.2 : Int)) && (t.pos : Int) == (u.pos : Int)
@[go_sem 3000] theorem eqTok (t u : Tok) (w : World) : (Op.equalIn 10000 27 (.agg #[.int .i64 (t.kd : Int), .string t.tx, .int .u64 (t.st.1 : Int), .int .u64 (t.st.2.1 : Int), .int .u64 (t.st.2.2.1 : Int), .int .u64 (t.st.2.2.2 : Int), .int .i64 (t.pos : Int)]) (.agg #[.int .i64 (u.kd : Int), .string u.tx, .int .u64 (u.st.1 : Int), .int .u64 (u.st.2.1 : Int), .int .u64 (u.st.2.2.1 : Int), .int .u64 (u.st.2.2.2 : Int), .int .i64 (u.pos : Int)])).run Try.prog w = .ok (tokQ t u) w := eqTok7 ..
theorem tokQ_yes {t u : Tok} (h : tokQ t u = true) : t = u := by
  obtain ⟨k, x, ⟨a, b, c, d⟩, p⟩ := t
  obtain ⟨k', x', ⟨a', b', c', d'⟩, p'⟩ := u
  simp [tokQ] at h
  obtain ⟨⟨⟨h1, h2⟩, ⟨⟨h3, h4⟩, h5⟩, h6⟩, h7⟩ := h
  obtain rfl : k = k' := by omega
  obtain rfl : a = a' := by omega
  obtain rfl : b = b' := by omega
  obtain rfl : c = c' := by omega
  obtain rfl : d = d' := by omega
  obtain rfl : p = p' := by omega
  rw [h2]
theorem tokQ_self (t : Tok) : tokQ t t = true := by simp [tokQ]
instance : DecidableEq Tok := fun t u => if h : tokQ t u = true then isTrue (tokQ_yes h) else isFalse (fun e => h (e ▸ tokQ_self t))
/-- The tokens L lie from the address ao on. -/
def HasT (w : World) (ao : Option Addr) (L : List Tok) : Prop := ∀ k t, L[k]? = some t → ∃ g off, ao = some ⟨g, off, none⟩ ∧ g < w.heap.size ∧
  w.cell? ⟨g, off + k * 7, none⟩ = some (.int .i64 (t.kd : Int)) ∧ w.cell? ⟨g, off + k * 7 + 1, none⟩ = some (.string t.tx) ∧ w.cell? ⟨g, off + k * 7 + 2, none⟩ = some (.int .u64 (t.st.1 : Int)) ∧ w.cell? ⟨g, off + k * 7 + 3, none⟩ = some (.int .u64 (t.st.2.1 : Int)) ∧ w.cell? ⟨g, off + k * 7 + 4, none⟩ = some (.int .u64 (t.st.2.2.1 : Int)) ∧ w.cell? ⟨g, off + k * 7 + 5, none⟩ = some (.int .u64 (t.st.2.2.2 : Int)) ∧ w.cell? ⟨g, off + k * 7 + 6, none⟩ = some (.int .i64 (t.pos : Int))
theorem HasT.below {w w' : World} {ao : Option Addr} {L : List Tok} (h : HasT w ao L) (hb : Below w.heap.size w w') : HasT w' ao L := fun k t hk => by
  obtain ⟨g, off, e, hg, h0, h1, h2, h3, h4, h5, h6⟩ := h k t hk
  exact ⟨g, off, e, Nat.lt_of_lt_of_le hg hb.size, keepc h0 hb, keepc h1 hb, keepc h2 hb, keepc h3 hb, keepc h4 hb, keepc h5 hb, keepc h6 hb⟩
theorem tokR_get : ∀ (L : List Tok) (k : Nat) (x : Tok), L[k]? = some x → ∀ c, c < 7 → (tokR L)[k * 7 + c]? = x.row[c]?
  | y :: L, 0, x, h, c, hc => by
    simp at h; subst h
    show (y.row ++ tokR L)[0 * 7 + c]? = _
    rw [List.getElem?_append_left (by simp [Tok.row]; omega)]; simp
  | y :: L, k + 1, x, h, c, hc => by
    show (y.row ++ tokR L)[(k + 1) * 7 + c]? = _
    rw [List.getElem?_append_right (by simp [Tok.row]; omega), show (k + 1) * 7 + c - y.row.length = k * 7 + c by simp [Tok.row]; omega]
    exact tokR_get L k x (by simpa using h) c hc
theorem own7_cell {w : World} {B n cap : Nat} {ao : Option Addr} {xs : List Value} (h : w.ownsRow B 27 7 (.slice ao n cap) n xs) (hn : 0 < n) : ∃ g, ao = some ⟨g, 0, none⟩ ∧ B ≤ g ∧ g < w.heap.size ∧ ∀ j, j < n * 7 → w.cell? ⟨g, j, none⟩ = xs[j]? := by
  rcases h.2 with ⟨-, h0⟩ | ⟨g, cap', cur, hv, hb, hg, h1, h2, h3, h4⟩
  · omega
  · injection hv with e1 e2 e3
    refine ⟨g, e1, hb, lt_of_block hg, fun j hj => ?_⟩
    rw [cell_of_row w g j cur 27 (0, 0) hg, ← h4, List.getElem?_take_of_lt hj, Array.getElem?_toList]
theorem own7_has {w : World} {B cap : Nat} {ao : Option Addr} {L : List Tok} (h : w.ownsRow B 27 7 (.slice ao L.length cap) L.length (tokR L)) : HasT w ao L := fun k t hk => by
  have hlt := (List.getElem?_eq_some_iff.1 hk).1
  obtain ⟨g, e, -, hg, hc⟩ := own7_cell h (by omega)
  have key : ∀ c, c < 7 → w.cell? ⟨g, 0 + k * 7 + c, none⟩ = t.row[c]? := fun c hc7 => by
    rw [Nat.zero_add, hc (k * 7 + c) (by omega)]; exact tokR_get L k t hk c hc7
  exact ⟨g, 0, e, hg, key 0 (by omega), key 1 (by omega), key 2 (by omega), key 3 (by omega), key 4 (by omega), key 5 (by omega), key 6 (by omega)⟩

set_option maxHeartbeats 3200000 in
set_option maxRecDepth 100000 in
theorem same5_any (L M : List Tok) (ao bo : Option Addr) (ac bc : Nat) (hl : (L.length : Int) ≤ 100000) (hm : (M.length : Int) ≤ 100000) (w : World) (hL : HasT w ao L) (hM : HasT w bo M) :
    Calls Try.prog 13 #[.slice ao L.length ac, .slice bo M.length bc] w fun e w' => e = .returned (.bool (decide (L = M))) ∧ Below w.heap.size w w' := by
  have HL := Lib.hid hL
  have HM := Lib.hid hM
  clear hL hM
  obtain ⟨n, hn⟩ : ∃ n, L.length = n := ⟨_, rfl⟩
  obtain ⟨m, hmm⟩ : ∃ m, M.length = m := ⟨_, rfl⟩
  have HN := Lib.hid hn
  have HMM := Lib.hid hmm
  rw [hn] at hl ⊢
  rw [hmm] at hm ⊢
  clear hn hmm
  by_cases e : n = m
  · subst e
    go_enter Try.func13, Try.ntmps13
    go_wp2
    go_loopw [5] (fun b5 wr => ∃ k : Nat, b5 = .int .i64 (k : Int) ∧ (k : Int) ≤ n ∧ Hid (∀ j, j < k → L[j]? = M[j]?) ∧ Hid (Below w.heap.size w wr)) (fun b5 _ => n - (intOf b5).toNat)
    case atStart => exact ⟨0, rfl, by omega, Lib.hid (fun j h => by omega), Lib.hid (Below.refl _ _)⟩
    case round =>
      obtain ⟨k, rfl, hk, HA, HB⟩ := hrel
      by_cases hlt : (k : Int) < n
      · obtain ⟨t, ht⟩ : ∃ t, L[k]? = some t := ⟨_, List.getElem?_eq_getElem (by have := HN.out; omega)⟩
        obtain ⟨u, hu⟩ : ∃ u, M[k]? = some u := ⟨_, List.getElem?_eq_getElem (by have := HMM.out; omega)⟩
        obtain ⟨g, off, rfl, hg, c0, c1, c2, c3, c4, c5, c6⟩ := HL.out.below HB.out k t ht
        obtain ⟨g', off', rfl, hg', d0, d1, d2, d3, d4, d5, d6⟩ := HM.out.below HB.out k u hu
        have HTU := Lib.hid (And.intro ht hu)
        obtain ⟨b, hb⟩ : ∃ b, tokQ t u = b := ⟨_, rfl⟩
        have HQ := Lib.hid hb
        clear ht hu
        cases b
        · have HE := Lib.hid (show L ≠ M from fun e => by
            have h := HTU.out; rw [e] at h
            have h2 : t = u := Option.some.inj (h.1.symm.trans h.2)
            have h3 := HQ.out; rw [h2, tokQ_self] at h3; cases h3)
          go_wp2_with fail
          go_quiet (fail)
          go_wp2
          go_ret
          exact ⟨ret_bool (by rw [decide_eq_false HE.out]), below_drewN HB.out _⟩
        · have HA1 : Hid (∀ j, j < k + 1 → L[j]? = M[j]?) := Lib.hid (fun j hj => by
            by_cases e : j = k
            · rw [e, HTU.out.1, HTU.out.2, tokQ_yes HQ.out]
            · exact HA.out j (by omega))
          go_wp2_with fail
          go_quiet (fail)
          go_wp2
          go_roundw
          case rel => exact ⟨k + 1, by go_num, by omega, HA1, Lib.hid (below_drewN HB.out _)⟩
          case measure => simp [intOf]; omega
      · obtain rfl : k = n := by omega
        have HE := Lib.hid (show L = M from List.ext_getElem? (fun j => by
          by_cases h : j < k
          · exact HA.out j h
          · rw [List.getElem?_eq_none (by have := HN.out; omega), List.getElem?_eq_none (by have := HMM.out; omega)]))
        go_wp2
        go_ret
        exact ⟨ret_bool (by rw [decide_eq_true HE.out]), HB.out⟩
  · have hne : ((n : Int) != (m : Int)) = true := by rw [bne_iff_ne]; omega
    have HE := Lib.hid (show L ≠ M from fun h => e (by rw [← HN.out, ← HMM.out, h]))
    go_enter Try.func13, Try.ntmps13
    go_wp2
    go_ret
    exact ⟨ret_bool (by rw [decide_eq_false HE.out]), Below.refl _ _⟩
end Go.Proofs.Ytinkgidncdjapab
