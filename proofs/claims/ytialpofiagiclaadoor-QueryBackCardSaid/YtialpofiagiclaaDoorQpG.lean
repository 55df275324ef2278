/- The program's query.Parse, walked. -/
import Derived.Test.YtialpofiagiclaaDoorQpF
namespace Go.Proofs.YtialpofiagiclaaDoor
set_option linter.unusedVariables false
set_option maxRecDepth 1000000
open Go.RowKit Go.Sort

theorem qF_path {s : ByteArray} {P : List (List Hp)} (hP : P.length ≠ 8) : ∀ (f k : Nat) (L : List Hp), k ≤ s.size → s.size < f + k → match pthF s f k L with
    | .error e => qF s f k P L = .error e
    | .ok p => (k < p.2 ∧ p.2 ≤ s.size ∧ (p.2 = s.size ∨ tk s p.2 [124] = true)) ∧ (if p.2 = s.size then qF s f k P L = .ok (P ++ [p.1]) else ∃ f', s.size < f' + (p.2 + 1) ∧ qF s f k P L = qF s f' (p.2 + 1) (P ++ [p.1]) [])
  | 0, k, L, hk, hf => by omega
  | f + 1, k, L, hk, hf => by
    have hq : qF s (f + 1) k P L = if P.length = 8 ∨ L.length = 12 then .error (3, k) else
      match hopR s k with
      | .error e => .error (2, e)
      | .ok (h, m) => if m = s.size then .ok (P ++ [L ++ [h]]) else if tk s m [124] = true then qF s f (m + 1) (P ++ [L ++ [h]]) [] else qF s f m P (L ++ [h]) := rfl
    unfold pthF
    rw [hq]
    by_cases h12 : L.length = 12
    · rw [if_pos h12, if_pos (.inr h12)]
    · rw [if_neg h12, if_neg (by rintro (h | h); exact hP h; exact h12 h)]
      cases hh : hopR s k with
      | error e => rfl
      | ok p =>
        obtain ⟨x, m⟩ := p
        have hb := (hopR_bd hk).1 x m hh
        simp only []
        by_cases he : m = s.size
        · rw [if_pos (.inl he), if_pos he]
          exact ⟨⟨hb.1, hb.2, .inl he⟩, by rw [if_pos he]⟩
        · by_cases ht : tk s m [124] = true
          · rw [if_pos (.inr ht), if_neg he, if_pos ht]
            refine ⟨⟨hb.1, hb.2, .inr ht⟩, ?_⟩
            rw [if_neg he]
            exact ⟨f, by show s.size < f + (m + 1); omega, rfl⟩
          · rw [if_neg (by rintro (h | h); exact he h; exact ht h), if_neg he, if_neg ht]
            have ih := qF_path hP f m (L ++ [x]) hb.2 (by omega)
            cases hp : pthF s f m (L ++ [x]) with
            | error e => rw [hp] at ih; exact ih
            | ok p =>
              rw [hp] at ih
              exact ⟨⟨by have := ih.1.1; omega, ih.1.2⟩, ih.2⟩
@[go_sem 2000] theorem qbuild0 (w : World) : (Instr.build 24 #[]).run Tryd.prog w = .ok (.agg #[.slice none 0 0]) w := run_build w _ _ _ (by kernel_rfl)
@[go_sem 2000] theorem fbuild00 (w : World) : (Instr.build 29 #[]).run Tryd.prog w = .ok (.agg #[.int .i64 0, .int .i64 0, .int .i64 0, .int .i64 0]) w := run_build w _ _ _ (by kernel_rfl)
@[go_sem 2000] theorem pbuild0 (s : ByteArray) (w : World) : (Instr.build 42 #[(0, .string s)]).run Tryd.prog w = .ok (.agg #[.string s, .int .i64 0, .int .i64 0, .int .i64 0, .int .i64 0, .int .i64 0]) w := run_build w _ _ _ (by kernel_rfl)
set_option maxRecDepth 1000000 in
set_option maxHeartbeats 6400000 in
theorem pparse_any (s : ByteArray) (hs : s.size ≤ 1000000) (w : World) : Calls Tryd.prog 8 #[.string s] w fun e w' => QRes e w' (qryO s) ∧ Below w.heap.size w w' := by
  obtain ⟨A, hA⟩ : ∃ A, w.heap.size = A := ⟨_, rfl⟩
  have HAW := Lib.hid hA
  have HW0 := Lib.hid (show allocs w [.cells #[.slice none 0 0] 24, .cells #[.int .i64 0, .int .i64 0, .int .i64 0, .int .i64 0] 29, .cells #[.string s, .int .i64 0, .int .i64 0, .int .i64 0, .int .i64 0, .int .i64 0] 42, .cells #[.slice none 0 0] 24] = (((w.alloc (.cells #[.slice none 0 0] 24)).alloc (.cells #[.int .i64 0, .int .i64 0, .int .i64 0, .int .i64 0] 29)).alloc (.cells #[.string s, .int .i64 0, .int .i64 0, .int .i64 0, .int .i64 0, .int .i64 0] 42)).alloc (.cells #[.slice none 0 0] 24) from rfl)
  have HA0 := Lib.hid (show Own ((((w.alloc (.cells #[.slice none 0 0] 24)).alloc (.cells #[.int .i64 0, .int .i64 0, .int .i64 0, .int .i64 0] 29)).alloc (.cells #[.string s, .int .i64 0, .int .i64 0, .int .i64 0, .int .i64 0, .int .i64 0] 42)).alloc (.cells #[.slice none 0 0] 24)) A 24 [.slice none 0 0] from by rw [← HW0.out, ← hA]; exact allocs_own _ w 0 _ _ rfl)
  have HF0 := Lib.hid (show Own ((((w.alloc (.cells #[.slice none 0 0] 24)).alloc (.cells #[.int .i64 0, .int .i64 0, .int .i64 0, .int .i64 0] 29)).alloc (.cells #[.string s, .int .i64 0, .int .i64 0, .int .i64 0, .int .i64 0, .int .i64 0] 42)).alloc (.cells #[.slice none 0 0] 24)) (A + 1) 29 [.int .i64 0, .int .i64 0, .int .i64 0, .int .i64 0] from by rw [← HW0.out, ← hA]; exact allocs_own _ w 1 _ _ rfl)
  have HP0 := Lib.hid (show Pq ((((w.alloc (.cells #[.slice none 0 0] 24)).alloc (.cells #[.int .i64 0, .int .i64 0, .int .i64 0, .int .i64 0] 29)).alloc (.cells #[.string s, .int .i64 0, .int .i64 0, .int .i64 0, .int .i64 0, .int .i64 0] 42)).alloc (.cells #[.slice none 0 0] 24)) (A + 2) s 0 none from by rw [← HW0.out, ← hA]; exact allocs_own _ w 2 _ _ rfl)
  have HV0 := Lib.hid (show Own ((((w.alloc (.cells #[.slice none 0 0] 24)).alloc (.cells #[.int .i64 0, .int .i64 0, .int .i64 0, .int .i64 0] 29)).alloc (.cells #[.string s, .int .i64 0, .int .i64 0, .int .i64 0, .int .i64 0, .int .i64 0] 42)).alloc (.cells #[.slice none 0 0] 24)) (A + 3) 24 [.slice none 0 0] from by rw [← HW0.out, ← hA]; exact allocs_own _ w 3 _ _ rfl)
  have HB0 := Lib.hid (show Below A w ((((w.alloc (.cells #[.slice none 0 0] 24)).alloc (.cells #[.int .i64 0, .int .i64 0, .int .i64 0, .int .i64 0] 29)).alloc (.cells #[.string s, .int .i64 0, .int .i64 0, .int .i64 0, .int .i64 0, .int .i64 0] 42)).alloc (.cells #[.slice none 0 0] 24)) from by rw [← HW0.out, ← hA]; exact allocs_below w _ w (Below.refl _ _))
  have HS0 := Lib.hid (show ((((w.alloc (.cells #[.slice none 0 0] 24)).alloc (.cells #[.int .i64 0, .int .i64 0, .int .i64 0, .int .i64 0] 29)).alloc (.cells #[.string s, .int .i64 0, .int .i64 0, .int .i64 0, .int .i64 0, .int .i64 0] 42)).alloc (.cells #[.slice none 0 0] 24)).heap.size = A + 4 from by rw [← HW0.out, allocs_size, hA]; rfl)
  obtain ⟨RES, hRES⟩ : ∃ r, qryO s = r := ⟨_, rfl⟩
  have HQ0 := Lib.hid (show qF s (s.size + 1) 0 [] [] = RES from hRES)
  rw [hRES]
  clear hRES
  go_enter Tryd.func8, Tryd.ntmps8
  go_upto_region 3 with fail
  try rw [hA]
  clear HW0
  generalize (((w.alloc (.cells #[.slice none 0 0] 24)).alloc (.cells #[.int .i64 0, .int .i64 0, .int .i64 0, .int .i64 0] 29)).alloc (.cells #[.string s, .int .i64 0, .int .i64 0, .int .i64 0, .int .i64 0, .int .i64 0] 42)).alloc (.cells #[.slice none 0 0] 24) = w1 at *
  clear hA
  go_wp2_with fail
  go_loopw [6, 7, 8] (fun v6 v7 v8 wr => ∃ (more : Bool) (P : List (List Hp)) (k M : Nat) (qo : Option Addr) (qc : Nat) (a7 a8 : Value), v6 = .bool more ∧ a7 = v7 ∧ a8 = v8 ∧ k ≤ s.size ∧ P.length ≤ 8 ∧ A + 4 ≤ M ∧ M ≤ wr.heap.size ∧
      Hid (if more = true then ∃ f, s.size < f + k ∧ qF s f k P [] = RES else RES = .ok P) ∧ Hid (Pq wr (A + 2) s k none) ∧ Hid (Own wr A 24 [.slice none 0 0]) ∧ Hid (Own wr (A + 1) 29 [.int .i64 0, .int .i64 0, .int .i64 0, .int .i64 0]) ∧ Hid (Own wr (A + 3) 24 [.slice qo P.length qc]) ∧ Hid (PS wr (A + 4) M (.slice qo P.length qc) (.slice none 0 0) P []) ∧ Hid (Below A w wr))
    (fun v6 _ _ wr => s.size + 1 - (intOf ((wr.cell? ⟨A + 2, 1, none⟩).getD (.bool false))).toNat)
  case atStart => exact ⟨true, [], 0, A + 4, none, 0, _, _, rfl, rfl, rfl, Nat.zero_le _, Nat.zero_le _, Nat.le_refl _, by rw [HS0.out]; exact Nat.le_refl _, Lib.hid (by rw [if_pos rfl]; exact ⟨s.size + 1, by omega, HQ0.out⟩), HP0, HA0, HF0, HV0, Lib.hid (PS.start _ _ _), HB0⟩
  case round =>
    clear HQ0 HP0 HA0 HF0 HV0 HB0 HS0
    obtain ⟨more, P, k, M, qo, qc, a7, a8, rfl, h7, h8, hk, hP8, hM4, hMs, HR, HP, HA, HF, HV, HPS, HB⟩ := hrel
    subst h7 h8
    obtain ⟨n, hn⟩ : ∃ n, P.length = n := ⟨_, rfl⟩
    have HN := Lib.hid hn
    rw [hn] at hP8 HV HPS
    have HQ1 := Lib.hid HP.out.at_.2.1
    clear hn
    cases more with
    | false =>
      have HE := Lib.hid (show RES = .ok P from by have := HR.out; rwa [if_neg (by decide)] at this)
      have v0 := HV.out.cell 0
      have vl := HV.out.lt
      have a0 := HA.out.cell 0
      have af := HA.out.thaw 0
      have al := HA.out.lt
      obtain ⟨b0, b1, b2, b3, d0, d1, d2, d3⟩ := HF.out.four
      have bl := HF.out.lt
      simp only [List.getElem?_cons_zero] at a0 v0
      have HA9 := Lib.hid (show Own (set4 (wr.setCell ⟨A, 0, none⟩ (.slice qo n qc)) (A + 1) (.int .i64 0) (.int .i64 0) (.int .i64 0) (.int .i64 0)) A 24 [.slice qo n qc] from ((((HA.out.put 0 (.slice qo n qc)).off (p := ⟨A + 1, 0, none⟩) (by simp) _).off (p := ⟨A + 1, 1, none⟩) (by simp) _).off (p := ⟨A + 1, 2, none⟩) (by simp) _).off (p := ⟨A + 1, 3, none⟩) (by simp) _)
      have HF9 := Lib.hid (show Own (set4 (wr.setCell ⟨A, 0, none⟩ (.slice qo n qc)) (A + 1) (.int .i64 0) (.int .i64 0) (.int .i64 0) (.int .i64 0)) (A + 1) 29 [.int .i64 0, .int .i64 0, .int .i64 0, .int .i64 0] from Own.put4 (HF.out.off (p := ⟨A, 0, none⟩) (by simp) _))
      have HB9 := Lib.hid (show Below A w (set4 (wr.setCell ⟨A, 0, none⟩ (.slice qo n qc)) (A + 1) (.int .i64 0) (.int .i64 0) (.int .i64 0) (.int .i64 0)) from below_put4 (HB.out.setCell (p := ⟨A, 0, none⟩) (Nat.le_refl _) _) (Nat.le_succ A) _ _ _ _)
      have HQ9 := Lib.hid (show PS (set4 (wr.setCell ⟨A, 0, none⟩ (.slice qo n qc)) (A + 1) (.int .i64 0) (.int .i64 0) (.int .i64 0) (.int .i64 0)) (A + 4) M (.slice qo n qc) (.slice none 0 0) P [] from HPS.out.keep (U := fun j => j = A ∨ j = A + 1) (((((But.refl _ wr).setCell (p := ⟨A, 0, none⟩) (fun _ => .inl rfl) _).setCell (p := ⟨A + 1, 0, none⟩) (fun _ => .inr rfl) _).setCell (p := ⟨A + 1, 1, none⟩) (fun _ => .inr rfl) _).setCell (p := ⟨A + 1, 2, none⟩) (fun _ => .inr rfl) _ |>.setCell (p := ⟨A + 1, 3, none⟩) (fun _ => .inr rfl) _) (fun b h1 h2 e => by rcases e with e | e <;> omega))
      go_wp2
      clear v0 vl a0 af al b0 b1 b2 b3 d0 d1 d2 d3 bl
      rw [set4_fold]
      generalize set4 _ _ _ _ _ _ = w9 at *
      have a0 := HA9.out.cell 0
      obtain ⟨b0, b1, b2, b3, -⟩ := HF9.out.four
      simp only [List.getElem?_cons_zero] at a0
      refine bodyPost_ret (by simp [results, Tryd.results8, go_sem, a0, b0, b1, b2, b3]; rfl) rfl ?_
      rw [HE.out]
      refine ⟨⟨qo, qc, by rw [HN.out], ?_⟩, by rw [HAW.out]; exact HB9.out⟩
      have hq := HQ9.out
      rw [← HN.out] at hq
      exact hasQ_of hq
    | true =>
      have hex := HR.out
      rw [if_pos rfl] at hex
      obtain ⟨f, hf, hq⟩ := hex
      have HQF := Lib.hid hq
      have v0 := HV.out.cell 0
      have vl := HV.out.lt
      simp only [List.getElem?_cons_zero] at v0
      by_cases h8 : n = 8
      · subst h8
        have HE := Lib.hid (show RES = .error (3, k) from by
          rw [← HQF.out]
          obtain ⟨f', rfl⟩ : ∃ q, f = q + 1 := ⟨f - 1, by omega⟩
          unfold qF
          rw [if_pos (.inl HN.out)])
        obtain ⟨c0, c1, hg, -⟩ := HP.out.at_
        go_upto_region 7 with fail
        clear v0 vl
        have a0 := HA.out.cell 0
        have af := HA.out.thaw 0
        have al := HA.out.lt
        obtain ⟨b0, b1, b2, b3, d0, d1, d2, d3⟩ := HF.out.four
        have bl := HF.out.lt
        simp only [List.getElem?_cons_zero] at a0
        go_upto_region 7 with fail
        go_region
        have HA9 := Lib.hid (show Own (set4 (wr.setCell ⟨A, 0, none⟩ (.slice none 0 0)) (A + 1) (.int .i64 3) (.int .i64 (k : Int)) (.int .i64 0) (.int .i64 0)).drew A 24 [.slice none 0 0] from (((((HA.out.put 0 (.slice none 0 0)).off (p := ⟨A + 1, 0, none⟩) (by simp) _).off (p := ⟨A + 1, 1, none⟩) (by simp) _).off (p := ⟨A + 1, 2, none⟩) (by simp) _).off (p := ⟨A + 1, 3, none⟩) (by simp) _).on_drew)
        have HF9 := Lib.hid (show Own (set4 (wr.setCell ⟨A, 0, none⟩ (.slice none 0 0)) (A + 1) (.int .i64 3) (.int .i64 (k : Int)) (.int .i64 0) (.int .i64 0)).drew (A + 1) 29 [.int .i64 3, .int .i64 (k : Int), .int .i64 0, .int .i64 0] from (Own.put4 (HF.out.off (p := ⟨A, 0, none⟩) (by simp) _)).on_drew)
        have HB9 := Lib.hid (show Below A w (set4 (wr.setCell ⟨A, 0, none⟩ (.slice none 0 0)) (A + 1) (.int .i64 3) (.int .i64 (k : Int)) (.int .i64 0) (.int .i64 0)).drew from (below_put4 (HB.out.setCell (p := ⟨A, 0, none⟩) (Nat.le_refl _) (.slice none 0 0)) (Nat.le_succ A) _ _ _ _).drew)
        clear a0 af al b0 b1 b2 b3 d0 d1 d2 d3 bl
        rw [set4_fold]
        generalize World.drew (set4 _ _ _ _ _ _) = w9 at *
        have a0 := HA9.out.cell 0
        obtain ⟨b0, b1, b2, b3, -⟩ := HF9.out.four
        simp only [List.getElem?_cons_zero] at a0
        go_wp2
        refine bodyPost_ret (by simp [results, Tryd.results8, go_sem, a0, b0, b1, b2, b3]; rfl) rfl ?_
        rw [HE.out]
        exact ⟨rfl, by rw [HAW.out]; exact HB9.out⟩
      · have d8 : ((n : Int) == 8) = false := by simp; omega
        have d8' : decide ((n : Int) = 8) = false := decide_eq_false (by omega)
        have hqp := qF_path (s := s) (P := P) (by rw [HN.out]; exact h8) f k [] hk hf
        go_wp2_with fail
        refine (ppath_any s hs (A + 2) k f hk hf wr HP.out).mono ?_
        rintro e w5 ⟨hpa, hb5⟩
        clear v0 vl
        have HA5 := Lib.hid (HA.out.but hb5 (by omega))
        have HF5 := Lib.hid (HF.out.but hb5 (by omega))
        have HV5 := Lib.hid (HV.out.but hb5 (by omega))
        have HB5 := Lib.hid (HB.out.trans (hb5.below (B := A) (by have := HB.out.size; have := HAW.out; omega) (fun g hg => by have hg : g = A + 2 := hg; omega)))
        have HS5 := Lib.hid hb5.size
        have HPS5 := Lib.hid (HPS.out.keep hb5 (fun b h1 h2 e => by have e : b = A + 2 := e; omega))
        cases hpt : pthF s f k [] with
        | error c =>
          rw [hpt] at hpa hqp
          obtain ⟨rfl, hp⟩ := hpa
          have HE := Lib.hid (show RES = .error c from HQF.out.symm.trans hqp)
          have HP5 := Lib.hid hp
          obtain ⟨ce, ca⟩ := c
          clear hp hqp hb5 HA HF HV HB HPS HP
          have c0 : w5.cell? ⟨A + 2, 0, none⟩ = some (.string s) := HP5.out.cell 0
          have c2 : w5.cell? ⟨A + 2, 2, none⟩ = some (.int .i64 ce) := HP5.out.cell 2
          have c3 : w5.cell? ⟨A + 2, 3, none⟩ = some (.int .i64 (ca : Int)) := HP5.out.cell 3
          have c4 : w5.cell? ⟨A + 2, 4, none⟩ = some (.int .i64 0) := HP5.out.cell 4
          have c5 : w5.cell? ⟨A + 2, 5, none⟩ = some (.int .i64 0) := HP5.out.cell 5
          have cl := HP5.out.lt
          have HA := HA5
          have HF := HF5
          have HB := HB5
          go_upto_region 10 with fail
          have a0 := HA.out.cell 0
          have af := HA.out.thaw 0
          have al := HA.out.lt
          obtain ⟨b0, b1, b2, b3, d0, d1, d2, d3⟩ := HF.out.four
          have bl := HF.out.lt
          simp only [List.getElem?_cons_zero] at a0
          go_upto_region 10 with fail
          go_region
          have HA9 := Lib.hid (show Own (set4 (w5.setCell ⟨A, 0, none⟩ (.slice none 0 0)) (A + 1) (.int .i64 ce) (.int .i64 (ca : Int)) (.int .i64 0) (.int .i64 0)).drew A 24 [.slice none 0 0] from (((((HA.out.put 0 (.slice none 0 0)).off (p := ⟨A + 1, 0, none⟩) (by simp) _).off (p := ⟨A + 1, 1, none⟩) (by simp) _).off (p := ⟨A + 1, 2, none⟩) (by simp) _).off (p := ⟨A + 1, 3, none⟩) (by simp) _).on_drew)
          have HF9 := Lib.hid (show Own (set4 (w5.setCell ⟨A, 0, none⟩ (.slice none 0 0)) (A + 1) (.int .i64 ce) (.int .i64 (ca : Int)) (.int .i64 0) (.int .i64 0)).drew (A + 1) 29 [.int .i64 ce, .int .i64 (ca : Int), .int .i64 0, .int .i64 0] from (Own.put4 (HF.out.off (p := ⟨A, 0, none⟩) (by simp) _)).on_drew)
          have HB9 := Lib.hid (show Below A w (set4 (w5.setCell ⟨A, 0, none⟩ (.slice none 0 0)) (A + 1) (.int .i64 ce) (.int .i64 (ca : Int)) (.int .i64 0) (.int .i64 0)).drew from (below_put4 (HB.out.setCell (p := ⟨A, 0, none⟩) (Nat.le_refl _) (.slice none 0 0)) (Nat.le_succ A) _ _ _ _).drew)
          clear a0 af al b0 b1 b2 b3 d0 d1 d2 d3 bl
          rw [set4_fold]
          generalize World.drew (set4 _ _ _ _ _ _) = w9 at *
          have a0 := HA9.out.cell 0
          obtain ⟨b0, b1, b2, b3, -⟩ := HF9.out.four
          simp only [List.getElem?_cons_zero] at a0
          go_wp2
          refine bodyPost_ret (by simp [results, Tryd.results8, go_sem, a0, b0, b1, b2, b3]; rfl) rfl ?_
          rw [HE.out]
          exact ⟨rfl, by rw [HAW.out]; exact HB9.out⟩
        | ok p =>
          obtain ⟨L, m⟩ := p
          rw [hpt] at hpa hqp
          obtain ⟨po, pc, T, rfl, hp, hW, hT⟩ := hpa
          obtain ⟨⟨hkm, hms, hend⟩, hnx⟩ := hqp
          have hkm : k < m := hkm
          have hms : m ≤ s.size := hms
          have hend : m = s.size ∨ tk s m [124] = true := hend
          have hnx : if m = s.size then qF s f k P [] = .ok (P ++ [L]) else ∃ f', s.size < f' + (m + 1) ∧ qF s f k P [] = qF s f' (m + 1) (P ++ [L]) [] := hnx
          rw [HQF.out] at hnx
          have hT : ∀ b, T b → wr.heap.size ≤ b ∧ b < w5.heap.size := hT
          have HW5 := Lib.hid (show Win T 38 6 w5 (.slice po L.length pc) L.length (L.flatMap hprow) from hW)
          have HP5 := Lib.hid (show Pq w5 (A + 2) s m none from hp)
          have HNX := Lib.hid hnx
          have HEND := Lib.hid hend
          have HKM := Lib.hid hkm
          have HTT := Lib.hid hT
          obtain ⟨R, S, T0, cs, q1, q2, q3, q4, q5, q6⟩ := HPS5.out
          rw [HN.out] at q4
          have HQ4 := Lib.hid q4
          have HQ5 := Lib.hid q5
          have HQ123 := Lib.hid (And.intro q1 (And.intro q2 q3))
          clear hp hb5 HA HF HV HB HPS HP hW hT hnx hend hkm hpt q1 q2 q3 q4 q5 q6 HPS5
          have v0 : w5.cell? ⟨A + 3, 0, none⟩ = some (.slice qo n qc) := HV5.out.cell 0
          have vf : w5.frozen? ⟨A + 3, 0, none⟩ = false := HV5.out.thaw 0
          have vl := HV5.out.lt
          obtain ⟨i0, hi0, hi1, hi2, hi3⟩ := info_parts9 info_path
          have hbl : Below w5.heap.size w5 (w5.alloc (.cells #[.slice po L.length pc] 36)) := (Below.refl _ _).alloc (Nat.le_refl _) _
          have HSC := Lib.hid (HQ4.out.below hbl)
          have HFN := Lib.hid (fresh_news w5 36 [.slice po L.length pc])
          have HCE := Lib.hid (show ∀ u ∈ ([.slice po L.length pc] : List Value), u.oneCell' = true by intro u hu; simp at hu; subst hu; rfl)
          have HBL := Lib.hid hbl
          have HVB := Lib.hid (HV5.out.under hbl HV5.out.lt)
          have vf2 : (w5.alloc (.cells #[.slice po L.length pc] 36)).frozen? ⟨A + 3, 0, none⟩ = false := HVB.out.thaw 0
          have vl2 := HVB.out.lt
          clear hbl
          go_wp2_with (first
            | (at_builtin; refine wpList_append_win _ rfl _ _ 22 rfl S 36 i0 _ 1 24 Tryd.underlying22 hi0 hi1 hi2 hi3 rfl (by decide) _ n cs rfl HSC.out ⟨w5.heap.size, 0, none⟩ 1 1 [.slice po L.length pc] rfl rfl HFN.out HCE.out (by unfold maxLen; omega) (by omega) ?_))
          intro vC wC hwC hbC
          obtain ⟨qo', qc', hvC, -, -, -⟩ := hwC.form
          subst hvC
          have hs1 := HBL.out.size
          have hs2 := hbC.size
          have hq123 := HQ123.out
          have HSA := Lib.hid (show ∀ b, S b → A + 4 ≤ b from fun b hb => (hq123.1 b (.inr (.inl hb))).1)
          have HVC := Lib.hid (HVB.out.but hbC (fun hs => by have := HSA.out _ hs; omega))
          have HAC := Lib.hid ((HA5.out.under HBL.out HA5.out.lt).but hbC (fun hs => by have := HSA.out _ hs; omega))
          have HFC := Lib.hid ((HF5.out.under HBL.out HF5.out.lt).but hbC (fun hs => by have := HSA.out _ hs; omega))
          have HPC := Lib.hid ((show Pq (w5.alloc (.cells #[.slice po L.length pc] 36)) (A + 2) s m none from HP5.out.under HBL.out HP5.out.lt).but hbC (fun hs => by have := HSA.out _ hs; omega))
          have HBC := Lib.hid ((HB5.out.trans (HBL.out.mono (by have := HB5.out.size; have := HAW.out; omega))).trans (hbC.below (B := A) (by have := HB5.out.size; have := HAW.out; omega) (fun g hg => by have := HSA.out _ hg; omega)))
          have HPSC := Lib.hid (PS.path (w := w5.alloc (.cells #[.slice po L.length pc] 36)) (B := A + 4) (M := w5.heap.size) (P := P) (L := L) (R := R) (S := S) (T := T) hs1 (by have := HS5.out; omega)
            (fun b hb => by
              have h6 := HS5.out
              rcases hb with hb | hb | hb
              · have := hq123.1 b (.inl hb); omega
              · have := hq123.1 b (.inr (.inl hb)); omega
              · have := HTT.out b hb; omega)
            (fun b hb => ⟨(hq123.2.1 b hb).1, fun ht => by have h1 := hq123.1 b (.inl hb); have h2 := HTT.out b ht; omega⟩)
            (fun b hb ht => by have h1 := hq123.1 b (.inr (.inl hb)); have h2 := HTT.out b ht; omega)
            (HQ5.out.keep (But.of_below (S := fun _ => False) HBL.out) (fun _ _ _ h => h)) (HW5.out.below HBL.out) (by rw [HN.out, show (w5.alloc (.cells #[.slice po L.length pc] 36)).heap.size = w5.heap.size + 1 from by simp]; exact hwC) hbC)
          have HSZ := Lib.hid (show A + 4 ≤ wC.heap.size from by have := HS5.out; omega)
          have v0 : wC.cell? ⟨A + 3, 0, none⟩ = some (.slice qo n qc) := HVC.out.cell 0
          have vf : wC.frozen? ⟨A + 3, 0, none⟩ = false := HVC.out.thaw 0
          have vl := HVC.out.lt
          have hbV := But.put wC (A + 3) 0 (.slice qo' (n + 1) qc')
          have HV9 := Lib.hid (HVC.out.put 0 (.slice qo' (n + 1) qc'))
          have HA9 := Lib.hid (HAC.out.but hbV (by simp))
          have HF9 := Lib.hid (HFC.out.but hbV (by simp))
          have HP9 := Lib.hid (HPC.out.but hbV (by simp))
          have HB9 := Lib.hid (HBC.out.trans (hbV.below (B := A) (by have := HBC.out.size; have := HAW.out; omega) (fun g hg => by have hg : g = A + 3 := hg; omega)))
          have HPS9 := Lib.hid (HPSC.out.keep hbV (fun b h1 h2 e => by have e : b = A + 3 := e; omega))
          have HSZ9 := Lib.hid (show wC.heap.size ≤ (wC.setCell ⟨A + 3, 0, none⟩ (.slice qo' (n + 1) qc')).heap.size from hbV.size)
          have HLN := Lib.hid (show (P ++ [L]).length = n + 1 from by rw [List.length_append, HN.out]; rfl)
          obtain ⟨MC, hMC⟩ : ∃ M, wC.heap.size = M := ⟨_, rfl⟩
          rw [hMC] at HPS9 HSZ HSZ9
          clear hq123 hwC hbC hs1 hs2 hbV HVB vf2 vl2 HSC HFN HCE HBL HVC HAC HFC HPC HBC HPSC HA5 HF5 HV5 HB5 HP5 HW5 HQ4 HQ5 HQ123 HTT hi0 hi1 hi2 hi3
          obtain ⟨tm, htm⟩ : ∃ b, tk s m [124] = b := ⟨_, rfl⟩
          go_upto_region 5 with fail
          generalize wC.setCell ⟨A + 3, 0, none⟩ (.slice qo' (n + 1) qc') = w9 at *
          clear v0 vf vl hMC
          go_wp2_with fail
          refine (ptake_any s ⟨#[124]⟩ hs (by decide) (A + 2) m hms none w9 HP9.out).mono ?_
          rintro e w10 ⟨he, hp, hb⟩
          have he : e = .returned (.bool (tk s m [124])) := he
          rw [htm] at he
          subst he
          have hp : Pq w10 (A + 2) s (tkN s m [124]) none := hp
          have HAX := Lib.hid (HA9.out.but hb (by omega))
          have HFX := Lib.hid (HF9.out.but hb (by omega))
          have HVX := Lib.hid (HV9.out.but hb (by omega))
          have HBX := Lib.hid (HB9.out.trans (hb.below (B := A) (by have := HB9.out.size; have := HAW.out; omega) (fun g hg => by have hg : g = A + 2 := hg; omega)))
          have HPX := Lib.hid (HPS9.out.keep hb (fun b h1 h2 e => by have e : b = A + 2 := e; omega))
          have HSX := Lib.hid (Nat.le_trans HSZ9.out hb.size)
          have hml : m ≠ s.size ∨ tm = false := by
            cases tm with
            | false => exact .inr rfl
            | true => left; intro e; have := tk_size htm hms; simp at this; omega
          cases tm with
          | true =>
            rw [tk_yes htm] at hp
            have hm1 := tk_size htm hms
            have hm1 : m + 1 ≤ s.size := hm1
            have HPY := Lib.hid (show Pq w10 (A + 2) s (m + 1) none from hp)
            have hnx := HNX.out
            rw [if_neg (by omega)] at hnx
            have HR9 := Lib.hid (show if true = true then ∃ f, s.size < f + (m + 1) ∧ qF s f (m + 1) (P ++ [L]) [] = RES else RES = .ok (P ++ [L]) from by
              rw [if_pos rfl]
              obtain ⟨f', h1, h2⟩ := hnx
              exact ⟨f', h1, h2.symm⟩)
            have HQ9 := Lib.hid HPY.out.at_.2.1
            clear hp hb hnx htm hml
            go_wp2
            go_roundw
            case rel => exact ⟨true, P ++ [L], m + 1, MC, qo', qc', _, _, rfl, rfl, rfl, hm1, by rw [HLN.out]; omega, HSZ.out, HSX.out, HR9, HPY, HAX, HFX, by rw [HLN.out]; exact HVX, by rw [HLN.out]; exact HPX, HBX⟩
            case measure => rw [HQ9.out, HQ1.out]; simp [intOf]; have := HKM.out; omega
          | false =>
            rw [tk_not htm] at hp
            have HPY := Lib.hid hp
            have hnx := HNX.out
            rw [if_pos (by rcases HEND.out with h | h; exact h; rw [htm] at h; cases h)] at hnx
            have HR9 := Lib.hid (show if false = true then ∃ f, s.size < f + m ∧ qF s f m (P ++ [L]) [] = RES else RES = .ok (P ++ [L]) from by
              rw [if_neg (by decide)]
              exact hnx)
            have HQ9 := Lib.hid HPY.out.at_.2.1
            clear hp hb hnx htm hml
            go_wp2
            go_roundw
            case rel => exact ⟨false, P ++ [L], m, MC, qo', qc', _, _, rfl, rfl, rfl, hms, by rw [HLN.out]; omega, HSZ.out, HSX.out, HR9, HPY, HAX, HFX, by rw [HLN.out]; exact HVX, by rw [HLN.out]; exact HPX, HBX⟩
            case measure => rw [HQ9.out, HQ1.out]; simp [intOf]; have := HKM.out; omega
end Go.Proofs.YtialpofiagiclaaDoor
