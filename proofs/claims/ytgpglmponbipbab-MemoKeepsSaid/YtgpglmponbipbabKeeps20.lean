/- The law MemoKeeps, walked. -/
import Derived.Test.YtgpglmponbipbabKeepMath
import Derived.Lib.QuietBelow
import Derived.BigQuiet
import Derived.Deep.DeepCutAuto
import Derived.Deep.Cut
import Derived.Deep.CutRange
namespace Go.Proofs.Ytgpglmponbipbab
set_option linter.unusedVariables false
open Go.RowKit Go.Sort

theorem info_int : (Try.prog.info? 3).map (fun i => (i.zero, i.size, i.bytes)) = some (some (.int .i64 0), 1, 8) := by kernel_rfl
theorem zero256 (w : World) : (zeroValue 39).run Try.prog w = .ok (.agg (Array.replicate 256 (.int .i64 0))) w := by kernel_rfl
theorem alloc256 (w : World) : (Instr.alloc 39 true (.tuple #[])).run Try.prog w = .ok (.pointer (some ⟨w.heap.size, 0, none⟩)) (w.alloc (.cells (Array.replicate 256 (.int .i64 0)) 39)) := by
  simp only [Instr.alloc, Sem.run_bind, zero256, Result.andThen_ok]
  rfl
theorem wpList_alloc256 (w : World) {ops : Array Oper} {rest : List Oper} {o : Oper} {act : Act} {Q : Exit → Act → World → Prop} (hg : o.guard = none) (hop : o.op = Op.alloc 39)
    (hK : wpList Try.prog ops Q rest (act.put o.dst (.pointer (some ⟨w.heap.size, 0, none⟩))) (w.alloc (.cells (Array.replicate 256 (.int .i64 0)) 39))) : wpList Try.prog ops Q (o :: rest) act w := by
  refine wpList_plain hg fun K' hK' => ?_
  unfold Oper.wp
  simp only [execOp, hop, Sem.run_bind, alloc256, Result.andThen_ok, Sem.run_pure]
  exact hK' _ _ hK
/-- Bytes that come in. -/
def HasB (N : Nat) (w : World) (ao : Option Addr) (B : List Nat) : Prop := ∀ (k x : Nat), B[k]? = some x → x < 256 ∧ ∃ g off, ao = some ⟨g, off, none⟩ ∧ g < N ∧ w.cell? ⟨g, off + k, none⟩ = some (.int .u8 (x : Int))
theorem HasB.keep {N : Nat} {w w' : World} {ao : Option Addr} {B : List Nat} (h : HasB N w ao B) (hb : Below N w w') : HasB N w' ao B := fun k x hk => by
  obtain ⟨hx, g, off, rfl, hg, hc⟩ := h k x hk
  exact ⟨hx, g, off, rfl, hg, (hb.cell (p := ⟨g, off + k, none⟩) hg).trans hc⟩
theorem take_mem {O : List Nat} {j k x : Nat} (h : O[j]? = some x) : decide (k ∈ O.take (j + 1)) = (decide (k ∈ O.take j) || decide (x = k)) := by
  have hj := (List.getElem?_eq_some_iff.1 h).1
  rw [List.take_succ_eq_append_getElem hj]
  have : O[j] = x := by rw [List.getElem?_eq_getElem hj] at h; simpa using h
  rw [this, Bool.eq_iff_iff]
  simp only [decide_eq_true_eq, List.mem_append, List.mem_singleton, Bool.or_eq_true]
  constructor
  · rintro (h | h)
    · exact .inl h
    · exact .inr h.symm
  · rintro (h | h)
    · exact .inl h
    · exact .inr h.symm

theorem kp_step {N : Nat} {n : Int} {w wr w4 w6 : World} {p ge k c : Nat} {v v' : Value} {O : List Nat} {f : Nat → Int} {U T T' : Nat → Prop} {x : Int} (h : Kp N n w wr p ge k v O f U T) (hc : c < 256) (hb4 : But U wr w4)
    (hm : MemoRep w4 p (Grow U wr w4) n ((ordL n O c).map (Ek (setF f c x)))) (h6 : But (fun g => g = ge ∨ T g) w4 w6) (he : Own w6 ge 39 (endRow (setF f c x))) (hw : Win T' 3 1 w6 v' (ordL n O c).length (ordRow (ordL n O c)))
    (hT : ∀ g, T' g → (T g ∨ w4.heap.size ≤ g) ∧ g < w6.heap.size) : Kp N n w w6 p ge (k + 1) v' (ordL n O c) (setF f c x) (Grow U wr w4) T' := by
  have s4 := hb4.size
  have hge := h.ends.lt
  have ut : Dj (Grow U wr w4) T := h.ut.grow h.lt
  have ue : ¬ Grow U wr w4 ge := fun hg => by rcases hg with hg | hg; exact h.ue hg; omega
  refine ⟨hm.keep h6 (fun g hg e => ?_), he, hw, ord_len h.few, ord_mem h.mem hc, fun g hg ht => ?_, ue, fun ht => ?_, grow_ge h.gu h.sz, fun g hg => ?_, fun g hg => (hT g hg).2, h.ge0, (h.bel.trans (hb4.below h.sz h.gu)).trans (h6.below (Nat.le_trans h.sz s4) (fun g hg => ?_)), Nat.le_trans (Nat.le_trans h.sz s4) h6.size⟩
  · rcases e with e | e
    · subst e; exact ue hg
    · exact ut g hg e
  · rcases (hT g ht).1 with h1 | h1
    · exact ut g hg h1
    · have : g < w4.heap.size := by rcases hg with hg | hg; have := h.memo.lt g hg; omega; exact hg.2
      omega
  · rcases (hT ge ht).1 with h1 | h1
    · exact h.te h1
    · omega
  · rcases (hT g hg).1 with h1 | h1
    · exact h.gt g h1
    · have := h.sz; omega
  · rcases hg with hg | hg
    · subst hg; exact h.ge0
    · exact h.gt g hg

theorem kp_get {N : Nat} {n : Int} {w wr : World} {p ge k : Nat} {v : Value} {O : List Nat} {f : Nat → Int} {U T : Nat → Prop} (h : Kp N n w wr p ge k v O f U T) (j : Nat) (hj : j < 256) (b : Bool) (hb : decide (j ∈ O) = b) :
    Calls Try.prog 11 #[.pointer (some ⟨p, 0, none⟩), .int .i64 ((j : Int) / 16), .int .i64 ((j : Int) % 16)] wr
      fun e w' => ∃ a1 a2 a3 en a5 po pl pc, e = .returned (.tuple #[.agg #[.int .i64 a1, .int .i64 a2, .bool a3, .int .i64 en, .int .i64 a5, .slice po pl pc], .bool b]) ∧ (b = true → en = f j) ∧ Below wr.heap.size wr w' := by
  refine (get_any wr p U n (O.map (Ek f)) ((j : Int) / 16) ((j : Int) % 16) (WalkArith.wf_i64 (by omega)) (WalkArith.wf_i64 (by omega)) h.memo).mono ?_
  rintro e w' ⟨u, rfl, ⟨po, pc, rfl, _⟩, hbb⟩
  rw [has_ek, hb]
  refine ⟨_, _, _, _, _, _, _, _, rfl, fun hbt => ?_, hbb⟩
  subst hbt
  rw [get_ek (by simpa using hb)]
  rfl

set_option maxRecDepth 1000000 in
set_option maxHeartbeats 12800000 in
theorem keeps_walk (q : Nat) (hq : q < 256) (B : List Nat) (ao : Option Addr) (cap : Nat) (w : World) (hl : HasB w.heap.size w ao B) :
    Calls Try.prog 4 #[.int .u8 (q : Int), .slice ao B.length cap] w fun e w' => e = .returned (.bool true) ∧ Below w.heap.size w w' := by
  obtain ⟨N, hNN⟩ : ∃ N, w.heap.size = N := ⟨_, rfl⟩
  have hN : N ≤ w.heap.size := by omega
  obtain ⟨n, hnn⟩ : ∃ n, B.length = n := ⟨_, rfl⟩
  have HN := Lib.hid hnn
  rw [hNN] at hl ⊢
  rw [hnn]
  have HL := Lib.hid hl
  clear hNN hnn hl
  by_cases h1 : (n : Int) ≤ 60
  · go_enter Try.func4, Try.ntmps4
    go_wp2_with fail
    obtain ⟨nn, hnq⟩ : ∃ nn : Int, (q : Int) % 12 = nn := ⟨_, rfl⟩
    have hn0 : 0 ≤ nn ∧ nn ≤ 11 := by omega
    try rw [hnq]
    refine (new_any w nn).mono ?_
    rintro e w1 ⟨p, rfl, hb1, ha⟩
    have HB1 := Lib.hid hb1
    have HA := Lib.hid ha
    clear hb1 ha
    go_wp2_with (with_reducible refine wpList_alloc256 _ rfl rfl ?_)
    have H0 : Hid (Kp N nn w (w1.alloc (.cells (Array.replicate 256 (.int .i64 0)) 39)) p w1.heap.size 0 (.slice none 0 0) [] (fun _ => 0) (fun g => w.heap.size ≤ g ∧ g < w1.heap.size) (fun _ => False)) :=
      Lib.hid (by
        have s1 := HB1.out.size
        refine ⟨HA.out.keep (S := fun _ => False) ((But.refl _ _).alloc _) (fun _ _ h => h), ?_, Win.nil _ _ _ _, by simp; omega, (fun o h => by cases h), fun g _ h => h, by omega, fun h => h, fun g h => by omega, fun g h => h.elim, fun g h => h.elim, by omega, (HB1.out.mono hN).alloc (by omega) _, by simp; omega⟩
        have := Own.fresh w1 39 (endRow fun _ => 0)
        rwa [show (endRow fun _ => 0).toArray = Array.replicate 256 (.int .i64 0) from rfl] at this)
    generalize w1.alloc (.cells (Array.replicate 256 (.int .i64 0)) 39) = w2 at *
    obtain ⟨ge, hge⟩ : ∃ ge, w1.heap.size = ge := ⟨_, rfl⟩
    rw [hge] at H0 ⊢
    clear HA HB1 hge
    go_loopw [7, 9] (fun b7 b9 wr => ∃ k : Nat, b9 = .int .i64 (k : Int) ∧ (k : Int) ≤ n ∧ ∃ O f U T, Hid (Kp N nn w wr p ge k b7 O f U T)) (fun _ b9 _ => n - (intOf b9).toNat)
    case atStart => exact ⟨0, rfl, by omega, _, _, _, _, H0⟩
    case round =>
      obtain ⟨k, rfl, hk2, O, f, U, T, H⟩ := hrel
      clear H0
      by_cases h2 : (k : Int) < n
      · obtain ⟨c, hc⟩ : ∃ c, B[k]? = some c := ⟨_, List.getElem?_eq_getElem (by have := HN.out; omega)⟩
        obtain ⟨hc256, g, off, rfl, hg, cc⟩ := (HL.out.keep H.out.bel) k c hc
        obtain ⟨oo, oc, rfl, hoc, _, hcell⟩ := H.out.win.form
        have HC := Lib.hid hcell
        clear hc hcell
        have hlen := H.out.few
        obtain ⟨m, hm⟩ : ∃ m, O.length = m := ⟨_, rfl⟩
        have HM := Lib.hid hm
        rw [hm] at hoc hlen ⊢
        clear hm
        go_wp2_with fail
        refine (put_any wr p U nn (O.map (Ek f)) ⟨(c : Int) / 16, (c : Int) % 16, true, (k : Int) + 1, 0, none, 0, []⟩ (by rw [List.length_map]; have := HM.out; omega) (WalkArith.wf_i64 (by show _ ≤ (c : Int) / 16 ∧ (c : Int) / 16 ≤ _; omega)) (WalkArith.wf_i64 (by show _ ≤ (c : Int) % 16 ∧ (c : Int) % 16 ≤ _; omega)) (by show ((0 : Nat) : Int) ≤ 1000; decide) (fun _ => False) (fun _ _ h => h.elim) (HasS.nil _ _ _) H.out.memo).mono ?_
        rintro e w4 ⟨rfl, hb4, ha4⟩
        rw [put_ek (by have := HM.out; omega) hn0.1] at ha4
        have hsz4 := hb4.size
        have HB4 := Lib.hid hb4
        have HA4 := Lib.hid (show MemoRep w4 p (Grow U wr w4) nn ((ordL nn O c).map (Ek (setF f c ((k : Int) + 1)))) from ha4)
        have HW4 := Lib.hid (H.out.win.keep hb4 (fun g _ hg hu => H.out.ut g hu hg))
        have HE4 := Lib.hid (H.out.ends.but hb4 H.out.ue)
        clear hb4 ha4
        obtain ⟨oo', oc', e', _, _, hcell⟩ := HW4.out.form
        simp only [Value.slice.injEq, true_and] at e'
        obtain ⟨e1, e2⟩ := e'
        subst e1
        subst e2
        have HC4 := Lib.hid hcell
        clear hcell HC cc
        go_wp2_with fail
        go_loop [11, 12] (fun b11 b12 => ∃ j : Nat, b12 = .int .i64 (j : Int) ∧ (j : Int) ≤ m ∧ b11 = .bool (decide (c ∈ O.take j))) (fun _ b12 => m - (intOf b12).toNat)
        case atStart => exact ⟨0, rfl, by omega, by simp⟩
        case round =>
          obtain ⟨j, rfl, hj2, rfl⟩ := hrel
          by_cases h3 : (j : Int) < m
          · obtain ⟨x, hx⟩ : ∃ x, O[j]? = some x := ⟨_, List.getElem?_eq_getElem (by have := HM.out; omega)⟩
            obtain ⟨g1, off1, rfl, _, _, hcy, _⟩ := HC4.out j (by have := HM.out; omega)
            have hcx : w4.cell? ⟨g1, off1 + j, none⟩ = some (.int .i64 (x : Int)) := by rw [hcy]; simp [ordRow, hx]
            clear hcy
            have HT := Lib.hid (@take_mem O j c x hx)
            clear HC4 hx
            cases ht : decide (c ∈ O.take j) with
            | true =>
              go_wp2
              go_round
              case rel => exact ⟨j + 1, by go_num, by omega, by rw [HT.out, ht]; rfl⟩
              case measure => simp [intOf]; omega
            | false =>
              by_cases hxc : (x : Int) = c
              · have hxb : ((x : Int) == (c : Int)) = true := by rw [beq_iff_eq]; exact hxc
                have HXC := Lib.hid hxc
                clear hxc
                go_wp2
                go_round
                case rel => exact ⟨j + 1, by go_num, by omega, by rw [HT.out, ht, show decide (x = c) = true by simp; have := HXC.out; omega]; rfl⟩
                case measure => simp [intOf]; omega
              · have hxb : ((x : Int) == (c : Int)) = false := by rw [beq_eq_false_iff_ne]; exact hxc
                have HXC := Lib.hid hxc
                clear hxc
                go_wp2
                go_round
                case rel => exact ⟨j + 1, by go_num, by omega, by rw [HT.out, ht, show decide (x = c) = false by simp; have := HXC.out; omega]; rfl⟩
                case measure => simp [intOf]; omega
          · have hjm : j = m := by omega
            have htk : O.take j = O := List.take_of_length_le (by have := HM.out; omega)
            rw [htk]
            clear htk hjm HC4
            have hec := HE4.out.cell c
            rw [endRow_get hc256] at hec
            have het := HE4.out.thaw c
            have HE5 := Lib.hid (HE4.out.put c (.int .i64 ((k : Int) + 1)))
            have HP5 := Lib.hid (But.put w4 ge c (.int .i64 ((k : Int) + 1)))
            have HW5 := Lib.hid (HW4.out.keep HP5.out (fun g _ hg e => H.out.te (e ▸ hg)))
            have HF := Lib.hid (@endRow_set f c ((k : Int) + 1) hc256)
            by_cases hcO : c ∈ O
            · have hco : decide (c ∈ O) = true := by simpa using hcO
              rw [hco]
              have HK : Hid (Kp N nn w (w4.setCell ⟨ge, c, none⟩ (.int .i64 ((k : Int) + 1))) p ge (k + 1) (.slice oo m oc) (ordL nn O c) (setF f c ((k : Int) + 1)) (Grow U wr w4) T) := Lib.hid (kp_step H.out hc256 HB4.out HA4.out
                (HP5.out.mono fun g _ hg => .inl hg) (by rw [← HF.out]; exact HE5.out) (by rw [ord_in hcO]; have := HW5.out; rw [HM.out] at this ⊢; exact this) (fun g hg => ⟨.inl hg, by have h1 := H.out.lt g hg; have h2 := HB4.out.size; have h3 := HP5.out.size; omega⟩))
              clear hcO HW4 HE4 HW5 HE5
              go_wp2_with fail
              clear hec het HP5 HF
              generalize w4.setCell ⟨ge, c, none⟩ (.int .i64 ((k : Int) + 1)) = w7 at *
              generalize T = T7 at *
              generalize ordL nn O c = O7 at *
              generalize setF f c ((k : Int) + 1) = f7 at *
              generalize Grow U wr w4 = U7 at *
              clear HA4 HB4 H
              go_loopw [13] (fun b13 wr => ∃ j : Nat, b13 = .int .i64 (j : Int) ∧ (j : Int) ≤ 256 ∧ Hid (Kp N nn w wr p ge (k + 1) (.slice oo m oc) O7 f7 U7 T7)) (fun b13 _ => 256 - (intOf b13).toNat)
              case atStart => exact ⟨0, rfl, by omega, HK⟩
              case round =>
                obtain ⟨j, rfl, hj2, H8⟩ := hrel
                clear HK
                by_cases h5 : (j : Int) < 256
                · obtain ⟨oo8, oc8, e8, _, _, hc8⟩ := H8.out.win.form
                  simp only [Value.slice.injEq] at e8
                  obtain ⟨e81, e82, e83⟩ := e8
                  subst e81
                  subst e83
                  have HC8 := Lib.hid hc8
                  have HM8 := Lib.hid e82
                  clear hc8
                  clear e82
                  go_wp2_with fail
                  go_loop [14, 15] (fun b14 b15 => ∃ i : Nat, b15 = .int .i64 (i : Int) ∧ (i : Int) ≤ m ∧ b14 = .bool (decide (j ∈ O7.take i))) (fun _ b15 => m - (intOf b15).toNat)
                  case atStart => exact ⟨0, rfl, by omega, by simp⟩
                  case round =>
                    obtain ⟨i, rfl, hi2, rfl⟩ := hrel
                    by_cases h6 : (i : Int) < m
                    · obtain ⟨x, hx⟩ : ∃ x, O7[i]? = some x := ⟨_, List.getElem?_eq_getElem (by have := HM8.out; omega)⟩
                      obtain ⟨g1, off1, rfl, _, _, hcy, _⟩ := HC8.out i (by have := HM8.out; omega)
                      have hcx : wr.cell? ⟨g1, off1 + i, none⟩ = some (.int .i64 (x : Int)) := by rw [hcy]; simp [ordRow, hx]
                      clear hcy
                      have HT := Lib.hid (@take_mem O7 i j x hx)
                      clear HC8 hx
                      cases ht : decide (j ∈ O7.take i) with
                      | true =>
                        go_wp2
                        go_round
                        case rel => exact ⟨i + 1, by go_num, by omega, by rw [HT.out, ht]; rfl⟩
                        case measure => simp [intOf]; omega
                      | false =>
                        by_cases hxc : (x : Int) = j
                        · have hxb : ((x : Int) == (j : Int)) = true := by rw [beq_iff_eq]; exact hxc
                          have HXC := Lib.hid hxc
                          clear hxc
                          go_wp2
                          go_round
                          case rel => exact ⟨i + 1, by go_num, by omega, by rw [HT.out, ht, show decide (x = j) = true by simp; have := HXC.out; omega]; rfl⟩
                          case measure => simp [intOf]; omega
                        · have hxb : ((x : Int) == (j : Int)) = false := by rw [beq_eq_false_iff_ne]; exact hxc
                          have HXC := Lib.hid hxc
                          clear hxc
                          go_wp2
                          go_round
                          case rel => exact ⟨i + 1, by go_num, by omega, by rw [HT.out, ht, show decide (x = j) = false by simp; have := HXC.out; omega]; rfl⟩
                          case measure => simp [intOf]; omega
                    · have him : i = m := by omega
                      have htk : O7.take i = O7 := List.take_of_length_le (by have := HM8.out; omega)
                      rw [htk]
                      clear htk him HC8
                      have hjn : j < 256 := by omega
                      cases hb : decide (j ∈ O7) with
                      | true =>
                        have G := Lib.hid (kp_get H8.out j hjn true hb)
                        clear hb
                        go_wp2_with fail
                        refine G.out.mono ?_
                        rintro e wy ⟨a1, a2, a3, en, a5, po, pl, pc, rfl, hen, hbb⟩
                        obtain rfl := hen (by first | trivial | rfl)
                        have H9 := Lib.hid (H8.out.below (hbb.alloc hbb.size (.cells #[.int .i64 a1, .int .i64 a2, .bool a3, .int .i64 (f7 j), .int .i64 a5, .slice po pl pc] 30)))
                        have x3 := (Own.fresh wy 30 [.int .i64 a1, .int .i64 a2, .bool a3, .int .i64 (f7 j), .int .i64 a5, .slice po pl pc]).cell 3
                        have x4 := H9.out.ends.cell j
                        rw [endRow_get hjn] at x4
                        clear hen hbb G H8
                        go_wp2_with fail
                        obtain ⟨wv, hwv⟩ : ∃ wv, wy.alloc (.cells #[.int .i64 a1, .int .i64 a2, .bool a3, .int .i64 (f7 j), .int .i64 a5, .slice po pl pc] 30) = wv := ⟨_, rfl⟩
                        rw [hwv] at H9 x4 ⊢
                        change (wy.alloc (.cells #[.int .i64 a1, .int .i64 a2, .bool a3, .int .i64 (f7 j), .int .i64 a5, .slice po pl pc] 30)).cell? ⟨wy.heap.size, 3, none⟩ = some (.int .i64 (f7 j)) at x3
                        rw [hwv] at x3
                        clear hwv
                        go_quiet (fail)
                        go_wp2
                        go_roundw
                        case rel => exact ⟨j + 1, by go_num, by omega, Lib.hid (H9.out.below (below_drewN (Below.refl _ _) _))⟩
                        case measure => simp [intOf]; omega
                      | false =>
                        have G := Lib.hid (kp_get H8.out j hjn false hb)
                        clear hb
                        go_wp2_with fail
                        refine G.out.mono ?_
                        rintro e wy ⟨a1, a2, a3, en, a5, po, pl, pc, rfl, _, hbb⟩
                        have H9 := Lib.hid (H8.out.below (hbb.alloc hbb.size (.cells #[.int .i64 a1, .int .i64 a2, .bool a3, .int .i64 en, .int .i64 a5, .slice po pl pc] 30)))
                        clear hbb G H8
                        go_wp2_with fail
                        generalize wy.alloc (.cells #[.int .i64 a1, .int .i64 a2, .bool a3, .int .i64 en, .int .i64 a5, .slice po pl pc] 30) = wv at *
                        go_quiet (fail)
                        go_wp2
                        go_roundw
                        case rel => exact ⟨j + 1, by go_num, by omega, Lib.hid (H9.out.below (below_drewN (Below.refl _ _) _))⟩
                        case measure => simp [intOf]; omega
                · obtain ⟨_, _, e8, _, _, _⟩ := H8.out.win.form
                  simp only [Value.slice.injEq] at e8
                  have HM8 := Lib.hid e8.2.1
                  clear e8
                  go_wp2_with fail
                  refine (len_any _ _ _ _ _ H8.out.memo).mono ?_
                  rintro e wy ⟨rfl, rfl⟩
                  rw [List.length_map, ← HM8.out]
                  go_wp2
                  go_roundw
                  case rel => exact ⟨k + 1, by go_num, by omega, O7, f7, U7, T7, H8⟩
                  case measure => simp [intOf]; omega
            · have hco : decide (c ∈ O) = false := by simpa using hcO
              rw [hco]
              obtain ⟨i0, hi, hz0, hz1, hz2⟩ := info_parts info_int
              have IP := Lib.hid (And.intro hi (And.intro hz0 (And.intro hz1 hz2)))
              have HO := Lib.hid hcO
              clear hi hz0 hz1 hz2 hcO HW4 HE4
              go_upto_region 19 with fail
              have hsz5 := HP5.out.size
              generalize w4.setCell ⟨ge, c, none⟩ (.int .i64 ((k : Int) + 1)) = w5 at *
              clear hec het
              have HW6 : Hid (Win T 3 1 w5 (.slice oo m oc) m (ordRow O)) := Lib.hid (by have := HW5.out; rw [HM.out] at this; exact this)
              have FN := Lib.hid (fresh_news w5 3 [.int .i64 (c : Int)])
              have K1 : m + 1 ≤ maxLen := by unfold maxLen; omega
              have K2 : (m + 1) * 8 ≤ 140737488355328 := by omega
              go_wp2_with (first
                | (at_builtin; refine wpList_append_win _ rfl _ _ 38 rfl T 3 _ _ 1 8 Try.underlying38 IP.out.1 IP.out.2.1 IP.out.2.2.1 IP.out.2.2.2 rfl (by decide) _ m (ordRow O) rfl (HW6.out.below ((Below.refl _ _).alloc (Nat.le_refl _) _)) ⟨w5.heap.size, 0, none⟩ 1 1 [.int .i64 (c : Int)] rfl rfl FN.out (by intro u hu; simp at hu; subst hu; rfl) K1 K2 ?_))
              intro v6 w6 hw6 hb6
              obtain ⟨g6, off6, cap6, rfl, hg6, hle6, hlt6⟩ := hw6.has (by omega)
              have hs6 := hb6.size
              rw [World.size_alloc] at hs6
              have HW7 := Lib.hid (hw6.mono (T := fun g => (T g ∨ w4.heap.size ≤ g) ∧ g < w6.heap.size) (fun g hl hg => ⟨hg.imp id (fun h => by omega), hl⟩))
              have HB6 := Lib.hid (((HP5.out.mono (T := fun g => g = ge ∨ T g) (fun g _ hg => .inl hg)).alloc (.cells #[.int .i64 (c : Int)] 3)).trans hb6 (fun g _ hg => .inr hg))
              have HE6 := Lib.hid ((HE5.out.on_alloc (.cells #[.int .i64 (c : Int)] 3)).but hb6 H.out.te)
              have hrow : ordRow O ++ [.int .i64 (c : Int)] = ordRow (O ++ [c]) := by simp [ordRow]
              rw [hrow] at HW7
              clear hw6 hb6 hrow FN HW6 HW5 hg6 hlt6 HE5
              by_cases hr : (m : Int) < nn
              · have hcmp : decide (nn < (m : Int) + 1) = false := by simp; omega
                have e0 := ord_room (n := nn) HO.out (by rw [HM.out]; exact hr)
                have HK : Hid (Kp N nn w w6 p ge (k + 1) (.slice (some ⟨g6, off6, none⟩) (m + 1) cap6) (ordL nn O c) (setF f c ((k : Int) + 1)) (Grow U wr w4) (fun g => (T g ∨ w4.heap.size ≤ g) ∧ g < w6.heap.size)) := Lib.hid (kp_step H.out hc256 HB4.out HA4.out
                  HB6.out (by rw [← HF.out]; exact HE6.out) (by rw [e0, List.length_append, HM.out]; exact HW7.out) (fun g hg => hg))
                clear e0 HW7 HE6 HP5 HF HB6
                go_wp2_with fail
                generalize (fun g => (T g ∨ w4.heap.size ≤ g) ∧ g < w6.heap.size) = T7 at *
                generalize (some (⟨g6, off6, none⟩ : Addr)) = o7 at *
                generalize ordL nn O c = O7 at *
                generalize setF f c ((k : Int) + 1) = f7 at *
                generalize Grow U wr w4 = U7 at *
                clear HA4 HB4 H
                go_loopw [13] (fun b13 wr => ∃ j : Nat, b13 = .int .i64 (j : Int) ∧ (j : Int) ≤ 256 ∧ Hid (Kp N nn w wr p ge (k + 1) (.slice o7 (m + 1) cap6) O7 f7 U7 T7)) (fun b13 _ => 256 - (intOf b13).toNat)
                case atStart => exact ⟨0, rfl, by omega, HK⟩
                case round =>
                  obtain ⟨j, rfl, hj2, H8⟩ := hrel
                  clear HK
                  by_cases h5 : (j : Int) < 256
                  · obtain ⟨oo8, oc8, e8, _, _, hc8⟩ := H8.out.win.form
                    simp only [Value.slice.injEq] at e8
                    obtain ⟨e81, e82, e83⟩ := e8
                    subst e81
                    subst e83
                    have HC8 := Lib.hid hc8
                    have HM8 := Lib.hid e82
                    clear hc8
                    clear e82
                    go_wp2_with fail
                    go_loop [14, 15] (fun b14 b15 => ∃ i : Nat, b15 = .int .i64 (i : Int) ∧ (i : Int) ≤ (m + 1) ∧ b14 = .bool (decide (j ∈ O7.take i))) (fun _ b15 => (m + 1) - (intOf b15).toNat)
                    case atStart => exact ⟨0, rfl, by omega, by simp⟩
                    case round =>
                      obtain ⟨i, rfl, hi2, rfl⟩ := hrel
                      by_cases h6 : (i : Int) < (m + 1)
                      · obtain ⟨x, hx⟩ : ∃ x, O7[i]? = some x := ⟨_, List.getElem?_eq_getElem (by have := HM8.out; omega)⟩
                        obtain ⟨g1, off1, rfl, _, _, hcy, _⟩ := HC8.out i (by have := HM8.out; omega)
                        have hcx : wr.cell? ⟨g1, off1 + i, none⟩ = some (.int .i64 (x : Int)) := by rw [hcy]; simp [ordRow, hx]
                        clear hcy
                        have HT := Lib.hid (@take_mem O7 i j x hx)
                        clear HC8 hx
                        cases ht : decide (j ∈ O7.take i) with
                        | true =>
                          go_wp2
                          go_round
                          case rel => exact ⟨i + 1, by go_num, by omega, by rw [HT.out, ht]; rfl⟩
                          case measure => simp [intOf]; omega
                        | false =>
                          by_cases hxc : (x : Int) = j
                          · have hxb : ((x : Int) == (j : Int)) = true := by rw [beq_iff_eq]; exact hxc
                            have HXC := Lib.hid hxc
                            clear hxc
                            go_wp2
                            go_round
                            case rel => exact ⟨i + 1, by go_num, by omega, by rw [HT.out, ht, show decide (x = j) = true by simp; have := HXC.out; omega]; rfl⟩
                            case measure => simp [intOf]; omega
                          · have hxb : ((x : Int) == (j : Int)) = false := by rw [beq_eq_false_iff_ne]; exact hxc
                            have HXC := Lib.hid hxc
                            clear hxc
                            go_wp2
                            go_round
                            case rel => exact ⟨i + 1, by go_num, by omega, by rw [HT.out, ht, show decide (x = j) = false by simp; have := HXC.out; omega]; rfl⟩
                            case measure => simp [intOf]; omega
                      · have him : i = (m + 1) := by omega
                        have htk : O7.take i = O7 := List.take_of_length_le (by have := HM8.out; omega)
                        rw [htk]
                        clear htk him HC8
                        have hjn : j < 256 := by omega
                        cases hb : decide (j ∈ O7) with
                        | true =>
                          have G := Lib.hid (kp_get H8.out j hjn true hb)
                          clear hb
                          go_wp2_with fail
                          refine G.out.mono ?_
                          rintro e wy ⟨a1, a2, a3, en, a5, po, pl, pc, rfl, hen, hbb⟩
                          obtain rfl := hen (by first | trivial | rfl)
                          have H9 := Lib.hid (H8.out.below (hbb.alloc hbb.size (.cells #[.int .i64 a1, .int .i64 a2, .bool a3, .int .i64 (f7 j), .int .i64 a5, .slice po pl pc] 30)))
                          have x3 := (Own.fresh wy 30 [.int .i64 a1, .int .i64 a2, .bool a3, .int .i64 (f7 j), .int .i64 a5, .slice po pl pc]).cell 3
                          have x4 := H9.out.ends.cell j
                          rw [endRow_get hjn] at x4
                          clear hen hbb G H8
                          go_wp2_with fail
                          obtain ⟨wv, hwv⟩ : ∃ wv, wy.alloc (.cells #[.int .i64 a1, .int .i64 a2, .bool a3, .int .i64 (f7 j), .int .i64 a5, .slice po pl pc] 30) = wv := ⟨_, rfl⟩
                          rw [hwv] at H9 x4 ⊢
                          change (wy.alloc (.cells #[.int .i64 a1, .int .i64 a2, .bool a3, .int .i64 (f7 j), .int .i64 a5, .slice po pl pc] 30)).cell? ⟨wy.heap.size, 3, none⟩ = some (.int .i64 (f7 j)) at x3
                          rw [hwv] at x3
                          clear hwv
                          go_quiet (fail)
                          go_wp2
                          go_roundw
                          case rel => exact ⟨j + 1, by go_num, by omega, Lib.hid (H9.out.below (below_drewN (Below.refl _ _) _))⟩
                          case measure => simp [intOf]; omega
                        | false =>
                          have G := Lib.hid (kp_get H8.out j hjn false hb)
                          clear hb
                          go_wp2_with fail
                          refine G.out.mono ?_
                          rintro e wy ⟨a1, a2, a3, en, a5, po, pl, pc, rfl, _, hbb⟩
                          have H9 := Lib.hid (H8.out.below (hbb.alloc hbb.size (.cells #[.int .i64 a1, .int .i64 a2, .bool a3, .int .i64 en, .int .i64 a5, .slice po pl pc] 30)))
                          clear hbb G H8
                          go_wp2_with fail
                          generalize wy.alloc (.cells #[.int .i64 a1, .int .i64 a2, .bool a3, .int .i64 en, .int .i64 a5, .slice po pl pc] 30) = wv at *
                          go_quiet (fail)
                          go_wp2
                          go_roundw
                          case rel => exact ⟨j + 1, by go_num, by omega, Lib.hid (H9.out.below (below_drewN (Below.refl _ _) _))⟩
                          case measure => simp [intOf]; omega
                  · obtain ⟨_, _, e8, _, _, _⟩ := H8.out.win.form
                    simp only [Value.slice.injEq] at e8
                    have HM8 := Lib.hid e8.2.1
                    clear e8
                    go_wp2_with fail
                    refine (len_any _ _ _ _ _ H8.out.memo).mono ?_
                    rintro e wy ⟨rfl, rfl⟩
                    rw [List.length_map, ← HM8.out]
                    go_wp2
                    go_roundw
                    case rel => exact ⟨k + 1, by go_num, by omega, O7, f7, U7, T7, H8⟩
                    case measure => simp [intOf]; omega
              · have hcmp : decide (nn < (m : Int) + 1) = true := by simp; omega
                have e0 := ord_full (n := nn) HO.out (by rw [HM.out]; exact hr)
                by_cases hc1 : cap6 = 1
                · subst hc1
                  obtain ⟨hm0, hwz⟩ := HW7.out.tail_one
                  have HK : Hid (Kp N nn w w6 p ge (k + 1) (.slice (some ⟨g6, off6, none⟩) m 0) (ordL nn O c) (setF f c ((k : Int) + 1)) (Grow U wr w4) (fun g => (T g ∨ w4.heap.size ≤ g) ∧ g < w6.heap.size)) := Lib.hid (kp_step H.out hc256 HB4.out HA4.out
                    HB6.out (by rw [← HF.out]; exact HE6.out) (by rw [e0, List.length_tail, List.length_append, HM.out]; simpa [ordRow] using hwz) (fun g hg => hg))
                  subst hm0
                  clear e0 HW7 HE6 HP5 HF HB6 hwz
                  go_wp2_with fail
                  generalize (fun g => (T g ∨ w4.heap.size ≤ g) ∧ g < w6.heap.size) = T7 at *
                  generalize (some (⟨g6, off6, none⟩ : Addr)) = o7 at *
                  generalize ordL nn O c = O7 at *
                  generalize setF f c ((k : Int) + 1) = f7 at *
                  generalize Grow U wr w4 = U7 at *
                  clear HA4 HB4 H
                  go_loopw [13] (fun b13 wr => ∃ j : Nat, b13 = .int .i64 (j : Int) ∧ (j : Int) ≤ 256 ∧ Hid (Kp N nn w wr p ge (k + 1) (.slice o7 0 0) O7 f7 U7 T7)) (fun b13 _ => 256 - (intOf b13).toNat)
                  case atStart => exact ⟨0, rfl, by omega, HK⟩
                  case round =>
                    obtain ⟨j, rfl, hj2, H8⟩ := hrel
                    clear HK
                    by_cases h5 : (j : Int) < 256
                    · obtain ⟨oo8, oc8, e8, _, _, hc8⟩ := H8.out.win.form
                      simp only [Value.slice.injEq] at e8
                      obtain ⟨e81, e82, e83⟩ := e8
                      subst e81
                      subst e83
                      have HC8 := Lib.hid hc8
                      have HM8 := Lib.hid e82
                      clear hc8
                      clear e82
                      go_wp2_with fail
                      go_loop [14, 15] (fun b14 b15 => ∃ i : Nat, b15 = .int .i64 (i : Int) ∧ (i : Int) ≤ 0 ∧ b14 = .bool (decide (j ∈ O7.take i))) (fun _ b15 => 0 - (intOf b15).toNat)
                      case atStart => exact ⟨0, rfl, by omega, by simp⟩
                      case round =>
                        obtain ⟨i, rfl, hi2, rfl⟩ := hrel
                        by_cases h6 : (i : Int) < 0
                        · obtain ⟨x, hx⟩ : ∃ x, O7[i]? = some x := ⟨_, List.getElem?_eq_getElem (by have := HM8.out; omega)⟩
                          obtain ⟨g1, off1, rfl, _, _, hcy, _⟩ := HC8.out i (by have := HM8.out; omega)
                          have hcx : wr.cell? ⟨g1, off1 + i, none⟩ = some (.int .i64 (x : Int)) := by rw [hcy]; simp [ordRow, hx]
                          clear hcy
                          have HT := Lib.hid (@take_mem O7 i j x hx)
                          clear HC8 hx
                          cases ht : decide (j ∈ O7.take i) with
                          | true =>
                            go_wp2
                            go_round
                            case rel => exact ⟨i + 1, by go_num, by omega, by rw [HT.out, ht]; rfl⟩
                            case measure => simp [intOf]; omega
                          | false =>
                            by_cases hxc : (x : Int) = j
                            · have hxb : ((x : Int) == (j : Int)) = true := by rw [beq_iff_eq]; exact hxc
                              have HXC := Lib.hid hxc
                              clear hxc
                              go_wp2
                              go_round
                              case rel => exact ⟨i + 1, by go_num, by omega, by rw [HT.out, ht, show decide (x = j) = true by simp; have := HXC.out; omega]; rfl⟩
                              case measure => simp [intOf]; omega
                            · have hxb : ((x : Int) == (j : Int)) = false := by rw [beq_eq_false_iff_ne]; exact hxc
                              have HXC := Lib.hid hxc
                              clear hxc
                              go_wp2
                              go_round
                              case rel => exact ⟨i + 1, by go_num, by omega, by rw [HT.out, ht, show decide (x = j) = false by simp; have := HXC.out; omega]; rfl⟩
                              case measure => simp [intOf]; omega
                        · have him : i = 0 := by omega
                          have htk : O7.take i = O7 := List.take_of_length_le (by have := HM8.out; omega)
                          rw [htk]
                          clear htk him HC8
                          have hjn : j < 256 := by omega
                          cases hb : decide (j ∈ O7) with
                          | true =>
                            have G := Lib.hid (kp_get H8.out j hjn true hb)
                            clear hb
                            go_wp2_with fail
                            refine G.out.mono ?_
                            rintro e wy ⟨a1, a2, a3, en, a5, po, pl, pc, rfl, hen, hbb⟩
                            obtain rfl := hen (by first | trivial | rfl)
                            have H9 := Lib.hid (H8.out.below (hbb.alloc hbb.size (.cells #[.int .i64 a1, .int .i64 a2, .bool a3, .int .i64 (f7 j), .int .i64 a5, .slice po pl pc] 30)))
                            have x3 := (Own.fresh wy 30 [.int .i64 a1, .int .i64 a2, .bool a3, .int .i64 (f7 j), .int .i64 a5, .slice po pl pc]).cell 3
                            have x4 := H9.out.ends.cell j
                            rw [endRow_get hjn] at x4
                            clear hen hbb G H8
                            go_wp2_with fail
                            obtain ⟨wv, hwv⟩ : ∃ wv, wy.alloc (.cells #[.int .i64 a1, .int .i64 a2, .bool a3, .int .i64 (f7 j), .int .i64 a5, .slice po pl pc] 30) = wv := ⟨_, rfl⟩
                            rw [hwv] at H9 x4 ⊢
                            change (wy.alloc (.cells #[.int .i64 a1, .int .i64 a2, .bool a3, .int .i64 (f7 j), .int .i64 a5, .slice po pl pc] 30)).cell? ⟨wy.heap.size, 3, none⟩ = some (.int .i64 (f7 j)) at x3
                            rw [hwv] at x3
                            clear hwv
                            go_quiet (fail)
                            go_wp2
                            go_roundw
                            case rel => exact ⟨j + 1, by go_num, by omega, Lib.hid (H9.out.below (below_drewN (Below.refl _ _) _))⟩
                            case measure => simp [intOf]; omega
                          | false =>
                            have G := Lib.hid (kp_get H8.out j hjn false hb)
                            clear hb
                            go_wp2_with fail
                            refine G.out.mono ?_
                            rintro e wy ⟨a1, a2, a3, en, a5, po, pl, pc, rfl, _, hbb⟩
                            have H9 := Lib.hid (H8.out.below (hbb.alloc hbb.size (.cells #[.int .i64 a1, .int .i64 a2, .bool a3, .int .i64 en, .int .i64 a5, .slice po pl pc] 30)))
                            clear hbb G H8
                            go_wp2_with fail
                            generalize wy.alloc (.cells #[.int .i64 a1, .int .i64 a2, .bool a3, .int .i64 en, .int .i64 a5, .slice po pl pc] 30) = wv at *
                            go_quiet (fail)
                            go_wp2
                            go_roundw
                            case rel => exact ⟨j + 1, by go_num, by omega, Lib.hid (H9.out.below (below_drewN (Below.refl _ _) _))⟩
                            case measure => simp [intOf]; omega
                    · obtain ⟨_, _, e8, _, _, _⟩ := H8.out.win.form
                      simp only [Value.slice.injEq] at e8
                      have HM8 := Lib.hid e8.2.1
                      clear e8
                      go_wp2_with fail
                      refine (len_any _ _ _ _ _ H8.out.memo).mono ?_
                      rintro e wy ⟨rfl, rfl⟩
                      rw [List.length_map, ← HM8.out]
                      go_wp2
                      go_roundw
                      case rel => exact ⟨k + 1, by go_num, by omega, O7, f7, U7, T7, H8⟩
                      case measure => simp [intOf]; omega
                · have hwz := HW7.out.tail hc1
                  have HK : Hid (Kp N nn w w6 p ge (k + 1) (.slice (some ⟨g6, off6 + 1, none⟩) m (cap6 - 1)) (ordL nn O c) (setF f c ((k : Int) + 1)) (Grow U wr w4) (fun g => (T g ∨ w4.heap.size ≤ g) ∧ g < w6.heap.size)) := Lib.hid (kp_step H.out hc256 HB4.out HA4.out
                    HB6.out (by rw [← HF.out]; exact HE6.out) (by rw [e0, List.length_tail, List.length_append, HM.out]; simpa [ordRow] using hwz) (fun g hg => hg))
                  clear e0 HW7 HE6 HP5 HF HB6 hwz
                  go_wp2_with fail
                  generalize (fun g => (T g ∨ w4.heap.size ≤ g) ∧ g < w6.heap.size) = T7 at *
                  generalize (some (⟨g6, off6 + 1, none⟩ : Addr)) = o7 at *
                  generalize ordL nn O c = O7 at *
                  generalize setF f c ((k : Int) + 1) = f7 at *
                  generalize Grow U wr w4 = U7 at *
                  clear HA4 HB4 H
                  go_loopw [13] (fun b13 wr => ∃ j : Nat, b13 = .int .i64 (j : Int) ∧ (j : Int) ≤ 256 ∧ Hid (Kp N nn w wr p ge (k + 1) (.slice o7 m (cap6 - 1)) O7 f7 U7 T7)) (fun b13 _ => 256 - (intOf b13).toNat)
                  case atStart => exact ⟨0, rfl, by omega, HK⟩
                  case round =>
                    obtain ⟨j, rfl, hj2, H8⟩ := hrel
                    clear HK
                    by_cases h5 : (j : Int) < 256
                    · obtain ⟨oo8, oc8, e8, _, _, hc8⟩ := H8.out.win.form
                      simp only [Value.slice.injEq] at e8
                      obtain ⟨e81, e82, e83⟩ := e8
                      subst e81
                      subst e83
                      have HC8 := Lib.hid hc8
                      have HM8 := Lib.hid e82
                      clear hc8
                      clear e82
                      go_wp2_with fail
                      go_loop [14, 15] (fun b14 b15 => ∃ i : Nat, b15 = .int .i64 (i : Int) ∧ (i : Int) ≤ m ∧ b14 = .bool (decide (j ∈ O7.take i))) (fun _ b15 => m - (intOf b15).toNat)
                      case atStart => exact ⟨0, rfl, by omega, by simp⟩
                      case round =>
                        obtain ⟨i, rfl, hi2, rfl⟩ := hrel
                        by_cases h6 : (i : Int) < m
                        · obtain ⟨x, hx⟩ : ∃ x, O7[i]? = some x := ⟨_, List.getElem?_eq_getElem (by have := HM8.out; omega)⟩
                          obtain ⟨g1, off1, rfl, _, _, hcy, _⟩ := HC8.out i (by have := HM8.out; omega)
                          have hcx : wr.cell? ⟨g1, off1 + i, none⟩ = some (.int .i64 (x : Int)) := by rw [hcy]; simp [ordRow, hx]
                          clear hcy
                          have HT := Lib.hid (@take_mem O7 i j x hx)
                          clear HC8 hx
                          cases ht : decide (j ∈ O7.take i) with
                          | true =>
                            go_wp2
                            go_round
                            case rel => exact ⟨i + 1, by go_num, by omega, by rw [HT.out, ht]; rfl⟩
                            case measure => simp [intOf]; omega
                          | false =>
                            by_cases hxc : (x : Int) = j
                            · have hxb : ((x : Int) == (j : Int)) = true := by rw [beq_iff_eq]; exact hxc
                              have HXC := Lib.hid hxc
                              clear hxc
                              go_wp2
                              go_round
                              case rel => exact ⟨i + 1, by go_num, by omega, by rw [HT.out, ht, show decide (x = j) = true by simp; have := HXC.out; omega]; rfl⟩
                              case measure => simp [intOf]; omega
                            · have hxb : ((x : Int) == (j : Int)) = false := by rw [beq_eq_false_iff_ne]; exact hxc
                              have HXC := Lib.hid hxc
                              clear hxc
                              go_wp2
                              go_round
                              case rel => exact ⟨i + 1, by go_num, by omega, by rw [HT.out, ht, show decide (x = j) = false by simp; have := HXC.out; omega]; rfl⟩
                              case measure => simp [intOf]; omega
                        · have him : i = m := by omega
                          have htk : O7.take i = O7 := List.take_of_length_le (by have := HM8.out; omega)
                          rw [htk]
                          clear htk him HC8
                          have hjn : j < 256 := by omega
                          cases hb : decide (j ∈ O7) with
                          | true =>
                            have G := Lib.hid (kp_get H8.out j hjn true hb)
                            clear hb
                            go_wp2_with fail
                            refine G.out.mono ?_
                            rintro e wy ⟨a1, a2, a3, en, a5, po, pl, pc, rfl, hen, hbb⟩
                            obtain rfl := hen (by first | trivial | rfl)
                            have H9 := Lib.hid (H8.out.below (hbb.alloc hbb.size (.cells #[.int .i64 a1, .int .i64 a2, .bool a3, .int .i64 (f7 j), .int .i64 a5, .slice po pl pc] 30)))
                            have x3 := (Own.fresh wy 30 [.int .i64 a1, .int .i64 a2, .bool a3, .int .i64 (f7 j), .int .i64 a5, .slice po pl pc]).cell 3
                            have x4 := H9.out.ends.cell j
                            rw [endRow_get hjn] at x4
                            clear hen hbb G H8
                            go_wp2_with fail
                            obtain ⟨wv, hwv⟩ : ∃ wv, wy.alloc (.cells #[.int .i64 a1, .int .i64 a2, .bool a3, .int .i64 (f7 j), .int .i64 a5, .slice po pl pc] 30) = wv := ⟨_, rfl⟩
                            rw [hwv] at H9 x4 ⊢
                            change (wy.alloc (.cells #[.int .i64 a1, .int .i64 a2, .bool a3, .int .i64 (f7 j), .int .i64 a5, .slice po pl pc] 30)).cell? ⟨wy.heap.size, 3, none⟩ = some (.int .i64 (f7 j)) at x3
                            rw [hwv] at x3
                            clear hwv
                            go_quiet (fail)
                            go_wp2
                            go_roundw
                            case rel => exact ⟨j + 1, by go_num, by omega, Lib.hid (H9.out.below (below_drewN (Below.refl _ _) _))⟩
                            case measure => simp [intOf]; omega
                          | false =>
                            have G := Lib.hid (kp_get H8.out j hjn false hb)
                            clear hb
                            go_wp2_with fail
                            refine G.out.mono ?_
                            rintro e wy ⟨a1, a2, a3, en, a5, po, pl, pc, rfl, _, hbb⟩
                            have H9 := Lib.hid (H8.out.below (hbb.alloc hbb.size (.cells #[.int .i64 a1, .int .i64 a2, .bool a3, .int .i64 en, .int .i64 a5, .slice po pl pc] 30)))
                            clear hbb G H8
                            go_wp2_with fail
                            generalize wy.alloc (.cells #[.int .i64 a1, .int .i64 a2, .bool a3, .int .i64 en, .int .i64 a5, .slice po pl pc] 30) = wv at *
                            go_quiet (fail)
                            go_wp2
                            go_roundw
                            case rel => exact ⟨j + 1, by go_num, by omega, Lib.hid (H9.out.below (below_drewN (Below.refl _ _) _))⟩
                            case measure => simp [intOf]; omega
                    · obtain ⟨_, _, e8, _, _, _⟩ := H8.out.win.form
                      simp only [Value.slice.injEq] at e8
                      have HM8 := Lib.hid e8.2.1
                      clear e8
                      go_wp2_with fail
                      refine (len_any _ _ _ _ _ H8.out.memo).mono ?_
                      rintro e wy ⟨rfl, rfl⟩
                      rw [List.length_map, ← HM8.out]
                      go_wp2
                      go_roundw
                      case rel => exact ⟨k + 1, by go_num, by omega, O7, f7, U7, T7, H8⟩
                      case measure => simp [intOf]; omega
      · go_wp2_with fail
        refine (awake_any _).mono ?_
        rintro e w4 ⟨rfl, hb⟩
        go_wp2_with fail
        go_ret
        exact ⟨rfl, H.out.bel.trans (hb.mono H.out.sz)⟩
  · go_enter Try.func4, Try.ntmps4
    go_wp2_with fail
    refine (awake_any _).mono ?_
    rintro e w1 ⟨rfl, hb⟩
    go_wp2_with fail
    go_ret
    exact ⟨rfl, hb.mono hN⟩
end Go.Proofs.Ytgpglmponbipbab
