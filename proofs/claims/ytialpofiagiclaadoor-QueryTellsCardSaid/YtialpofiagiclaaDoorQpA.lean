/- The program's query parser in memory: a sign, a fault, an axis. -/
import Derived.Test.YtialpofiagiclaaDoorQz
import Derived.Test.YtialpofiagiclaaDoorShelf
namespace Go.Proofs.YtialpofiagiclaaDoor
set_option linter.unusedVariables false
set_option maxRecDepth 1000000
open Go.RowKit Go.Sort

/-- A fault's number, its place. -/
abbrev Ff := Option (Int × Nat)
def feF : Ff → Int
  | none => 0
  | some f => f.1
def faF : Ff → Int
  | none => 0
  | some f => (f.2 : Int)
/-- The parser at g. -/
def Pq (w : World) (g : Nat) (s : ByteArray) (k : Nat) (F : Ff) : Prop := Own w g 42 [.string s, .int .i64 (k : Int), .int .i64 (feF F), .int .i64 (faF F), .int .i64 0, .int .i64 0]
theorem Pq.at_ {w : World} {g k : Nat} {s : ByteArray} {F : Ff} (h : Pq w g s k F) : w.cell? ⟨g, 0, none⟩ = some (.string s) ∧ w.cell? ⟨g, 1, none⟩ = some (.int .i64 (k : Int)) ∧ g < w.heap.size ∧
    w.frozen? ⟨g, 1, none⟩ = false ∧ w.frozen? ⟨g, 2, none⟩ = false ∧ w.frozen? ⟨g, 3, none⟩ = false ∧ w.frozen? ⟨g, 4, none⟩ = false ∧ w.frozen? ⟨g, 5, none⟩ = false := ⟨h.cell 0, h.cell 1, h.lt, h.thaw 1, h.thaw 2, h.thaw 3, h.thaw 4, h.thaw 5⟩
theorem Pq.go {w : World} {g k : Nat} {s : ByteArray} {F : Ff} (h : Pq w g s k F) (m : Nat) : Pq (w.setCell ⟨g, 1, none⟩ (.int .i64 (m : Int))) g s m F := h.put 1 _
/-- The step at h. -/
def Hq (w : World) (h : Nat) (x : Hp) : Prop := Own w h 38 (hprow x)
set_option maxRecDepth 100000 in
set_option maxHeartbeats 1600000 in
theorem ptake_any (s x : ByteArray) (hs : s.size ≤ 1000000) (hx : x.size ≤ 100) (g k : Nat) (hk : k ≤ s.size) (F : Ff) (w : World) (hc : Pq w g s k F) :
    Calls Tryd.prog 16 #[.pointer (some ⟨g, 0, none⟩), .string x] w fun e w' => e = .returned (.bool (tk s k x.data.toList)) ∧ Pq w' g s (tkN s k x.data.toList) F ∧ But (fun j => j = g) w w' := by
  have HPX := Lib.hid (fun (W : World) => show Calls Tryd.prog 30 #[.string (s.extract k s.size), .string x] W (fun e w' => e = .returned (.bool (tk s k x.data.toList)) ∧ w' = W) from by
    have q := Tryd.strings_HasPrefix (s.extract k s.size) x W
    have e : Lib.hasPrefix (s.extract k s.size).data.toList x.data.toList = tk s k x.data.toList := by
      have e1 : (s.extract k s.size).data.toList = s.data.toList.drop k := by
        rw [ByteArray.data_extract, Array.toList_extract]
        simp [List.take_of_length_le]
      rw [e1]
      rfl
    rw [e] at q
    exact q)
  have HN := Lib.hid (show tkN s k x.data.toList = if tk s k x.data.toList = true then k + x.size else k by unfold tkN; simp)
  have HSZ := Lib.hid (show tk s k x.data.toList = true → k + x.size ≤ s.size from fun h => by have := tk_size h hk; simpa using this)
  have HC := Lib.hid hc
  obtain ⟨c0, c1, hg, f1, f2, f3, f4, f5⟩ := hc.at_
  clear hc
  generalize tk s k x.data.toList = t at *
  generalize tkN s k x.data.toList = m at *
  cases t with
  | true =>
    have hz := HSZ.out rfl
    have hw : IntKind.i64.wrap ((k : Int) + x.size) = (k : Int) + x.size := by rw [IntKind.wrap_i64]; omega
    have HE := Lib.hid (show m = k + x.size by rw [HN.out, if_pos rfl])
    clear HN HSZ
    go_enter Tryd.func16, Tryd.ntmps16
    go_wp2_with fail
    go_quiet (first | (go_at_call 30; with_reducible exact Calls.quiet_of_same (HPX.out _)))
    go_wp2
    go_ret
    refine ⟨rfl, ?_, ((But.refl (fun j => j = g) w).drewN nq).setCell (p := ⟨g, 1, none⟩) (fun _ => rfl) _⟩
    rw [show ((k : Int) + x.size) = (m : Int) by rw [HE.out]; omega]
    exact Pq.go (w := w.drewN nq) HC.out m
  | false =>
    have e : m = k := by rw [HN.out, if_neg (by decide)]
    subst e
    clear HN HSZ
    go_enter Tryd.func16, Tryd.ntmps16
    go_wp2_with fail
    go_quiet (first | (go_at_call 30; with_reducible exact Calls.quiet_of_same (HPX.out _)))
    go_wp2
    go_ret
    exact ⟨rfl, HC.out.on_drewN _, (But.refl _ w).drewN nq⟩
def setF (w : World) (g : Nat) (e a : Int) : World := (((w.setCell ⟨g, 2, none⟩ (.int .i64 e)).setCell ⟨g, 3, none⟩ (.int .i64 a)).setCell ⟨g, 4, none⟩ (.int .i64 0)).setCell ⟨g, 5, none⟩ (.int .i64 0)
theorem setF_fold (w : World) (g : Nat) (e a : Int) : (((w.setCell ⟨g, 2, none⟩ (.int .i64 e)).setCell ⟨g, 3, none⟩ (.int .i64 a)).setCell ⟨g, 4, none⟩ (.int .i64 0)).setCell ⟨g, 5, none⟩ (.int .i64 0) = setF w g e a := rfl
theorem Pq.stop {w : World} {g k : Nat} {s : ByteArray} {F : Ff} (h : Pq w g s k F) (e : Int) (m : Nat) : Pq (setF w g e (m : Int)) g s k (some (e, m)) ∧ But (fun j => j = g) w (setF w g e (m : Int)) :=
  ⟨((((Own.put h 2 (.int .i64 e)).put 3 (.int .i64 (m : Int))).put 4 (.int .i64 0)).put 5 (.int .i64 0)),
   ((((But.refl (fun j => j = g) w).setCell (p := ⟨g, 2, none⟩) (fun _ => rfl) _).setCell (p := ⟨g, 3, none⟩) (fun _ => rfl) _).setCell (p := ⟨g, 4, none⟩) (fun _ => rfl) _).setCell (p := ⟨g, 5, none⟩) (fun _ => rfl) _⟩
@[go_sem 2000] theorem fbuildq (k n : Int) (w : World) : (Instr.build 29 #[(0, .int .i64 k), (1, .int .i64 n)]).run Tryd.prog w = .ok (.agg #[.int .i64 k, .int .i64 n, .int .i64 0, .int .i64 0]) w := run_build w _ _ _ (by kernel_rfl)
set_option maxRecDepth 100000 in
set_option maxHeartbeats 1600000 in
theorem qstop_any (s : ByteArray) (e : Int) (g k : Nat) (F : Ff) (w : World) (hc : Pq w g s k F) :
    Calls Tryd.prog 31 #[.pointer (some ⟨g, 0, none⟩), .int .i64 e] w fun r w' => r = .returned (.bool false) ∧ Pq w' g s k (some (e, k)) ∧ But (fun j => j = g) w w' := by
  have HC := Lib.hid hc
  obtain ⟨c0, c1, hg, f1, f2, f3, f4, f5⟩ := hc.at_
  have c2 : w.cell? ⟨g, 2, none⟩ = some (.int .i64 (feF F)) := hc.cell 2
  have c3 : w.cell? ⟨g, 3, none⟩ = some (.int .i64 (faF F)) := hc.cell 3
  have c4 : w.cell? ⟨g, 4, none⟩ = some (.int .i64 0) := hc.cell 4
  have c5 : w.cell? ⟨g, 5, none⟩ = some (.int .i64 0) := hc.cell 5
  clear hc
  go_enter Tryd.func31, Tryd.ntmps31
  go_wp2
  rw [setF_fold]
  have HS := Lib.hid (HC.out.stop e k)
  go_ret
  exact ⟨rfl, HS.out.1, HS.out.2⟩

/-- The step's axis is set. -/
theorem Hq.ax {w : World} {h : Nat} {x : Hp} (hh : Hq w h x) (a : Int) : Hq (w.setCell ⟨h, 0, none⟩ (.int .i64 a)) h { x with ax := a } := hh.put 0 _
theorem Pq.but {w w' : World} {g k : Nat} {s : ByteArray} {F : Ff} {S : Nat → Prop} (h : Pq w g s k F) (hb : But S w w') (hg : ¬ S g) : Pq w' g s k F := Own.but h hb hg
theorem Hq.but {w w' : World} {h : Nat} {x : Hp} {S : Nat → Prop} (hh : Hq w h x) (hb : But S w w') (hg : ¬ S h) : Hq w' h x := Own.but hh hb hg
/-- Where an axis leaves the parser and the step. -/
def AxQ (w : World) (g h : Nat) (s : ByteArray) (k : Nat) (x : Hp) (AX : Int × Nat) (e : Ending) (w' : World) : Prop :=
  (if AX.1 = 0 then e = .returned (.bool false) ∧ Pq w' g s k (some (2, k)) ∧ Hq w' h x else e = .returned (.bool true) ∧ Pq w' g s AX.2 none ∧ Hq w' h { x with ax := AX.1 }) ∧ But (fun j => j = g ∨ j = h) w w'
set_option maxRecDepth 100000 in
set_option maxHeartbeats 3200000 in
theorem paxis_any (s : ByteArray) (hs : s.size ≤ 1000000) (g h k : Nat) (hgh : g ≠ h) (hk : k ≤ s.size) (x : Hp) (w : World) (hc : Pq w g s k none) (hx : Hq w h x) :
    Calls Tryd.prog 32 #[.pointer (some ⟨g, 0, none⟩), .pointer (some ⟨h, 0, none⟩)] w (AxQ w g h s k x (axR s k)) := by
  have HGH := Lib.hid hgh
  have HC0 := Lib.hid hc
  have HX0 := Lib.hid hx
  have HT1 := Lib.hid (fun W (hc : Pq W g s k none) => ptake_any s ⟨#[47, 47]⟩ hs (by decide) g k hk none W hc)
  have HT2 := Lib.hid (fun W (hc : Pq W g s k none) => ptake_any s ⟨#[47]⟩ hs (by decide) g k hk none W hc)
  have HT3 := Lib.hid (fun W (hc : Pq W g s k none) => ptake_any s ⟨#[94]⟩ hs (by decide) g k hk none W hc)
  have HT4 := Lib.hid (fun W (hc : Pq W g s k none) => ptake_any s ⟨#[43]⟩ hs (by decide) g k hk none W hc)
  have HAX := Lib.hid (show axR s k = if tk s k [47, 47] = true then (2, k + 2) else if tk s k [47] = true then (1, k + 1) else if tk s k [94] = true then (3, k + 1) else if tk s k [43] = true then (4, k + 1) else (0, k) from rfl)
  generalize axR s k = AX at *
  unfold tkN at HT1 HT2 HT3 HT4
  have l1 : (⟨#[47, 47]⟩ : ByteArray).data.toList = [47, 47] := rfl
  have l2 : (⟨#[47]⟩ : ByteArray).data.toList = [47] := rfl
  have l3 : (⟨#[94]⟩ : ByteArray).data.toList = [94] := rfl
  have l4 : (⟨#[43]⟩ : ByteArray).data.toList = [43] := rfl
  rw [l1] at HT1
  rw [l2] at HT2
  rw [l3] at HT3
  rw [l4] at HT4
  clear l1 l2 l3 l4 hc hx
  generalize tk s k [47, 47] = t1 at *
  generalize tk s k [47] = t2 at *
  generalize tk s k [94] = t3 at *
  generalize tk s k [43] = t4 at *
  go_enter Tryd.func32, Tryd.ntmps32
  go_wp2_with fail
  refine (HT1.out w HC0.out).mono ?_
  rintro e w1 ⟨rfl, hp, hb⟩
  have HX1 := Lib.hid (HX0.out.but hb (fun e => HGH.out e.symm))
  have HB1 := Lib.hid hb
  cases t1 with
  | true =>
    have hp : Pq w1 g s (k + 2) none := hp
    have HE := Lib.hid (show AX = (2, k + 2) from by rw [HAX.out]; simp)
    have xl := HX1.out.lt
    have x0 : w1.cell? ⟨h, 0, none⟩ = some (.int .i64 x.ax) := HX1.out.cell 0
    have xf : w1.frozen? ⟨h, 0, none⟩ = false := HX1.out.thaw 0
    have HP := Lib.hid hp
    clear hp hb
    go_wp2
    go_ret
    have he := HE.out
    subst he
    unfold AxQ
    refine ⟨?_, (HB1.out.mono (fun j _ e => .inl e)).trans (But.put w1 h 0 _) (fun j _ e => .inr e)⟩
    rw [if_neg (show ¬ ((2 : Int) = 0) by decide)]
    exact ⟨rfl, HP.out.but (But.put w1 h 0 _) (fun e => HGH.out e), HX1.out.ax _⟩
  | false =>
    have HC1 := Lib.hid (show Pq w1 g s k none from hp)
    clear hp hb
    go_wp2_with fail
    refine (HT2.out w1 HC1.out).mono ?_
    rintro e w2 ⟨rfl, hp, hb⟩
    have HX2 := Lib.hid (HX1.out.but hb (fun e => HGH.out e.symm))
    have HB2 := Lib.hid (HB1.out.trans hb (fun _ _ e => e))
    cases t2 with
    | true =>
      have hp : Pq w2 g s (k + 1) none := hp
      have HE := Lib.hid (show AX = (1, k + 1) from by rw [HAX.out]; simp)
      have xl := HX2.out.lt
      have x0 : w2.cell? ⟨h, 0, none⟩ = some (.int .i64 x.ax) := HX2.out.cell 0
      have xf : w2.frozen? ⟨h, 0, none⟩ = false := HX2.out.thaw 0
      have HP := Lib.hid hp
      clear hp hb
      go_wp2
      go_ret
      have he := HE.out
      subst he
      unfold AxQ
      refine ⟨?_, (HB2.out.mono (fun j _ e => .inl e)).trans (But.put w2 h 0 _) (fun j _ e => .inr e)⟩
      rw [if_neg (show ¬ ((1 : Int) = 0) by decide)]
      exact ⟨rfl, HP.out.but (But.put w2 h 0 _) (fun e => HGH.out e), HX2.out.ax _⟩
    | false =>
      have HC2 := Lib.hid (show Pq w2 g s k none from hp)
      clear hp hb
      go_wp2_with fail
      refine (HT3.out w2 HC2.out).mono ?_
      rintro e w3 ⟨rfl, hp, hb⟩
      have HX3 := Lib.hid (HX2.out.but hb (fun e => HGH.out e.symm))
      have HB3 := Lib.hid (HB2.out.trans hb (fun _ _ e => e))
      cases t3 with
      | true =>
        have hp : Pq w3 g s (k + 1) none := hp
        have HE := Lib.hid (show AX = (3, k + 1) from by rw [HAX.out]; simp)
        have xl := HX3.out.lt
        have x0 : w3.cell? ⟨h, 0, none⟩ = some (.int .i64 x.ax) := HX3.out.cell 0
        have xf : w3.frozen? ⟨h, 0, none⟩ = false := HX3.out.thaw 0
        have HP := Lib.hid hp
        clear hp hb
        go_wp2
        go_ret
        have he := HE.out
        subst he
        unfold AxQ
        refine ⟨?_, (HB3.out.mono (fun j _ e => .inl e)).trans (But.put w3 h 0 _) (fun j _ e => .inr e)⟩
        rw [if_neg (show ¬ ((3 : Int) = 0) by decide)]
        exact ⟨rfl, HP.out.but (But.put w3 h 0 _) (fun e => HGH.out e), HX3.out.ax _⟩
      | false =>
        have HC3 := Lib.hid (show Pq w3 g s k none from hp)
        clear hp hb
        go_wp2_with fail
        refine (HT4.out w3 HC3.out).mono ?_
        rintro e w4 ⟨rfl, hp, hb⟩
        have HX4 := Lib.hid (HX3.out.but hb (fun e => HGH.out e.symm))
        have HB4 := Lib.hid (HB3.out.trans hb (fun _ _ e => e))
        cases t4 with
        | true =>
          have hp : Pq w4 g s (k + 1) none := hp
          have HE := Lib.hid (show AX = (4, k + 1) from by rw [HAX.out]; simp)
          have xl := HX4.out.lt
          have x0 : w4.cell? ⟨h, 0, none⟩ = some (.int .i64 x.ax) := HX4.out.cell 0
          have xf : w4.frozen? ⟨h, 0, none⟩ = false := HX4.out.thaw 0
          have HP := Lib.hid hp
          clear hp hb
          go_wp2
          go_ret
          have he := HE.out
          subst he
          unfold AxQ
          refine ⟨?_, (HB4.out.mono (fun j _ e => .inl e)).trans (But.put w4 h 0 _) (fun j _ e => .inr e)⟩
          rw [if_neg (show ¬ ((4 : Int) = 0) by decide)]
          exact ⟨rfl, HP.out.but (But.put w4 h 0 _) (fun e => HGH.out e), HX4.out.ax _⟩
        | false =>
          have HC4 := Lib.hid (show Pq w4 g s k none from hp)
          clear hp hb
          have HE := Lib.hid (show AX = (0, k) from by rw [HAX.out]; simp)
          go_wp2_with fail
          refine (qstop_any s 2 g k none w4 HC4.out).mono ?_
          rintro e w5 ⟨rfl, hp, hb⟩
          have HX5 := Lib.hid (HX4.out.but hb (fun e => HGH.out e.symm))
          have HP := Lib.hid hp
          have HB5 := Lib.hid (HB4.out.trans hb (fun _ _ e => e))
          clear hp hb
          go_wp2
          go_ret
          have he := HE.out
          subst he
          unfold AxQ
          refine ⟨?_, HB5.out.mono (fun j _ e => .inl e)⟩
          rw [if_pos rfl]
          exact ⟨rfl, HP.out, HX5.out⟩
end Go.Proofs.YtialpofiagiclaaDoor
