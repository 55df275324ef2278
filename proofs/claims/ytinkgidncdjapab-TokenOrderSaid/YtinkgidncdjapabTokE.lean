/- A token: what it is; the walk of the program's read. -/
import Derived.Test.YtinkgidncdjapabTokD
import Derived.Test.YtinkgidncdjapabQuoteZ
import Derived.Laws.Tables
namespace Go.Proofs.Ytinkgidncdjapab
set_option linter.unusedVariables false
open Go.RowKit

theorem Own.seven {w : World} {g : Nat} {t : TypeId} {v0 v1 v2 v3 v4 v5 v6 : Value} (h : Own w g t [v0, v1, v2, v3, v4, v5, v6]) :
    w.cell? ⟨g, 0, none⟩ = some v0 ∧ w.cell? ⟨g, 1, none⟩ = some v1 ∧ w.cell? ⟨g, 2, none⟩ = some v2 ∧ w.cell? ⟨g, 3, none⟩ = some v3 ∧ w.cell? ⟨g, 4, none⟩ = some v4 ∧ w.cell? ⟨g, 5, none⟩ = some v5 ∧ w.cell? ⟨g, 6, none⟩ = some v6 :=
  ⟨h.cell 0, h.cell 1, h.cell 2, h.cell 3, h.cell 4, h.cell 5, h.cell 6⟩
theorem Own.seven2 {w : World} {g : Nat} {t : TypeId} {v0 v1 v2 v3 v4 v5 v6 : Value} (h : Own w g t [v0, v1, v2, v3, v4, v5, v6]) :
    w.cell? ⟨g, 0, none⟩ = some v0 ∧ w.cell? ⟨g, 1, none⟩ = some v1 ∧ w.cell? ⟨g, 2, none⟩ = some v2 ∧ w.cell? ⟨g, 3, none⟩ = some v3 ∧ w.cell? ⟨g, 4, none⟩ = some v4 ∧ w.cell? ⟨g, 5, none⟩ = some v5 ∧ w.cell? ⟨g, 6, none⟩ = some v6 ∧
    w.frozen? ⟨g, 0, none⟩ = false ∧ w.frozen? ⟨g, 1, none⟩ = false ∧ w.frozen? ⟨g, 2, none⟩ = false ∧ w.frozen? ⟨g, 3, none⟩ = false ∧ w.frozen? ⟨g, 4, none⟩ = false ∧ w.frozen? ⟨g, 5, none⟩ = false ∧ w.frozen? ⟨g, 6, none⟩ = false :=
  ⟨h.cell 0, h.cell 1, h.cell 2, h.cell 3, h.cell 4, h.cell 5, h.cell 6, h.thaw 0, h.thaw 1, h.thaw 2, h.thaw 3, h.thaw 4, h.thaw 5, h.thaw 6⟩
def set7t (w : World) (g : Nat) (u0 u1 u2 u3 u4 u5 u6 : Value) : World := ((((((w.setCell ⟨g, 0, none⟩ u0).setCell ⟨g, 1, none⟩ u1).setCell ⟨g, 2, none⟩ u2).setCell ⟨g, 3, none⟩ u3).setCell ⟨g, 4, none⟩ u4).setCell ⟨g, 5, none⟩ u5).setCell ⟨g, 6, none⟩ u6
theorem set7t_fold (w : World) (g : Nat) (u0 u1 u2 u3 u4 u5 u6 : Value) : ((((((w.setCell ⟨g, 0, none⟩ u0).setCell ⟨g, 1, none⟩ u1).setCell ⟨g, 2, none⟩ u2).setCell ⟨g, 3, none⟩ u3).setCell ⟨g, 4, none⟩ u4).setCell ⟨g, 5, none⟩ u5).setCell ⟨g, 6, none⟩ u6 = set7t w g u0 u1 u2 u3 u4 u5 u6 := rfl
theorem Own.put7 {w : World} {g : Nat} {t : TypeId} {v0 v1 v2 v3 v4 v5 v6 u0 u1 u2 u3 u4 u5 u6 : Value} (h : Own w g t [v0, v1, v2, v3, v4, v5, v6]) : Own (set7t w g u0 u1 u2 u3 u4 u5 u6) g t [u0, u1, u2, u3, u4, u5, u6] :=
  ((((((h.put 0 u0).put 1 u1).put 2 u2).put 3 u3).put 4 u4).put 5 u5).put 6 u6
theorem below_put7 {B g : Nat} {a w : World} (h : Below B a w) (hg : B ≤ g) (u0 u1 u2 u3 u4 u5 u6 : Value) : Below B a (set7t w g u0 u1 u2 u3 u4 u5 u6) :=
  ((((((h.setCell (p := ⟨g, 0, none⟩) hg u0).setCell (p := ⟨g, 1, none⟩) hg u1).setCell (p := ⟨g, 2, none⟩) hg u2).setCell (p := ⟨g, 3, none⟩) hg u3).setCell (p := ⟨g, 4, none⟩) hg u4).setCell (p := ⟨g, 5, none⟩) hg u5).setCell (p := ⟨g, 6, none⟩) hg u6
@[go_sem 2000] theorem tbuild2 (k : Int) (t : ByteArray) (w : World) : (Instr.build 27 #[(0, .int .i64 k), (1, .string t)]).run Try.prog w = .ok (.agg #[.int .i64 k, .string t, .int .u64 0, .int .u64 0, .int .u64 0, .int .u64 0, .int .i64 0]) w := run_build w _ _ _ (by kernel_rfl)
@[go_sem 2000] theorem tbuild3 (k a b c d : Int) (w : World) : (Instr.build 27 #[(0, .int .i64 k), (2, .agg #[.int .u64 a, .int .u64 b, .int .u64 c, .int .u64 d])]).run Try.prog w = .ok (.agg #[.int .i64 k, .string ⟨#[]⟩, .int .u64 a, .int .u64 b, .int .u64 c, .int .u64 d, .int .i64 0]) w := run_build w _ _ _ (by kernel_rfl)
@[go_sem 2000] theorem tbuild4 (n : Int) (w : World) : (Instr.build 27 #[(3, .int .i64 n)]).run Try.prog w = .ok (.agg #[.int .i64 0, .string ⟨#[]⟩, .int .u64 0, .int .u64 0, .int .u64 0, .int .u64 0, .int .i64 n]) w := run_build w _ _ _ (by kernel_rfl)
@[go_sem 2000] theorem tbuild5 (k n : Int) (w : World) : (Instr.build 27 #[(0, .int .i64 k), (3, .int .i64 n)]).run Try.prog w = .ok (.agg #[.int .i64 k, .string ⟨#[]⟩, .int .u64 0, .int .u64 0, .int .u64 0, .int .u64 0, .int .i64 n]) w := run_build w _ _ _ (by kernel_rfl)
/-- A token. -/
structure Tok where
  kd : Nat
  tx : ByteArray
  st : Set4
  pos : Nat
def Tok.row (t : Tok) : List Value := [.int .i64 (t.kd : Int), .string t.tx, .int .u64 (t.st.1 : Int), .int .u64 (t.st.2.1 : Int), .int .u64 (t.st.2.2.1 : Int), .int .u64 (t.st.2.2.2 : Int), .int .i64 (t.pos : Int)]
def tokV (t : Tok) : Value := .agg #[.int .i64 (t.kd : Int), .string t.tx, .int .u64 (t.st.1 : Int), .int .u64 (t.st.2.1 : Int), .int .u64 (t.st.2.2.1 : Int), .int .u64 (t.st.2.2.2 : Int), .int .i64 (t.pos : Int)]
def txtK (p : Nat) : Option (ByteArray × Nat) → Option (Tok × Nat)
  | none => none
  | some (u, m) => some (⟨2, u, set0, p⟩, m)
def clsK (p : Nat) : Option (Set4 × Nat) → Option (Tok × Nat)
  | none => none
  | some (x, m) => some (⟨3, ⟨#[]⟩, x, p⟩, m)
/-- The token that begins at a byte. -/
def tkO (s : ByteArray) (p : Nat) : Option (Tok × Nat) :=
  if letB (byt s p) = true then (if nmO s p ≤ 12 then some (⟨1, s.extract p (p + nmO s p), set0, p⟩, p + nmO s p) else none)
  else if byt s p = 34 then txtK p (txtO s (p : Int))
  else if byt s p = 91 then clsK p (clsO s (p : Int))
  else if sgO s p = 0 then none else some (⟨4, s.extract p (p + sgO s p), set0, p⟩, p + sgO s p)
/-- What read answers. -/
def ReadE (o : Option (Tok × Nat)) (p : Nat) (e : Ending) : Prop := ∃ (kd : Nat) (tx : ByteArray) (x0 x1 x2 x3 n : Nat) (b : Bool),
  e = .returned (.tuple #[.agg #[.int .i64 (kd : Int), .string tx, .int .u64 (x0 : Int), .int .u64 (x1 : Int), .int .u64 (x2 : Int), .int .u64 (x3 : Int), .int .i64 0], .int .i64 (n : Int), .bool b]) ∧
  ((o = none ∧ b = false) ∨ (b = true ∧ o = some (⟨kd, tx, (x0, x1, x2, x3), p⟩, n)))

set_option maxHeartbeats 3200000 in
set_option maxRecDepth 100000 in
theorem tread_any (s : ByteArray) (hs : s.size ≤ 1000000) (p : Nat) (hp : p < s.size) (w : World) :
    Calls Try.prog 14 #[.string s, .int .i64 (p : Int)] w fun e w' => ReadE (tkO s p) p e ∧ Below w.heap.size w w' := by
  obtain ⟨c, hc⟩ : ∃ c : Int, (s[p].toNat : Int) = c := ⟨_, rfl⟩
  have hbc : byt s p = c := by rw [byt_get hp, hc]
  have HF := Lib.hid (show tkO s p = if letB c = true then (if nmO s p ≤ 12 then some (⟨1, s.extract p (p + nmO s p), set0, p⟩, p + nmO s p) else none)
    else if c = 34 then txtK p (txtO s (p : Int)) else if c = 91 then clsK p (clsO s (p : Int))
    else if sgO s p = 0 then none else some (⟨4, s.extract p (p + sgO s p), set0, p⟩, p + sgO s p) by unfold tkO; rw [hbc])
  obtain ⟨o, ho⟩ : ∃ o, tkO s p = o := ⟨_, rfl⟩
  rw [ho] at HF ⊢
  clear ho hbc
  have hps : (p : Int) ≤ s.size := by omega
  have HL := Lib.hid (fun W => let_any c W)
  have HR := Lib.hid (rest_size s (p := p) (by omega))
  obtain ⟨bl, hbl⟩ : ∃ bl, letB c = bl := ⟨_, rfl⟩
  have HBL := Lib.hid hbl
  rw [hbl] at HL HF
  clear hbl
  cases bl
  · by_cases h34 : c = 34
    · subst h34
      have HT := Lib.hid (fun W => readtext_any s hs (p : Int) W)
      cases hq : txtO s (p : Int) with
      | none =>
        have HE := Lib.hid (show o = none by rw [HF.out, hq]; rfl)
        rw [hq] at HT
        simp only [txtT] at HT
        clear HF hq
        have HO1 := Lib.hid (Own.fresh w 27 [.int .i64 0, .string ⟨#[]⟩, .int .u64 0, .int .u64 0, .int .u64 0, .int .u64 0, .int .i64 0])
        have HB1 := Lib.hid ((Below.refl w.heap.size w).alloc (Nat.le_refl _) (.cells #[.int .i64 0, .string ⟨#[]⟩, .int .u64 0, .int .u64 0, .int .u64 0, .int .u64 0, .int .i64 0] 27))
        go_enter Try.func14, Try.ntmps14
        go_wp2_with fail
        refine (HL.out _).mono ?_
        rintro e w1 ⟨rfl, rfl⟩
        go_wp2_with fail
        refine (HT.out _).mono ?_
        rintro e w2 ⟨rfl, hb2⟩
        have HO2 := Lib.hid (HO1.out.under hb2 HO1.out.lt)
        have HB2 := Lib.hid (keepb HB1.out hb2)
        clear hb2 HO1 HB1
        obtain ⟨z0, z1, z2, z3, z4, z5, z6, y0, y1, y2, y3, y4, y5, y6⟩ := HO2.out.seven2
        go_wp2
        rw [set7t_fold]
        have HF := HO2.out.put7 (u0 := .int .i64 2) (u1 := .string ⟨#[]⟩) (u2 := .int .u64 0) (u3 := .int .u64 0) (u4 := .int .u64 0) (u5 := .int .u64 0) (u6 := .int .i64 0)
        have HB := below_put7 HB2.out (Nat.le_refl _) (.int .i64 2) (.string ⟨#[]⟩) (.int .u64 0) (.int .u64 0) (.int .u64 0) (.int .u64 0) (.int .i64 0)
        clear z0 z1 z2 z3 z4 z5 z6 y0 y1 y2 y3 y4 y5 y6
        obtain ⟨z0, z1, z2, z3, z4, z5, z6⟩ := HF.seven
        refine bodyPost_ret (by simp [results, Try.results14, go_sem, z0, z1, z2, z3, z4, z5, z6]; rfl) rfl ?_
        exact ⟨⟨2, ⟨#[]⟩, 0, 0, 0, 0, 0, false, rfl, .inl ⟨HE.out, rfl⟩⟩, HB⟩
      | some q =>
        obtain ⟨u, m⟩ := q
        have HE := Lib.hid (show o = some (⟨2, u, set0, p⟩, m) by rw [HF.out, hq]; rfl)
        rw [hq] at HT
        simp only [txtT] at HT
        clear HF hq
        have HO1 := Lib.hid (Own.fresh w 27 [.int .i64 0, .string ⟨#[]⟩, .int .u64 0, .int .u64 0, .int .u64 0, .int .u64 0, .int .i64 0])
        have HB1 := Lib.hid ((Below.refl w.heap.size w).alloc (Nat.le_refl _) (.cells #[.int .i64 0, .string ⟨#[]⟩, .int .u64 0, .int .u64 0, .int .u64 0, .int .u64 0, .int .i64 0] 27))
        go_enter Try.func14, Try.ntmps14
        go_wp2_with fail
        refine (HL.out _).mono ?_
        rintro e w1 ⟨rfl, rfl⟩
        go_wp2_with fail
        refine (HT.out _).mono ?_
        rintro e w2 ⟨rfl, hb2⟩
        have HO2 := Lib.hid (HO1.out.under hb2 HO1.out.lt)
        have HB2 := Lib.hid (keepb HB1.out hb2)
        clear hb2 HO1 HB1
        obtain ⟨z0, z1, z2, z3, z4, z5, z6, y0, y1, y2, y3, y4, y5, y6⟩ := HO2.out.seven2
        go_wp2
        rw [set7t_fold]
        have HF := HO2.out.put7 (u0 := .int .i64 2) (u1 := .string u) (u2 := .int .u64 0) (u3 := .int .u64 0) (u4 := .int .u64 0) (u5 := .int .u64 0) (u6 := .int .i64 0)
        have HB := below_put7 HB2.out (Nat.le_refl _) (.int .i64 2) (.string u) (.int .u64 0) (.int .u64 0) (.int .u64 0) (.int .u64 0) (.int .i64 0)
        clear z0 z1 z2 z3 z4 z5 z6 y0 y1 y2 y3 y4 y5 y6
        obtain ⟨z0, z1, z2, z3, z4, z5, z6⟩ := HF.seven
        refine bodyPost_ret (by simp [results, Try.results14, go_sem, z0, z1, z2, z3, z4, z5, z6]; rfl) rfl ?_
        exact ⟨⟨2, u, 0, 0, 0, 0, m, true, rfl, .inr ⟨rfl, HE.out⟩⟩, HB⟩
    · have e34 : (c == 34) = false := beq_eq_false_iff_ne.2 h34
      by_cases h91 : c = 91
      · subst h91
        have HC := Lib.hid (fun W => readclass_any s hs (p : Int) W)
        cases hq : clsO s (p : Int) with
        | none =>
          have HE := Lib.hid (show o = none by rw [HF.out, hq]; rfl)
          rw [hq] at HC
          simp only [clsT] at HC
          clear HF hq
          have HO1 := Lib.hid (Own.fresh w 27 [.int .i64 0, .string ⟨#[]⟩, .int .u64 0, .int .u64 0, .int .u64 0, .int .u64 0, .int .i64 0])
          have HB1 := Lib.hid ((Below.refl w.heap.size w).alloc (Nat.le_refl _) (.cells #[.int .i64 0, .string ⟨#[]⟩, .int .u64 0, .int .u64 0, .int .u64 0, .int .u64 0, .int .i64 0] 27))
          go_enter Try.func14, Try.ntmps14
          go_wp2_with fail
          refine (HL.out _).mono ?_
          rintro e w1 ⟨rfl, rfl⟩
          go_wp2_with fail
          refine (HC.out _).mono ?_
          rintro e w2 ⟨rfl, hb2⟩
          have HO2 := Lib.hid (HO1.out.under hb2 HO1.out.lt)
          have HB2 := Lib.hid (keepb HB1.out hb2)
          clear hb2 HO1 HB1
          have HOW := Lib.hid (HO2.out.on_alloc (.cells #[.int .u64 0, .int .u64 0, .int .u64 0, .int .u64 0] 25))
          have HXW := Lib.hid (Own.fresh w2 25 [.int .u64 0, .int .u64 0, .int .u64 0, .int .u64 0])
          have HBW := Lib.hid (HB2.out.alloc HB2.out.size (.cells #[.int .u64 0, .int .u64 0, .int .u64 0, .int .u64 0] 25))
          clear HO2 HB2
          go_upto_region 10 with fail
          generalize w2.alloc _ = W at *
          generalize w2.heap.size = g2 at *
          have HO2 := HOW
          have HB2 := HBW
          clear HOW HBW
          obtain ⟨x0', x1', x2', x3', -⟩ := HXW.out.four
          obtain ⟨z0, z1, z2, z3, z4, z5, z6, y0, y1, y2, y3, y4, y5, y6⟩ := HO2.out.seven2
          go_wp2
          rw [set7t_fold]
          have HF := HO2.out.put7 (u0 := .int .i64 3) (u1 := .string ⟨#[]⟩) (u2 := .int .u64 0) (u3 := .int .u64 0) (u4 := .int .u64 0) (u5 := .int .u64 0) (u6 := .int .i64 0)
          have HB := below_put7 HB2.out (Nat.le_refl _) (.int .i64 3) (.string ⟨#[]⟩) (.int .u64 0) (.int .u64 0) (.int .u64 0) (.int .u64 0) (.int .i64 0)
          clear z0 z1 z2 z3 z4 z5 z6 y0 y1 y2 y3 y4 y5 y6
          obtain ⟨z0, z1, z2, z3, z4, z5, z6⟩ := HF.seven
          refine bodyPost_ret (by simp [results, Try.results14, go_sem, z0, z1, z2, z3, z4, z5, z6]; rfl) rfl ?_
          exact ⟨⟨3, ⟨#[]⟩, 0, 0, 0, 0, 0, false, rfl, .inl ⟨HE.out, rfl⟩⟩, HB⟩
        | some q =>
          obtain ⟨⟨x0, x1, x2, x3⟩, m⟩ := q
          have HE := Lib.hid (show o = some (⟨3, ⟨#[]⟩, (x0, x1, x2, x3), p⟩, m) by rw [HF.out, hq]; rfl)
          rw [hq] at HC
          simp only [clsT] at HC
          clear HF hq
          have HO1 := Lib.hid (Own.fresh w 27 [.int .i64 0, .string ⟨#[]⟩, .int .u64 0, .int .u64 0, .int .u64 0, .int .u64 0, .int .i64 0])
          have HB1 := Lib.hid ((Below.refl w.heap.size w).alloc (Nat.le_refl _) (.cells #[.int .i64 0, .string ⟨#[]⟩, .int .u64 0, .int .u64 0, .int .u64 0, .int .u64 0, .int .i64 0] 27))
          go_enter Try.func14, Try.ntmps14
          go_wp2_with fail
          refine (HL.out _).mono ?_
          rintro e w1 ⟨rfl, rfl⟩
          go_wp2_with fail
          refine (HC.out _).mono ?_
          rintro e w2 ⟨rfl, hb2⟩
          have HO2 := Lib.hid (HO1.out.under hb2 HO1.out.lt)
          have HB2 := Lib.hid (keepb HB1.out hb2)
          clear hb2 HO1 HB1
          have HOW := Lib.hid (HO2.out.on_alloc (.cells #[.int .u64 (x0 : Int), .int .u64 (x1 : Int), .int .u64 (x2 : Int), .int .u64 (x3 : Int)] 25))
          have HXW := Lib.hid (Own.fresh w2 25 [.int .u64 (x0 : Int), .int .u64 (x1 : Int), .int .u64 (x2 : Int), .int .u64 (x3 : Int)])
          have HBW := Lib.hid (HB2.out.alloc HB2.out.size (.cells #[.int .u64 (x0 : Int), .int .u64 (x1 : Int), .int .u64 (x2 : Int), .int .u64 (x3 : Int)] 25))
          clear HO2 HB2
          go_upto_region 10 with fail
          generalize w2.alloc _ = W at *
          generalize w2.heap.size = g2 at *
          have HO2 := HOW
          have HB2 := HBW
          clear HOW HBW
          obtain ⟨x0', x1', x2', x3', -⟩ := HXW.out.four
          obtain ⟨z0, z1, z2, z3, z4, z5, z6, y0, y1, y2, y3, y4, y5, y6⟩ := HO2.out.seven2
          go_wp2
          rw [set7t_fold]
          have HF := HO2.out.put7 (u0 := .int .i64 3) (u1 := .string ⟨#[]⟩) (u2 := .int .u64 (x0 : Int)) (u3 := .int .u64 (x1 : Int)) (u4 := .int .u64 (x2 : Int)) (u5 := .int .u64 (x3 : Int)) (u6 := .int .i64 0)
          have HB := below_put7 HB2.out (Nat.le_refl _) (.int .i64 3) (.string ⟨#[]⟩) (.int .u64 (x0 : Int)) (.int .u64 (x1 : Int)) (.int .u64 (x2 : Int)) (.int .u64 (x3 : Int)) (.int .i64 0)
          clear z0 z1 z2 z3 z4 z5 z6 y0 y1 y2 y3 y4 y5 y6
          obtain ⟨z0, z1, z2, z3, z4, z5, z6⟩ := HF.seven
          refine bodyPost_ret (by simp [results, Try.results14, go_sem, z0, z1, z2, z3, z4, z5, z6]; rfl) rfl ?_
          exact ⟨⟨3, ⟨#[]⟩, x0, x1, x2, x3, m, true, rfl, .inr ⟨rfl, HE.out⟩⟩, HB⟩
      · have e91 : (c == 91) = false := beq_eq_false_iff_ne.2 h91
        have HG := Lib.hid (fun W => sgl_any s hs p hp W)
        have hg1 := sgO_le hp
        have HE0 := Lib.hid (show o = if sgO s p = 0 then none else some (⟨4, s.extract p (p + sgO s p), set0, p⟩, p + sgO s p) by rw [HF.out, if_neg (by decide), if_neg h34, if_neg h91])
        generalize sgO s p = n at *
        have hg2 : (p : Int) + n ≤ s.size := by omega
        have hx0 := ext_none s p
        clear HF
        by_cases h0 : n = 0
        · subst h0
          have HE := Lib.hid (show o = none by rw [HE0.out]; rfl)
          clear HE0
          go_enter Try.func14, Try.ntmps14
          go_wp2_with fail
          refine (HL.out _).mono ?_
          rintro e w1 ⟨rfl, rfl⟩
          go_wp2_with fail
          refine (HG.out _).mono ?_
          rintro e w2 ⟨rfl, rfl⟩
          go_wp2
          have HF := Own.fresh w 27 [.int .i64 4, .string ⟨#[]⟩, .int .u64 0, .int .u64 0, .int .u64 0, .int .u64 0, .int .i64 0]
          have HB := (Below.refl w.heap.size w).alloc (Nat.le_refl _) (.cells #[.int .i64 4, .string ⟨#[]⟩, .int .u64 0, .int .u64 0, .int .u64 0, .int .u64 0, .int .i64 0] 27)
          obtain ⟨z0, z1, z2, z3, z4, z5, z6⟩ := HF.seven
          refine bodyPost_ret (by simp [results, Try.results14, go_sem]; rfl) rfl ?_
          exact ⟨⟨4, ⟨#[]⟩, 0, 0, 0, 0, p, false, rfl, .inl ⟨HE.out, rfl⟩⟩, HB⟩
        · have HE := Lib.hid (show o = some (⟨4, s.extract p (p + n), set0, p⟩, p + n) by rw [HE0.out, if_neg h0])
          have hg3 : (p : Int) < (p : Int) + n := by omega
          clear HE0
          go_enter Try.func14, Try.ntmps14
          go_wp2_with fail
          refine (HL.out _).mono ?_
          rintro e w1 ⟨rfl, rfl⟩
          go_wp2_with fail
          refine (HG.out _).mono ?_
          rintro e w2 ⟨rfl, rfl⟩
          go_wp2
          have HF := Own.fresh w 27 [.int .i64 4, .string (s.extract p (p + n)), .int .u64 0, .int .u64 0, .int .u64 0, .int .u64 0, .int .i64 0]
          have HB := (Below.refl w.heap.size w).alloc (Nat.le_refl _) (.cells #[.int .i64 4, .string (s.extract p (p + n)), .int .u64 0, .int .u64 0, .int .u64 0, .int .u64 0, .int .i64 0] 27)
          obtain ⟨z0, z1, z2, z3, z4, z5, z6⟩ := HF.seven
          refine bodyPost_ret (by simp [results, Try.results14, go_sem, z0, z1, z2, z3, z4, z5, z6]; rfl) rfl ?_
          exact ⟨⟨4, s.extract p (p + n), 0, 0, 0, 0, p + n, true, rfl, .inr ⟨rfl, HE.out⟩⟩, HB⟩
  · have HN := Lib.hid (fun W => nml_any (restS s p) (by have := HR.out; omega) W)
    have hnm := fun n h1 h2 h3 => nm_is (s := s) (p := p) (n := n) (by omega) h1 h2 h3
    have HNM := Lib.hid hnm
    clear hnm
    go_enter Try.func14, Try.ntmps14
    go_wp2_with fail
    refine (HL.out _).mono ?_
    rintro e w1 ⟨rfl, rfl⟩
    go_wp2_with fail
    refine (HN.out _).mono ?_
    rintro e w2 ⟨⟨n, rfl, hn1, hn2, hn3⟩, rfl⟩
    have hnn := HNM.out n hn1 hn2 hn3
    rw [HR.out] at hn1
    have HE0 := Lib.hid (show o = if n ≤ 12 then some (⟨1, s.extract p (p + n), set0, p⟩, p + n) else none by rw [HF.out, hnn]; rfl)
    have hg2 : (p : Int) + n ≤ s.size := by omega
    have e0 : (p : Int) + (n : Int) - (p : Int) = n := by omega
    clear HF hn2 hn3 hnn HNM
    by_cases h12 : (n : Int) ≤ 12
    · have HE := Lib.hid (show o = some (⟨1, s.extract p (p + n), set0, p⟩, p + n) by rw [HE0.out, if_pos (by omega)])
      clear HE0
      go_wp2
      have HF := Own.fresh w 27 [.int .i64 1, .string (s.extract p (p + n)), .int .u64 0, .int .u64 0, .int .u64 0, .int .u64 0, .int .i64 0]
      have HB := (Below.refl w.heap.size w).alloc (Nat.le_refl _) (.cells #[.int .i64 1, .string (s.extract p (p + n)), .int .u64 0, .int .u64 0, .int .u64 0, .int .u64 0, .int .i64 0] 27)
      obtain ⟨z0, z1, z2, z3, z4, z5, z6⟩ := HF.seven
      refine bodyPost_ret (by simp [results, Try.results14, go_sem, z0, z1, z2, z3, z4, z5, z6]; rfl) rfl ?_
      exact ⟨⟨1, s.extract p (p + n), 0, 0, 0, 0, p + n, true, rfl, .inr ⟨rfl, HE.out⟩⟩, HB⟩
    · have HE := Lib.hid (show o = none by rw [HE0.out, if_neg (by omega)])
      have h13 : decide ((n : Int) ≤ 12) = false := decide_eq_false h12
      clear HE0
      go_wp2
      have HF := Own.fresh w 27 [.int .i64 1, .string (s.extract p (p + n)), .int .u64 0, .int .u64 0, .int .u64 0, .int .u64 0, .int .i64 0]
      have HB := (Below.refl w.heap.size w).alloc (Nat.le_refl _) (.cells #[.int .i64 1, .string (s.extract p (p + n)), .int .u64 0, .int .u64 0, .int .u64 0, .int .u64 0, .int .i64 0] 27)
      obtain ⟨z0, z1, z2, z3, z4, z5, z6⟩ := HF.seven
      refine bodyPost_ret (by simp [results, Try.results14, go_sem, z0, z1, z2, z3, z4, z5, z6]; rfl) rfl ?_
      exact ⟨⟨1, s.extract p (p + n), 0, 0, 0, 0, p + n, false, rfl, .inl ⟨HE.out, rfl⟩⟩, HB⟩
end Go.Proofs.Ytinkgidncdjapab
