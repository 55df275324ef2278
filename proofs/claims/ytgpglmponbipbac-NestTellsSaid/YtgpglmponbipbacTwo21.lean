/- Two nests, the program's and the reference's, and the law's own marks, beside what is kept (X). -/
import Derived.Test.YtgpglmponbipbacDeeds21
namespace Go.Proofs.Ytgpglmponbipbac
set_option linter.unusedVariables false
open Go.RowKit Go.Sort


def mrow (x : Int × Int) : List Value := [.int .i64 x.1, .int .i64 x.2]
def rowM (M : List (Int × Int)) : List Value := M.flatMap mrow
theorem rowM_append (L M : List (Int × Int)) : rowM (L ++ M) = rowM L ++ rowM M := List.flatMap_append
theorem rowM_one (x : Int × Int) : rowM [x] = mrow x := by simp [rowM]
theorem rowM_get : ∀ (L : List (Int × Int)) (k : Nat) (x : Int × Int), L[k]? = some x → ∀ c, c < 2 → (rowM L)[k * 2 + c]? = (mrow x)[c]?
  | y :: L, 0, x, h, c, hc => by
    simp at h; subst h
    show (mrow y ++ rowM L)[0 * 2 + c]? = _
    rw [List.getElem?_append_left (by simp [mrow]; omega)]; simp
  | y :: L, k + 1, x, h, c, hc => by
    show (mrow y ++ rowM L)[(k + 1) * 2 + c]? = _
    rw [List.getElem?_append_right (by simp [mrow]; omega), show (k + 1) * 2 + c - (mrow y).length = k * 2 + c by simp [mrow]; omega]
    exact rowM_get L k x (by simpa using h) c hc
theorem info_mark : (Try.prog.info? 33).map (fun i => (i.zero, i.size, i.bytes)) = some (some (.agg #[.int .i64 0, .int .i64 0]), 2, 16) := by kernel_rfl

def mayB (L : List Nd) (l t : Int) : Prop := 0 ≤ l ∧ l ≤ (L.length : Int) ∧ -1 ≤ t ∧ t < l
instance (L : List Nd) (l t : Int) : Decidable (mayB L l t) := by unfold mayB; infer_instance
def bkL (L : List Nd) (l t : Int) : List Nd := if mayB L l t then L.take l.toNat else L
def bkT (L : List Nd) (top l t : Int) : Int := if mayB L l t then t else top
def ptL (L : List Nd) (l t : Int) : List Nd := if mayB L l t then partL L l.toNat else []
theorem bkL_len (L : List Nd) (l t : Int) : (bkL L l t).length ≤ L.length := by
  unfold bkL; split
  · rw [List.length_take]; omega
  · exact Nat.le_refl _
theorem ptL_len (L : List Nd) (l t : Int) : (ptL L l t).length ≤ L.length := by
  unfold ptL partL; split
  · simp
  · simp
theorem addL_len (L : List Nd) (top : Int) (P : List Nd) : (addL L top P).length = L.length + P.length := addTo_len _ (Nat.le_refl _)
theorem HasS.off_low {N : Nat} {w w' : World} {ao : Option Addr} {L : List Nd} (h : HasS (fun g => g < N) w ao L) (hb : Below N w w') : HasS (fun g => g < N) w' ao L := fun k x hk => by
  obtain ⟨b, off, rfl, hR, hB, h0, h1, h2, h3, h4⟩ := h k x hk
  exact ⟨b, off, rfl, hR, Nat.lt_of_lt_of_le hB hb.size, (hb.cell (p := ⟨b, off + k * 5, none⟩) hR).trans h0, (hb.cell (p := ⟨b, off + k * 5 + 1, none⟩) hR).trans h1, (hb.cell (p := ⟨b, off + k * 5 + 2, none⟩) hR).trans h2,
    (hb.cell (p := ⟨b, off + k * 5 + 3, none⟩) hR).trans h3, (hb.cell (p := ⟨b, off + k * 5 + 4, none⟩) hR).trans h4⟩

structure Tw (N : Nat) (X : Nat → Prop) (wr : World) (p q : Nat) (vm : Value) (La : List Nd) (ta : Int) (Lb : List Nd) (tb : Int) (M : List (Int × Int)) (Ua Ub Tm : Nat → Prop) : Prop where
  na : Nest 56 wr p Ua La ta
  nb : Nest 58 wr q Ub Lb tb
  wm : Win Tm 33 2 wr vm M.length (rowM M)
  dab : ∀ g, Ua g → ¬ Ub g
  dam : ∀ g, Ua g → ¬ Tm g
  dbm : ∀ g, Ub g → ¬ Tm g
  ltm : ∀ g, Tm g → g < wr.heap.size
  ltx : ∀ g, X g → g < wr.heap.size
  xo : ∀ g, X g → ¬ Ua g ∧ ¬ Ub g ∧ ¬ Tm g
  lo : ∀ g, Ua g ∨ Ub g ∨ Tm g → N ≤ g
  sz : N ≤ wr.heap.size
def Two (N : Nat) (X : Nat → Prop) (wr : World) (p q : Nat) (vm : Value) (La : List Nd) (ta : Int) (Lb : List Nd) (tb : Int) (M : List (Int × Int)) : Prop := ∃ Ua Ub Tm, Tw N X wr p q vm La ta Lb tb M Ua Ub Tm
section
variable {N p q : Nat} {X Y Ua Ub Tm : Nat → Prop} {wr w1 w2 : World} {vm v' : Value} {La Lb L' : List Nd} {ta tb t' : Int} {M : List (Int × Int)}
theorem Nest.grow1 {ty : TypeId} {p : Nat} {U : Nat → Prop} {L : List Nd} {top : Int} {w w' : World} (h : Nest ty w' p U L top) : Nest ty w' p (Grow U w w') L top := h.grow0 h.lt
theorem Tw.stepA (h : Tw N X wr p q vm La ta Lb tb M Ua Ub Tm) (hb : But Ua wr w1) (hn : Nest 56 w1 p (Grow Ua wr w1) L' t') :
    Below N wr w1 ∧ But (Off X) wr w1 ∧ Two N X w1 p q vm L' t' Lb tb M := by
  have hs := hb.size
  have hz := h.sz
  refine ⟨hb.below h.sz (fun g hg => h.lo g (.inl hg)), hb.mono (fun g _ hg hx => (h.xo g hx).1 hg), Grow Ua wr w1, Ub, Tm, hn, h.nb.keep hb (fun g hg ha => h.dab g ha hg), h.wm.keep hb (fun g _ hg ha => h.dam g ha hg),
    fun g hg hu => ?_, fun g hg hu => ?_, h.dbm, fun g hg => Nat.lt_of_lt_of_le (h.ltm g hg) hs, fun g hg => Nat.lt_of_lt_of_le (h.ltx g hg) hs, fun g hg => ⟨fun hu => ?_, (h.xo g hg).2⟩, fun g hg => ?_, Nat.le_trans hz hs⟩
  · rcases hg with hg | hg
    · exact h.dab g hg hu
    · have := h.nb.lt g hu; omega
  · rcases hg with hg | hg
    · exact h.dam g hg hu
    · have := h.ltm g hu; omega
  · rcases hu with hu | hu
    · exact (h.xo g hg).1 hu
    · have := h.ltx g hg; omega
  · rcases hg with (hg | hg) | hg
    · exact h.lo g (.inl hg)
    · omega
    · exact h.lo g (.inr hg)
theorem Tw.stepB (h : Tw N X wr p q vm La ta Lb tb M Ua Ub Tm) (hb : But Ub wr w1) (hn : Nest 58 w1 q (Grow Ub wr w1) L' t') :
    Below N wr w1 ∧ But (Off X) wr w1 ∧ Two N X w1 p q vm La ta L' t' M := by
  have hs := hb.size
  have hz := h.sz
  refine ⟨hb.below h.sz (fun g hg => h.lo g (.inr (.inl hg))), hb.mono (fun g _ hg hx => (h.xo g hx).2.1 hg), Ua, Grow Ub wr w1, Tm, h.na.keep hb (fun g hg ha => h.dab g hg ha), hn, h.wm.keep hb (fun g _ hg ha => h.dbm g ha hg),
    fun g hg hu => ?_, h.dam, fun g hg hu => ?_, fun g hg => Nat.lt_of_lt_of_le (h.ltm g hg) hs, fun g hg => Nat.lt_of_lt_of_le (h.ltx g hg) hs, fun g hg => ⟨(h.xo g hg).1, fun hu => ?_, (h.xo g hg).2.2⟩, fun g hg => ?_, Nat.le_trans hz hs⟩
  · rcases hu with hu | hu
    · exact h.dab g hg hu
    · have := h.na.lt g hg; omega
  · rcases hg with hg | hg
    · exact h.dbm g hg hu
    · have := h.ltm g hu; omega
  · rcases hu with hu | hu
    · exact (h.xo g hg).2.1 hu
    · have := h.ltx g hg; omega
  · rcases hg with hg | (hg | hg) | hg
    · exact h.lo g (.inl hg)
    · exact h.lo g (.inr (.inl hg))
    · omega
    · exact h.lo g (.inr (.inr hg))
theorem Two.still (h : Two N X wr p q vm La ta Lb tb M) (hb : Below wr.heap.size wr w1) : Two N X w1 p q vm La ta Lb tb M := by
  obtain ⟨Ua, Ub, Tm, h⟩ := h
  have hs := hb.size
  exact ⟨Ua, Ub, Tm, h.na.below hb, h.nb.below hb, h.wm.below hb, h.dab, h.dam, h.dbm, fun g hg => Nat.lt_of_lt_of_le (h.ltm g hg) hs, fun g hg => Nat.lt_of_lt_of_le (h.ltx g hg) hs, h.xo, h.lo, Nat.le_trans h.sz hs⟩
/-- More is kept: what has come since. -/
theorem Two.more (h : Two N X wr p q vm La ta Lb tb M) (hb : Below wr.heap.size wr w1) (hY : ∀ g, Y g → X g ∨ wr.heap.size ≤ g ∧ g < w1.heap.size) : Two N Y w1 p q vm La ta Lb tb M := by
  obtain ⟨Ua, Ub, Tm, h⟩ := h
  have hs := hb.size
  refine ⟨Ua, Ub, Tm, h.na.below hb, h.nb.below hb, h.wm.below hb, h.dab, h.dam, h.dbm, fun g hg => Nat.lt_of_lt_of_le (h.ltm g hg) hs, fun g hg => ?_, fun g hg => ?_, h.lo, Nat.le_trans h.sz hs⟩
  · rcases hY g hg with h1 | h1
    · exact Nat.lt_of_lt_of_le (h.ltx g h1) hs
    · exact h1.2
  · rcases hY g hg with h1 | h1
    · exact h.xo g h1
    · exact ⟨fun hu => by have := h.na.lt g hu; omega, fun hu => by have := h.nb.lt g hu; omega, fun hu => by have := h.ltm g hu; omega⟩
theorem Two.sz (h : Two N X wr p q vm La ta Lb tb M) : N ≤ wr.heap.size := by obtain ⟨Ua, Ub, Tm, h⟩ := h; exact h.sz
theorem Two.upsA (h : Two N X wr p q vm La ta Lb tb M) : Ups La ta := by obtain ⟨Ua, Ub, Tm, h⟩ := h; exact h.na.ups
/-- What a walk asks of the marks. -/
theorem Two.marks (h : Two N X wr p q vm La ta Lb tb M) : ∃ ao cap, vm = .slice ao M.length cap ∧ ∀ k x, M[k]? = some x → ∃ g off, ao = some ⟨g, off, none⟩ ∧ g < wr.heap.size ∧ wr.cell? ⟨g, off + k * 2, none⟩ = some (.int .i64 x.1) ∧ wr.cell? ⟨g, off + k * 2 + 1, none⟩ = some (.int .i64 x.2) := by
  obtain ⟨Ua, Ub, Tm, h⟩ := h
  obtain ⟨ao, cap, rfl, _, _, hj⟩ := h.wm.form
  refine ⟨ao, cap, rfl, fun k x hk => ?_⟩
  have hk' : k < M.length := (List.getElem?_eq_some_iff.1 hk).1
  obtain ⟨g, off, rfl, hg, hB, c0, _⟩ := hj (k * 2 + 0) (by omega)
  obtain ⟨_, _, e1, _, _, c1, _⟩ := hj (k * 2 + 1) (by omega)
  simp only [Option.some.injEq, Addr.mk.injEq, and_true] at e1
  obtain ⟨rfl, rfl⟩ := e1
  rw [rowM_get M k x hk _ (by omega)] at c0 c1
  exact ⟨g, off, rfl, hB, c0, c1⟩
/-- A mark more: the append. -/
theorem Two.mark {P : Program} {ops : Array Oper} {rest : List Oper} {o : Oper} {a : Act} {Q : Exit → Act → World → Prop} (x : Int × Int) (h : Two N X wr p q vm La ta Lb tb M) (hP : P = Try.prog) (hlen : (M.length : Int) ≤ 1000)
    (hg : o.guard = none) (s y : Operand) (hop : o.op = Op.call { callee := Callee.builtin Builtin.append, args := #[s, y], argTypes := #[29, 29] }) (hs : a.eval s = vm)
    (hx : a.eval y = .slice (some ⟨wr.heap.size, 0, none⟩) 1 1)
    (hK : ∀ v' w', Two N X w' p q v' La ta Lb tb (M ++ [x]) → Below N wr w' → But (Off X) wr w' → wpList P ops Q rest (a.put o.dst v') w') :
    wpList P ops Q (o :: rest) a (wr.alloc (.cells #[.int .i64 x.1, .int .i64 x.2] 33)) := by
  subst hP
  obtain ⟨Ua, Ub, Tm, h⟩ := h
  obtain ⟨i0, hi, hz0, hz1, hz2⟩ := info_parts info_mark
  have h1 : Below wr.heap.size wr (wr.alloc (.cells #[.int .i64 x.1, .int .i64 x.2] 33)) := (Below.refl _ _).alloc (Nat.le_refl _) _
  refine wpList_append_win _ hg s y 29 hop Tm 33 i0 _ 2 16 Try.underlying29 hi hz0 hz1 hz2 rfl (by decide) vm M.length (rowM M) hs (h.wm.below h1) ⟨wr.heap.size, 0, none⟩ 1 1 (mrow x) hx rfl (fresh_news wr 33 [.int .i64 x.1, .int .i64 x.2])
    (by intro u hu; simp [mrow] at hu; rcases hu with rfl | rfl <;> rfl) (by unfold maxLen; omega) (by omega) ?_
  intro v' w2 hw hb
  have hz := h.sz
  have hs2 := hb.size
  rw [World.size_alloc] at hs2
  have Bt : But Tm wr w2 := (But.of_below h1).trans hb (fun _ _ h => h)
  refine hK v' w2 ⟨Ua, Ub, fun g => (Tm g ∨ wr.heap.size ≤ g) ∧ g < w2.heap.size, h.na.keep Bt (fun g hg ht => h.dam g hg ht), h.nb.keep Bt (fun g hg ht => h.dbm g hg ht), ?_, h.dab, fun g hg ht => ?_, fun g hg ht => ?_, fun g hg => hg.2, fun g hg => Nat.lt_of_lt_of_le (h.ltx g hg) Bt.size, fun g hg => ⟨(h.xo g hg).1, (h.xo g hg).2.1, fun ht => ?_⟩, fun g hg => ?_, Nat.le_trans h.sz Bt.size⟩ (Bt.below h.sz (fun g hg => h.lo g (.inr (.inr hg)))) (Bt.mono (fun g _ hg hx => (h.xo g hx).2.2 hg))
  · rw [show rowM M ++ mrow x = rowM (M ++ [x]) by rw [rowM_append, rowM_one]] at hw
    rw [show (M ++ [x]).length = M.length + 1 by simp]
    rw [World.size_alloc] at hw
    exact hw.mono fun g hl hg => ⟨hg.imp id (fun h => by omega), hl⟩
  · rcases ht.1 with h3 | h3
    · exact h.dam g hg h3
    · have := h.na.lt g hg; omega
  · rcases ht.1 with h3 | h3
    · exact h.dbm g hg h3
    · have := h.nb.lt g hg; omega
  · rcases ht.1 with h3 | h3
    · exact (h.xo g hg).2.2 h3
    · have := h.ltx g hg; omega
  · rcases hg with hg | hg | hg
    · exact h.lo g (.inl hg)
    · exact h.lo g (.inr (.inl hg))
    · rcases hg.1 with h3 | h3
      · exact h.lo g (.inr (.inr h3))
      · omega

theorem Two.leafA (h : Two N X wr p q vm La ta Lb tb M) (kind fr tt : Int) (hn : (La.length : Int) ≤ 1000) :
    Calls Try.prog 9 #[.pointer (some ⟨p, 0, none⟩), .int .i64 kind, .int .i64 fr, .int .i64 tt] wr fun e w' => e = .returned (.tuple #[]) ∧ Below N wr w' ∧ But (Off X) wr w' ∧ Two N X w' p q vm (La ++ [⟨kind, ⟨#[]⟩, fr, tt, ta⟩]) ta Lb tb M := by
  obtain ⟨Ua, Ub, Tm, h⟩ := h
  refine (nleaf_any wr p Ua La ta kind fr tt hn h.na).mono ?_
  rintro e w' ⟨rfl, hb, hr⟩
  exact ⟨rfl, h.stepA hb hr⟩
theorem Two.openA (h : Two N X wr p q vm La ta Lb tb M) (kind : Int) (nm : ByteArray) (fr : Int) (hn : (La.length : Int) ≤ 1000) :
    Calls Try.prog 11 #[.pointer (some ⟨p, 0, none⟩), .int .i64 kind, .string nm, .int .i64 fr] wr fun e w' => e = .returned (.tuple #[]) ∧ Below N wr w' ∧ But (Off X) wr w' ∧ Two N X w' p q vm (La ++ [⟨kind, nm, fr, fr, ta⟩]) (La.length : Int) Lb tb M := by
  obtain ⟨Ua, Ub, Tm, h⟩ := h
  refine (nopen_any wr p Ua La ta kind nm fr hn h.na).mono ?_
  rintro e w' ⟨rfl, hb, hr⟩
  exact ⟨rfl, h.stepA hb hr⟩
theorem Two.close_noA (h : Two N X wr p q vm La ta Lb tb M) (tq : Int) (ht : ta < 0) :
    Calls Try.prog 13 #[.pointer (some ⟨p, 0, none⟩), .int .i64 tq] wr fun e w' => e = .returned (.bool false) ∧ w' = wr := by
  obtain ⟨Ua, Ub, Tm, h⟩ := h
  exact nclose_no wr p Ua La ta tq ht h.na
theorem Two.closeA {t : Nat} (h : Two N X wr p q vm La (t : Int) Lb tb M) (tq : Int) (x : Nd) (hn : (La.length : Int) ≤ 1000) (hx : La[t]? = some x) :
    Calls Try.prog 13 #[.pointer (some ⟨p, 0, none⟩), .int .i64 tq] wr fun e w' => e = .returned (.bool true) ∧ Below N wr w' ∧ But (Off X) wr w' ∧ Two N X w' p q vm (La.set t ⟨x.kd, x.nm, x.fr, tq, x.up⟩) x.up Lb tb M := by
  obtain ⟨Ua, Ub, Tm, h⟩ := h
  refine (nclose_any wr p Ua La t tq x hn hx h.na).mono ?_
  rintro e w' ⟨rfl, hb, hr⟩
  exact ⟨rfl, h.stepA hb hr.grow1⟩
theorem Two.markA (h : Two N X wr p q vm La ta Lb tb M) : Calls Try.prog 15 #[.pointer (some ⟨p, 0, none⟩)] wr fun e w' => e = .returned (.agg #[.int .i64 (La.length : Int), .int .i64 ta]) ∧ Below wr.heap.size wr w' := by
  obtain ⟨Ua, Ub, Tm, h⟩ := h
  exact nmark_any wr p Ua La ta h.na
theorem Two.treeA (h : Two N X wr p q vm La ta Lb tb M) (hn : (La.length : Int) ≤ 1000) : Calls Try.prog 24 #[.pointer (some ⟨p, 0, none⟩)] wr
    fun e w' => ∃ ao cap, e = .returned (.slice ao La.length cap) ∧ HasS (fun b => wr.heap.size ≤ b) w' ao La ∧ Below wr.heap.size wr w' := by
  obtain ⟨Ua, Ub, Tm, h⟩ := h
  refine (ntree_any wr p Ua La ta hn h.na).mono ?_
  rintro e w' ⟨v, rfl, hw, hb⟩
  obtain ⟨ao, cap, rfl, _, hs⟩ := hw.nodes
  exact ⟨ao, cap, rfl, hs, hb⟩
theorem Two.backA (h : Two N X wr p q vm La ta Lb tb M) (l t : Int) (hn : (La.length : Int) ≤ 1000) :
    Calls Try.prog 16 #[.pointer (some ⟨p, 0, none⟩), .agg #[.int .i64 l, .int .i64 t]] wr fun e w' => e = .returned (.tuple #[]) ∧ Below N wr w' ∧ But (Off X) wr w' ∧ Two N X w' p q vm (bkL La l t) (bkT La ta l t) Lb tb M := by
  by_cases hm : mayB La l t
  · obtain ⟨l, rfl⟩ : ∃ k : Nat, l = (k : Int) := ⟨l.toNat, by have := hm.1; omega⟩
    obtain ⟨Ua, Ub, Tm, h⟩ := h
    refine (nback_yes wr p Ua La ta t l hn hm.2.1 hm.2.2.1 hm.2.2.2 h.na).mono ?_
    rintro e w' ⟨rfl, hb, hr⟩
    rw [show bkL La (l : Int) t = La.take l by unfold bkL; rw [if_pos hm]; rfl, show bkT La ta (l : Int) t = t by unfold bkT; rw [if_pos hm]]
    exact ⟨rfl, h.stepA hb hr.grow1⟩
  · rw [show bkL La l t = La by unfold bkL; rw [if_neg hm], show bkT La ta l t = ta by unfold bkT; rw [if_neg hm]]
    have h0 := h
    obtain ⟨Ua, Ub, Tm, h⟩ := h
    refine (nback_no wr p Ua La ta l t hm h.na).mono ?_
    rintro e w' ⟨rfl, hb⟩
    exact ⟨rfl, hb.mono h.sz, But.of_below hb, h0.still hb⟩
theorem Two.partA (h : Two N X wr p q vm La ta Lb tb M) (l t : Int) (hn : (La.length : Int) ≤ 1000) :
    Calls Try.prog 18 #[.pointer (some ⟨p, 0, none⟩), .agg #[.int .i64 l, .int .i64 t]] wr fun e w' => ∃ ao cap, e = .returned (.slice ao (ptL La l t).length cap) ∧ HasS (fun b => wr.heap.size ≤ b) w' ao (ptL La l t) ∧ Below wr.heap.size wr w' := by
  obtain ⟨Ua, Ub, Tm, h⟩ := h
  by_cases hm : mayB La l t
  · obtain ⟨l, rfl⟩ : ∃ k : Nat, l = (k : Int) := ⟨l.toNat, by have := hm.1; omega⟩
    refine (npart_yes wr p Ua La ta t l hn hm.2.1 hm.2.2.1 hm.2.2.2 h.na).mono ?_
    rintro e w' ⟨v, rfl, hw, hb⟩
    rw [show ptL La (l : Int) t = partL La l by unfold ptL; rw [if_pos hm]; rfl]
    obtain ⟨ao, cap, rfl, _, hs⟩ := hw.nodes
    exact ⟨ao, cap, rfl, hs, hb⟩
  · rw [show ptL La l t = [] by unfold ptL; rw [if_neg hm]]
    refine (npart_no wr p Ua La ta l t hm h.na).mono ?_
    rintro e w' ⟨rfl, hb⟩
    exact ⟨none, 0, rfl, HasS.nil _ _ _, hb⟩
theorem Two.addA (h : Two N X wr p q vm La ta Lb tb M) (P : List Nd) (ao : Option Addr) (cap : Nat) (R : Nat → Prop) (hn : (La.length : Int) ≤ 1000) (hm : (P.length : Int) ≤ 1000) (hP : HasS R wr ao P) (hR : ∀ g, g < wr.heap.size → R g → X g) :
    Calls Try.prog 21 #[.pointer (some ⟨p, 0, none⟩), .slice ao P.length cap] wr fun e w' => e = .returned (.tuple #[]) ∧ Below N wr w' ∧ But (Off X) wr w' ∧ Two N X w' p q vm (addL La ta P) ta Lb tb M := by
  obtain ⟨Ua, Ub, Tm, h⟩ := h
  refine (nadd_any wr p Ua R La P ta ao cap hn hm (fun g hg hr hu => (h.xo g (hR g hg hr)).1 hu) hP h.na).mono ?_
  rintro e w' ⟨rfl, hb, hr⟩
  exact ⟨rfl, h.stepA hb hr⟩
theorem Two.leafB (h : Two N X wr p q vm La ta Lb tb M) (kind fr tt : Int) (hn : (Lb.length : Int) ≤ 1000) :
    Calls Try.prog 10 #[.pointer (some ⟨q, 0, none⟩), .int .i64 kind, .int .i64 fr, .int .i64 tt] wr fun e w' => e = .returned (.tuple #[]) ∧ Below N wr w' ∧ But (Off X) wr w' ∧ Two N X w' p q vm La ta (Lb ++ [⟨kind, ⟨#[]⟩, fr, tt, tb⟩]) tb M := by
  obtain ⟨Ua, Ub, Tm, h⟩ := h
  refine (rleaf_any wr q Ub Lb tb kind fr tt hn h.nb).mono ?_
  rintro e w' ⟨rfl, hb, hr⟩
  exact ⟨rfl, h.stepB hb hr⟩
theorem Two.openB (h : Two N X wr p q vm La ta Lb tb M) (kind : Int) (nm : ByteArray) (fr : Int) (hn : (Lb.length : Int) ≤ 1000) :
    Calls Try.prog 12 #[.pointer (some ⟨q, 0, none⟩), .int .i64 kind, .string nm, .int .i64 fr] wr fun e w' => e = .returned (.tuple #[]) ∧ Below N wr w' ∧ But (Off X) wr w' ∧ Two N X w' p q vm La ta (Lb ++ [⟨kind, nm, fr, fr, tb⟩]) (Lb.length : Int) M := by
  obtain ⟨Ua, Ub, Tm, h⟩ := h
  refine (ropen_any wr q Ub Lb tb kind nm fr hn h.nb).mono ?_
  rintro e w' ⟨rfl, hb, hr⟩
  exact ⟨rfl, h.stepB hb hr⟩
theorem Two.close_noB (h : Two N X wr p q vm La ta Lb tb M) (tq : Int) (ht : tb < 0) :
    Calls Try.prog 14 #[.pointer (some ⟨q, 0, none⟩), .int .i64 tq] wr fun e w' => e = .returned (.bool false) ∧ w' = wr := by
  obtain ⟨Ua, Ub, Tm, h⟩ := h
  exact rclose_no wr q Ub Lb tb tq ht h.nb
theorem Two.closeB {t : Nat} (h : Two N X wr p q vm La ta Lb (t : Int) M) (tq : Int) (x : Nd) (hn : (Lb.length : Int) ≤ 1000) (hx : Lb[t]? = some x) :
    Calls Try.prog 14 #[.pointer (some ⟨q, 0, none⟩), .int .i64 tq] wr fun e w' => e = .returned (.bool true) ∧ Below N wr w' ∧ But (Off X) wr w' ∧ Two N X w' p q vm La ta (Lb.set t ⟨x.kd, x.nm, x.fr, tq, x.up⟩) x.up M := by
  obtain ⟨Ua, Ub, Tm, h⟩ := h
  refine (rclose_any wr q Ub Lb t tq x hn hx h.nb).mono ?_
  rintro e w' ⟨rfl, hb, hr⟩
  exact ⟨rfl, h.stepB hb hr.grow1⟩
theorem Two.markB (h : Two N X wr p q vm La ta Lb tb M) : Calls Try.prog 23 #[.pointer (some ⟨q, 0, none⟩)] wr fun e w' => e = .returned (.agg #[.int .i64 (Lb.length : Int), .int .i64 tb]) ∧ Below wr.heap.size wr w' := by
  obtain ⟨Ua, Ub, Tm, h⟩ := h
  exact rmark_any wr q Ub Lb tb h.nb
theorem Two.treeB (h : Two N X wr p q vm La ta Lb tb M) (hn : (Lb.length : Int) ≤ 1000) : Calls Try.prog 25 #[.pointer (some ⟨q, 0, none⟩)] wr
    fun e w' => ∃ ao cap, e = .returned (.slice ao Lb.length cap) ∧ HasS (fun b => wr.heap.size ≤ b) w' ao Lb ∧ Below wr.heap.size wr w' := by
  obtain ⟨Ua, Ub, Tm, h⟩ := h
  refine (rtree_any wr q Ub Lb tb hn h.nb).mono ?_
  rintro e w' ⟨v, rfl, hw, hb⟩
  obtain ⟨ao, cap, rfl, _, hs⟩ := hw.nodes
  exact ⟨ao, cap, rfl, hs, hb⟩
theorem Two.backB (h : Two N X wr p q vm La ta Lb tb M) (l t : Int) (hn : (Lb.length : Int) ≤ 1000) :
    Calls Try.prog 17 #[.pointer (some ⟨q, 0, none⟩), .agg #[.int .i64 l, .int .i64 t]] wr fun e w' => e = .returned (.tuple #[]) ∧ Below N wr w' ∧ But (Off X) wr w' ∧ Two N X w' p q vm La ta (bkL Lb l t) (bkT Lb tb l t) M := by
  by_cases hm : mayB Lb l t
  · obtain ⟨l, rfl⟩ : ∃ k : Nat, l = (k : Int) := ⟨l.toNat, by have := hm.1; omega⟩
    obtain ⟨Ua, Ub, Tm, h⟩ := h
    refine (rback_yes wr q Ub Lb tb t l hn hm.2.1 hm.2.2.1 hm.2.2.2 h.nb).mono ?_
    rintro e w' ⟨rfl, hb, hr⟩
    rw [show bkL Lb (l : Int) t = Lb.take l by unfold bkL; rw [if_pos hm]; rfl, show bkT Lb tb (l : Int) t = t by unfold bkT; rw [if_pos hm]]
    exact ⟨rfl, h.stepB hb hr⟩
  · rw [show bkL Lb l t = Lb by unfold bkL; rw [if_neg hm], show bkT Lb tb l t = tb by unfold bkT; rw [if_neg hm]]
    have h0 := h
    obtain ⟨Ua, Ub, Tm, h⟩ := h
    refine (rback_no wr q Ub Lb tb l t hm h.nb).mono ?_
    rintro e w' ⟨rfl, hb⟩
    exact ⟨rfl, hb.mono h.sz, But.of_below hb, h0.still hb⟩
theorem Two.partB (h : Two N X wr p q vm La ta Lb tb M) (l t : Int) (hn : (Lb.length : Int) ≤ 1000) :
    Calls Try.prog 20 #[.pointer (some ⟨q, 0, none⟩), .agg #[.int .i64 l, .int .i64 t]] wr fun e w' => ∃ ao cap, e = .returned (.slice ao (ptL Lb l t).length cap) ∧ HasS (fun b => wr.heap.size ≤ b) w' ao (ptL Lb l t) ∧ Below wr.heap.size wr w' := by
  obtain ⟨Ua, Ub, Tm, h⟩ := h
  by_cases hm : mayB Lb l t
  · obtain ⟨l, rfl⟩ : ∃ k : Nat, l = (k : Int) := ⟨l.toNat, by have := hm.1; omega⟩
    refine (rpart_yes wr q Ub Lb tb t l hn hm.2.1 hm.2.2.1 hm.2.2.2 h.nb).mono ?_
    rintro e w' ⟨v, rfl, hw, hb⟩
    rw [show ptL Lb (l : Int) t = partL Lb l by unfold ptL; rw [if_pos hm]; rfl]
    obtain ⟨ao, cap, rfl, _, hs⟩ := hw.nodes
    exact ⟨ao, cap, rfl, hs, hb⟩
  · rw [show ptL Lb l t = [] by unfold ptL; rw [if_neg hm]]
    refine (rpart_no wr q Ub Lb tb l t hm h.nb).mono ?_
    rintro e w' ⟨rfl, hb⟩
    exact ⟨none, 0, rfl, HasS.nil _ _ _, hb⟩
theorem Two.addB (h : Two N X wr p q vm La ta Lb tb M) (P : List Nd) (ao : Option Addr) (cap : Nat) (R : Nat → Prop) (hn : (Lb.length : Int) ≤ 1000) (hm : (P.length : Int) ≤ 1000) (hP : HasS R wr ao P) (hR : ∀ g, g < wr.heap.size → R g → X g) :
    Calls Try.prog 22 #[.pointer (some ⟨q, 0, none⟩), .slice ao P.length cap] wr fun e w' => e = .returned (.tuple #[]) ∧ Below N wr w' ∧ But (Off X) wr w' ∧ Two N X w' p q vm La ta (addL Lb tb P) tb M := by
  obtain ⟨Ua, Ub, Tm, h⟩ := h
  refine (radd_any wr q Ub R Lb P tb ao cap hn hm (fun g hg hr hu => (h.xo g (hR g hg hr)).2.1 hu) hP h.nb).mono ?_
  rintro e w' ⟨rfl, hb, hr⟩
  exact ⟨rfl, h.stepB hb hr⟩
end
theorem two_new (w : World) (N p q : Nat) (w1 w2 : World) (hN : N ≤ w.heap.size) (ha : Ns N (fun _ => False) w1 p [] (-1)) (hb1 : Below w.heap.size w w1) (hq : w1.heap.size ≤ w2.heap.size) (hb2 : Below w1.heap.size w1 w2)
    (hb : Nest 58 w2 q (fun g => w1.heap.size ≤ g ∧ g < w2.heap.size) [] (-1)) : Two N (fun _ => False) w2 p q (.slice none 0 0) [] (-1) [] (-1) [] := by
  obtain ⟨U, hr, h1, h2, h3, h4⟩ := ha
  exact ⟨U, _, fun _ => False, hr.below hb2, hb, Win.nil _ _ _ _, fun g hg hu => by have := hr.lt g hg; omega, fun _ _ h => h, fun _ _ h => h, fun _ h => h.elim, fun _ h => h.elim, fun _ h => h.elim, fun g hg => by
    rcases hg with hg | hg | hg
    · exact h1 g hg
    · omega
    · exact hg.elim, by omega⟩
end Go.Proofs.Ytgpglmponbipbac
