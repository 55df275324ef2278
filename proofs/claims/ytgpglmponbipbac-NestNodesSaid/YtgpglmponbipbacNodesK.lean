/- A nest beside its own nodes' list and the list of what is open. -/
import Derived.Test.YtgpglmponbipbacBack21
namespace Go.Proofs.Ytgpglmponbipbac
set_option linter.unusedVariables false
open Go.RowKit Go.Sort

/-- What is open, the last first. -/
def Stk (L : List Nd) : Int → List Nat → Prop
  | top, [] => top = -1
  | top, t :: S => top = (t : Int) ∧ ∃ x, L[t]? = some x ∧ Stk L x.up S
theorem Stk.snoc {L : List Nd} {y : Nd} : ∀ {S : List Nat} {top : Int}, Stk L top S → Stk (L ++ [y]) top S
  | [], _, h => h
  | t :: S, _, ⟨h1, x, h3, h4⟩ => ⟨h1, x, by rw [List.getElem?_append_left (List.getElem?_eq_some_iff.1 h3).1]; exact h3, h4.snoc⟩
theorem Stk.opened {L : List Nd} {y : Nd} {S : List Nat} {top : Int} (h : Stk L top S) (hy : y.up = top) : Stk (L ++ [y]) (L.length : Int) (L.length :: S) :=
  ⟨rfl, y, by rw [List.getElem?_append_right (Nat.le_refl _)]; simp, by rw [hy]; exact h.snoc⟩
theorem Stk.set {L : List Nd} {s : Nat} {to' : Int} {y : Nd} (hs : L[s]? = some y) : ∀ {S : List Nat} {top : Int}, Stk L top S → Stk (L.set s ⟨y.kd, y.nm, y.fr, to', y.up⟩) top S
  | [], _, h => h
  | t :: S, _, ⟨h1, x, h3, h4⟩ => by
    by_cases e : s = t
    · subst e
      rw [hs] at h3
      cases h3
      exact ⟨h1, _, List.getElem?_set_self (List.getElem?_eq_some_iff.1 hs).1, h4.set hs⟩
    · exact ⟨h1, x, by rw [List.getElem?_set_ne e]; exact h3, h4.set hs⟩
def ints (O : List Nat) : List Value := O.map fun (o : Nat) => Value.int .i64 (o : Int)
def opn (S : List Nat) : List Value := ints S.reverse
theorem opn_cons (t : Nat) (S : List Nat) : opn (t :: S) = opn S ++ [.int .i64 (t : Int)] := by simp [opn, ints]
theorem info_int : (Try.prog.info? 3).map (fun i => (i.zero, i.size, i.bytes)) = some (some (.int .i64 0), 1, 8) := by kernel_rfl
theorem opn_len (S : List Nat) : (opn S).length = S.length := by simp [opn, ints]
theorem opn_last {t s : Nat} {S : List Nat} (h : S.length = s) : (opn (t :: S))[s]? = some (.int .i64 (t : Int)) := by
  rw [opn_cons, List.getElem?_append_right (by rw [opn_len]; omega), opn_len, h]; simp

section
variable {N p : Nat} {X Y T : Nat → Prop} {w w' : World} {L : List Nd} {top : Int}
theorem Ns.other (h : Ns N X w p L top) (hb : But T w w') (hT : ∀ g, T g → X g) (hY : ∀ g, Y g → X g ∨ w.heap.size ≤ g ∧ g < w'.heap.size) : Ns N Y w' p L top := by
  obtain ⟨U, hr, h1, h2, h3, h4⟩ := h
  refine ⟨U, hr.keep hb (fun g hg ht => h2 g hg (hT g ht)), h1, fun g hg hy => ?_, fun g hg => ?_, Nat.le_trans h4 hb.size⟩
  · rcases hY g hy with h5 | h5
    · exact h2 g hg h5
    · have := hr.lt g hg; omega
  · rcases hY g hg with h5 | h5
    · exact Nat.lt_of_lt_of_le (h3 g h5) hb.size
    · exact h5.2
theorem Ns.kept (h : Ns N X w p L top) : ∀ g, X g → g < w.heap.size := by obtain ⟨U, hr, h1, h2, h3, h4⟩ := h; exact h3
end

structure Kn (N : Nat) (w wr : World) (p : Nat) (b4 b5 : Value) (L : List Nd) (top : Int) (S : List Nat) (M : List Nd) (To Tw : Nat → Prop) : Prop where
  ns : Ns N (fun g => To g ∨ Tw g) wr p L top
  wo : Win To 3 1 wr b4 S.length (opn S)
  ww : Win Tw 53 5 wr b5 M.length (rowL M)
  dj : ∀ g, To g → ¬ Tw g
  lo : ∀ g, To g ∨ Tw g → N ≤ g
  bel : Below N w wr
section
variable {N p : Nat} {w wr w1 w2 : World} {b4 b5 v' : Value} {L L' M : List Nd} {top top' : Int} {S : List Nat} {To Tw : Nat → Prop}
theorem Kn.start {p : Nat} (h : Ns N (fun _ => False) wr p [] (-1)) (hb : Below N w wr) : Kn N w wr p (.slice none 0 0) (.slice none 0 0) [] (-1) [] [] (fun _ => False) (fun _ => False) :=
  ⟨h.other (But.refl (fun _ => False) _) (fun _ h => h) (fun g hg => by rcases hg with hg | hg <;> exact hg.elim), Win.nil _ _ _ _, Win.nil _ _ _ _, fun _ h => h.elim, fun g hg => by rcases hg with hg | hg <;> exact hg.elim, hb⟩
theorem Kn.nest (h : Kn N w wr p b4 b5 L top S M To Tw) (hb : Below N wr w1) (hx : But (Off (fun g => To g ∨ Tw g)) wr w1) (hn : Ns N (fun g => To g ∨ Tw g) w1 p L' top') : Kn N w w1 p b4 b5 L' top' S M To Tw :=
  ⟨hn, h.wo.keep hx (fun g _ hg hn => hn (.inl hg)), h.ww.keep hx (fun g _ hg hn => hn (.inr hg)), h.dj, h.lo, h.bel.trans hb⟩
theorem Kn.still (h : Kn N w wr p b4 b5 L top S M To Tw) (hb : Below wr.heap.size wr w1) : Kn N w w1 p b4 b5 L top S M To Tw :=
  ⟨h.ns.below hb, h.wo.below hb, h.ww.below hb, h.dj, h.lo, h.bel.trans (hb.mono h.ns.sz)⟩
theorem Kn.want {y : Nd} {o : Obj} {m : Nat} (h : Kn N w wr p b4 b5 L top S M To Tw) (hm : m = M.length)
    (hw : Win (fun g => Tw g ∨ wr.heap.size + 1 ≤ g) 53 5 w2 v' (m + 1) (rowL M ++ y.row)) (hb : But Tw (wr.alloc o) w2) :
    Kn N w w2 p b4 v' L top S (M ++ [y]) To (fun g => (Tw g ∨ wr.heap.size ≤ g) ∧ g < w2.heap.size) := by
  have h1 : Below wr.heap.size wr (wr.alloc o) := (Below.refl _ _).alloc (Nat.le_refl _) o
  have hs2 := hb.size
  rw [World.size_alloc] at hs2
  have B : But Tw wr w2 := (But.of_below h1).trans hb (fun _ _ h => h)
  have hk := h.ns.kept
  refine ⟨h.ns.other B (fun g hg => .inr hg) (fun g hg => ?_), h.wo.keep B (fun g _ hg ht => h.dj g hg ht), ?_, fun g hg ht => ?_, fun g hg => ?_, h.bel.trans (B.below h.ns.sz (fun g hg => h.lo g (.inr hg)))⟩
  · rcases hg with hg | ⟨hg | hg, h3⟩
    · exact .inl (.inl hg)
    · exact .inl (.inr hg)
    · exact .inr ⟨hg, h3⟩
  · rw [show rowL M ++ y.row = rowL (M ++ [y]) by rw [rowL_append, rowL_one]] at hw
    rw [show (M ++ [y]).length = m + 1 by simp [hm]]
    exact hw.mono fun g hl hg => ⟨hg.imp id (fun h => by omega), hl⟩
  · rcases ht.1 with h3 | h3
    · exact h.dj g hg h3
    · have := hk g (.inl hg); omega
  · rcases hg with hg | ⟨hg | hg, h3⟩
    · exact h.lo g (.inl hg)
    · exact h.lo g (.inr hg)
    · have := h.ns.sz; omega
theorem Kn.opens {t : Nat} {o : Obj} {s : Nat} (h : Kn N w wr p b4 b5 L top S M To Tw) (hm : s = S.length + 1)
    (hw : Win (fun g => To g ∨ wr.heap.size + 1 ≤ g) 3 1 w2 v' s (opn S ++ [.int .i64 (t : Int)])) (hb : But To (wr.alloc o) w2) :
    Kn N w w2 p v' b5 L top (t :: S) M (fun g => (To g ∨ wr.heap.size ≤ g) ∧ g < w2.heap.size) Tw := by
  have h1 : Below wr.heap.size wr (wr.alloc o) := (Below.refl _ _).alloc (Nat.le_refl _) o
  have hs2 := hb.size
  rw [World.size_alloc] at hs2
  have B : But To wr w2 := (But.of_below h1).trans hb (fun _ _ h => h)
  have hk := h.ns.kept
  refine ⟨h.ns.other B (fun g hg => .inl hg) (fun g hg => ?_), ?_, h.ww.keep B (fun g _ hg ht => h.dj g ht hg), fun g hg ht => ?_, fun g hg => ?_, h.bel.trans (B.below h.ns.sz (fun g hg => h.lo g (.inl hg)))⟩
  · rcases hg with ⟨hg | hg, h3⟩ | hg
    · exact .inl (.inl hg)
    · exact .inr ⟨hg, h3⟩
    · exact .inl (.inr hg)
  · rw [← opn_cons] at hw
    rw [show (t :: S).length = s by simp [hm]]
    exact hw.mono fun g hl hg => ⟨hg.imp id (fun h => by omega), hl⟩
  · rcases hg.1 with h3 | h3
    · exact h.dj g h3 ht
    · have := hk g (.inr ht); omega
  · rcases hg with ⟨hg | hg, h3⟩ | hg
    · exact h.lo g (.inl hg)
    · have := h.ns.sz; omega
    · exact h.lo g (.inr hg)
theorem Kn.ends {g off cap t m : Nat} {x : Nd} {to' : Int} (h : Kn N w wr p b4 (.slice (some ⟨g, off, none⟩) m cap) L top S M To Tw) (hm : m = M.length) (hx : M[t]? = some x) (hg : Tw g) :
    Kn N w (wr.setCell ⟨g, off + t * 5 + 3, none⟩ (.int .i64 to')) p b4 (.slice (some ⟨g, off, none⟩) m cap) L top S (M.set t ⟨x.kd, x.nm, x.fr, to', x.up⟩) To Tw := by
  subst hm
  have ht : t < M.length := (List.getElem?_eq_some_iff.1 hx).1
  have B : But Tw wr (wr.setCell ⟨g, off + t * 5 + 3, none⟩ (.int .i64 to')) := (But.refl Tw wr).setCell (p := ⟨g, off + t * 5 + 3, none⟩) (fun _ => hg) (.int .i64 to')
  refine ⟨h.ns.other B (fun g hg => .inr hg) (fun g hg => .inl hg), h.wo.keep B (fun g _ hg ht => h.dj g hg ht), ?_, h.dj, h.lo, h.bel.trans (B.below h.ns.sz (fun g hg => h.lo g (.inr hg)))⟩
  have h3 := h.ww.set (t * 5 + 3) (.int .i64 to') (by omega)
  rw [← Nat.add_assoc] at h3
  rw [List.length_set, ← rowL_set M t x to' hx]
  exact h3
theorem Kn.pop {g off cap t s : Nat} (h : Kn N w wr p (.slice (some ⟨g, off, none⟩) (s + 1) cap) b5 L top (t :: S) M To Tw) (hs : s = S.length) : Kn N w wr p (.slice (some ⟨g, off, none⟩) s cap) b5 L top S M To Tw := by
  subst hs
  refine ⟨h.ns, ?_, h.ww, h.dj, h.lo, h.bel⟩
  have h3 := Win.cut (m := S.length) (n := S.length + 1) h.wo (Nat.le_succ _)
  rw [opn_cons, Nat.mul_one, ← opn_len S, List.take_left, opn_len] at h3
  exact h3
end
end Go.Proofs.Ytgpglmponbipbac
