/- What turns but for a set of blocks; a slice that lies anywhere in a row of the call's own. No program in sight. A strings.Builder that the call itself has made: the walks of its writers. A text in quotation marks: the walks of Text, of the program's and the reference's. -/
import Derived.Test.YtialpofiagiclaaDoorHa
import Derived.OwnWalk
import Derived.ArgAppend
import Derived.Laws.OwnMore
import Derived.Test.YtialpofiagiclaaDoorShelf
import Derived.Test.YtialpofiagiclaaDoorChecked
import Derived.Lib.Builder
import Derived.Lib.AppendStr
import Derived.Lib.UnsafeStr
import Derived.Laws.Externs
import Derived.Handy
import Derived.KernelRfl
import Derived.Test.YtialpofiagiclaaDoorHb
namespace Go.Proofs.YtialpofiagiclaaDoor
set_option linter.unusedVariables false
set_option maxRecDepth 1000000
open Go.RowKit

/-- Nothing but the blocks of S has turned; new ones may have come. -/
structure But (S : Nat → Prop) (w w' : World) : Prop where
  os : w'.os = w.os
  tape : w'.tape = w.tape
  output : w'.output = w.output
  size : w.heap.size ≤ w'.heap.size
  block : ∀ g, g < w.heap.size → ¬ S g → w'.heap[g]? = w.heap[g]?

section
variable {S T : Nat → Prop} {a b c w w' : World}
theorem But.refl (S : Nat → Prop) (w : World) : But S w w := ⟨rfl, rfl, rfl, Nat.le_refl _, fun _ _ _ => rfl⟩
theorem But.trans (h : But S a b) (k : But T b c) (hT : ∀ g, g < a.heap.size → T g → S g) : But S a c :=
  ⟨k.os.trans h.os, k.tape.trans h.tape, k.output.trans h.output, Nat.le_trans h.size k.size,
    fun g hg hs => (k.block g (Nat.lt_of_lt_of_le hg h.size) (fun ht => hs (hT g hg ht))).trans (h.block g hg hs)⟩
theorem But.trans' (h : But (fun _ => False) a b) (k : But T b c) : But T a c := ⟨k.os.trans h.os, k.tape.trans h.tape, k.output.trans h.output, Nat.le_trans h.size k.size,
    fun g hg hs => (k.block g (Nat.lt_of_lt_of_le hg h.size) hs).trans (h.block g hg (fun h => h))⟩
theorem But.of_below (h : Below w.heap.size w w') : But S w w' := ⟨h.os, h.tape, h.output, h.size, fun g hg _ => h.block g hg⟩
theorem But.then_below (h : But S a b) (k : Below b.heap.size b c) : But S a c := h.trans (T := fun _ => False) (But.of_below k) (fun _ _ h => h.elim)
theorem But.below {B : Nat} (h : But S w w') (hB : B ≤ w.heap.size) (hS : ∀ g, S g → B ≤ g) : Below B w w' :=
  ⟨h.os, h.tape, h.output, h.size, fun g hg => h.block g (by omega) (fun hs => by have := hS g hs; omega)⟩
theorem But.mono (h : But S w w') (hS : ∀ g, g < w.heap.size → S g → T g) : But T w w' := ⟨h.os, h.tape, h.output, h.size, fun g hg ht => h.block g hg (fun hs => ht (hS g hg hs))⟩
theorem But.cell {p : Addr} {v : Value} (h : But S w w') (hp : ¬ S p.block) (hc : w.cell? p = some v) : w'.cell? p = some v :=
  (World.cell?_of_block (h.block p.block (World.block_lt_of_cell? w p hc) hp)).trans hc
theorem But.drew (h : But S a w) : But S a w.drew := ⟨h.os, h.tape, h.output, h.size, h.block⟩
theorem But.drewN (h : But S a w) (n : Nat) : But S a (w.drewN n) := ⟨h.os, h.tape, h.output, h.size, h.block⟩
theorem But.alloc (h : But S a w) (o : Obj) : But S a (w.alloc o) := h.then_below ((Below.refl _ _).alloc (Nat.le_refl _) o)
theorem But.setCell (h : But S a w) {p : Addr} (hp : p.block < a.heap.size → S p.block) (u : Value) : But S a (w.setCell p u) :=
  ⟨h.os, h.tape, h.output, by simpa [World.setCell] using h.size, fun g hg hs => (Below.heap_setCell w p u g (fun e => hs (by rw [e] at hg ⊢; exact hp hg))).trans (h.block g hg hs)⟩
theorem But.put (w : World) (p i : Nat) (u : Value) : But (fun g => g = p) w (w.setCell ⟨p, i, none⟩ u) := (But.refl (fun g => g = p) w).setCell (p := ⟨p, i, none⟩) (fun _ => rfl) u
theorem But.grown {row : Option Nat} (h : But S a w) (hg : w.grownBy w' row) (hr : ∀ k, row = some k → k < a.heap.size → S k) : But S a w' :=
  ⟨hg.os.trans h.os, hg.tape.trans h.tape, hg.output.trans h.output, Nat.le_trans h.size hg.size,
    fun g hk hs => (hg.block g (Nat.lt_of_lt_of_le hk h.size) (fun e => hs (hr g e.symm hk))).trans (h.block g hk hs)⟩
theorem Own.but {g : Nat} {t : TypeId} {cs : List Value} (h : Own w g t cs) (hb : But S w w') (hg : ¬ S g) : Own w' g t cs := (hb.block g h.lt hg).trans h
end

/-- The cells of block b from place o on, set one by one: the row behind it. -/
theorem setCells_row (b : Nat) (t : TypeId) : ∀ (vs : List Value) (o : Nat) (w : World) (cur : Array Value), w.heap[b]? = some (.cells cur t (0, 0)) →
    ∃ cur', (w.setCells b o vs).heap[b]? = some (.cells cur' t (0, 0)) ∧ cur'.size = cur.size ∧
      (∀ i, cur'[i]? = if o ≤ i ∧ i < o + vs.length ∧ i < cur.size then vs[i - o]? else cur[i]?) ∧ w.grownBy (w.setCells b o vs) (some b)
  | [], o, w, cur, h => ⟨cur, h, rfl, fun i => by rw [if_neg (by simp; omega)], rfl, rfl, rfl, Nat.le_refl _, fun _ _ _ => rfl⟩
  | v :: r, o, w, cur, h => by
    have h1 := heap_setCell_same w b o cur t v h
    obtain ⟨cur', h2, hs, hi, hg⟩ := setCells_row b t r (o + 1) (w.setCell ⟨b, o, none⟩ v) _ h1
    refine ⟨cur', h2, by rw [hs]; simp, fun i => ?_, hg.os, hg.tape, hg.output, Nat.le_trans (by simp [World.setCell]) hg.size, fun k hk hne => ?_⟩
    · rw [hi i]
      simp only [Array.size_setIfInBounds, List.length_cons]
      by_cases c1 : o + 1 ≤ i ∧ i < o + 1 + r.length ∧ i < cur.size
      · rw [if_pos c1, if_pos (by omega), show i - o = (i - (o + 1)) + 1 by omega, List.getElem?_cons_succ]
      · rw [if_neg c1, Array.getElem?_setIfInBounds]
        by_cases c2 : i = o
        · subst c2
          by_cases c3 : i < cur.size
          · rw [if_pos rfl, if_pos c3, if_pos (by omega)]; simp
          · rw [if_pos rfl, if_neg c3, if_neg (by omega), Array.getElem?_eq_none (by omega)]
        · rw [if_neg (by omega), if_neg (by omega)]
    · have e := hg.block k (by simpa [World.setCell] using hk) hne
      exact e.trans (Below.heap_setCell w _ v k (fun e => hne (by simp at e; rw [e])))

/-- The slice v, of n elements of size cells, holds the cells xs: nil, or anywhere in a row among the blocks of S. -/
def Win (S : Nat → Prop) (e : TypeId) (size : Nat) (w : World) (v : Value) (n : Nat) (xs : List Value) : Prop :=
  xs.length = n * size ∧ ((v = .slice none 0 0 ∧ n = 0) ∨
    ∃ g off cap cur, v = .slice (some ⟨g, off, none⟩) n cap ∧ S g ∧ w.heap[g]? = some (.cells cur e (0, 0)) ∧ n ≤ cap ∧ cap ≤ maxLen ∧ off + cap * size ≤ cur.size ∧ (cur.toList.drop off).take (n * size) = xs)

section
variable {S T : Nat → Prop} {e : TypeId} {size : Nat} {w w' : World} {v : Value} {n : Nat} {xs : List Value}
theorem Win.nil (S : Nat → Prop) (e : TypeId) (size : Nat) (w : World) : Win S e size w (.slice none 0 0) 0 [] := ⟨by simp, .inl ⟨rfl, rfl⟩⟩
theorem Win.of_owns {B : Nat} (h : w.ownsRow B e size v n xs) (hS : ∀ g, B ≤ g → g < w.heap.size → S g) : Win S e size w v n xs := by
  obtain ⟨h1, h2⟩ := h
  refine ⟨h1, ?_⟩
  rcases h2 with h2 | ⟨g, cap, cur, rfl, hg, hh, hn, hc, hs, ht⟩
  · exact .inl h2
  · exact .inr ⟨g, 0, cap, cur, rfl, hS g hg (lt_of_block hh), hh, hn, hc, by omega, by simpa using ht⟩
theorem Win.mono (h : Win S e size w v n xs) (hS : ∀ g, g < w.heap.size → S g → T g) : Win T e size w v n xs := by
  obtain ⟨h1, h2⟩ := h
  refine ⟨h1, ?_⟩
  rcases h2 with h2 | ⟨g, off, cap, cur, hv, hg, hh, r⟩
  · exact .inl h2
  · exact .inr ⟨g, off, cap, cur, hv, hS g (lt_of_block hh) hg, hh, r⟩
theorem Win.keep (h : Win S e size w v n xs) (hb : But T w w') (hd : ∀ g, g < w.heap.size → S g → ¬ T g) : Win S e size w' v n xs := by
  obtain ⟨h1, h2⟩ := h
  refine ⟨h1, ?_⟩
  rcases h2 with h2 | ⟨g, off, cap, cur, hv, hg, hh, r⟩
  · exact .inl h2
  · exact .inr ⟨g, off, cap, cur, hv, hg, (hb.block g (lt_of_block hh) (hd g (lt_of_block hh) hg)).trans hh, r⟩
theorem Win.below (h : Win S e size w v n xs) (hb : Below w.heap.size w w') : Win S e size w' v n xs := h.keep (T := fun _ => False) (But.of_below hb) (fun _ _ _ h => h)
/-- What a walk asks of it. -/
theorem Win.form (h : Win S e size w v n xs) : ∃ ao cap, v = .slice ao n cap ∧ n ≤ cap ∧ (ao = none → n = 0 ∧ cap = 0) ∧ ∀ j, j < n * size → ∃ g off, ao = some ⟨g, off, none⟩ ∧ S g ∧ g < w.heap.size ∧ w.cell? ⟨g, off + j, none⟩ = xs[j]? ∧ w.frozen? ⟨g, off + j, none⟩ = false := by
  obtain ⟨h1, h2⟩ := h
  rcases h2 with ⟨rfl, rfl⟩ | ⟨g, off, cap, cur, rfl, hg, hh, hn, hc, hs, rfl⟩
  · exact ⟨_, _, rfl, Nat.le_refl _, fun _ => ⟨rfl, rfl⟩, fun j hj => by omega⟩
  · refine ⟨_, _, rfl, hn, by simp, fun j hj => ⟨g, off, rfl, hg, lt_of_block hh, ?_, frozen_of_row w g _ cur e hh⟩⟩
    rw [cell_of_row w g _ cur e (0, 0) hh, List.getElem?_take, if_pos hj, List.getElem?_drop]
    simp
/-- One element is stored. -/
theorem Win.set {g off cap : Nat} (h : Win S e size w (.slice (some ⟨g, off, none⟩) n cap) n xs) (j : Nat) (u : Value) (hj : j < n * size) :
    Win S e size (w.setCell ⟨g, off + j, none⟩ u) (.slice (some ⟨g, off, none⟩) n cap) n (xs.set j u) := by
  obtain ⟨h1, h2⟩ := h
  refine ⟨by simpa using h1, ?_⟩
  rcases h2 with ⟨h, _⟩ | ⟨g', off', cap', cur, h, hg, hh, hn, hc, hs, rfl⟩
  · simp at h
  · simp only [Value.slice.injEq, Option.some.injEq, Addr.mk.injEq, and_true, true_and] at h
    obtain ⟨⟨rfl, rfl⟩, rfl⟩ := h
    refine .inr ⟨g, off, cap, _, rfl, hg, heap_setCell_same w g (off + j) cur e u hh, hn, hc, by simpa using hs, ?_⟩
    rw [Array.toList_setIfInBounds, ← List.take_set]
    congr 1
    apply List.ext_getElem?
    intro i
    rw [List.getElem?_drop, List.getElem?_set, List.getElem?_set, List.getElem?_drop]
    by_cases c : j = i
    · subst c
      have : (off + j < cur.size) ↔ (j < cur.size - off) := by omega
      simp [this]
    · rw [if_neg (by omega), if_neg c]
/-- The first element is left out. -/
theorem Win.tail {g off cap n : Nat} (h : Win S e size w (.slice (some ⟨g, off, none⟩) (n + 1) cap) (n + 1) xs) (hc : cap ≠ 1) :
    Win S e size w (.slice (some ⟨g, off + size, none⟩) n (cap - 1)) n (xs.drop size) := by
  obtain ⟨h1, h2⟩ := h
  refine ⟨by rw [List.length_drop, h1, Nat.add_mul]; omega, ?_⟩
  rcases h2 with ⟨h, _⟩ | ⟨g', off', cap', cur, h, hg, hh, hn, hc, hs, rfl⟩
  · simp at h
  · simp only [Value.slice.injEq, Option.some.injEq, Addr.mk.injEq, and_true, true_and] at h
    obtain ⟨⟨rfl, rfl⟩, rfl⟩ := h
    obtain ⟨c, rfl⟩ : ∃ c, cap = c + 1 := ⟨cap - 1, by omega⟩
    refine .inr ⟨g, off + size, c, cur, rfl, hg, hh, by omega, by omega, by rw [Nat.add_mul] at hs; omega, ?_⟩
    rw [Nat.add_mul, Nat.one_mul, Nat.add_comm (n * size) size, List.drop_take, List.drop_drop, Nat.add_sub_cancel_left]
theorem Win.tail_one {g off n : Nat} (h : Win S e size w (.slice (some ⟨g, off, none⟩) (n + 1) 1) (n + 1) xs) :
    n = 0 ∧ Win S e size w (.slice (some ⟨g, off, none⟩) n 0) n (xs.drop size) := by
  obtain ⟨h1, h2⟩ := h
  rcases h2 with ⟨h, _⟩ | ⟨g', off', cap', cur, h, hg, hh, hn, hc, hs, rfl⟩
  · simp at h
  · simp only [Value.slice.injEq, Option.some.injEq, Addr.mk.injEq, and_true, true_and] at h
    obtain ⟨⟨rfl, rfl⟩, rfl⟩ := h
    obtain rfl : n = 0 := by omega
    refine ⟨rfl, by rw [List.length_drop, h1]; omega, .inr ⟨g, off, 0, cur, rfl, hg, hh, Nat.le_refl _, by omega, by omega, ?_⟩⟩
    rw [Nat.zero_mul, List.take_zero, eq_comm]
    apply List.drop_of_length_le
    rw [h1]; omega
end

/-- append, m elements more. -/
theorem wpList_append_win {P : Program} (w : World) {ops : Array Oper} {rest : List Oper} {o : Oper} {a : Act} {Q : Exit → Act → World → Prop}
    (hg : o.guard = none) (s x : Operand) (t : TypeId) (hop : o.op = Op.call { callee := Callee.builtin Builtin.append, args := #[s, x], argTypes := #[t, t] })
    (S : Nat → Prop) (e : TypeId) (i : TypeInfo) (z : Value) (size bytes : Nat) (h1 : P.underlying t = some (.slice e)) (h2 : P.info? e = some i) (h3 : i.zero = some z) (h4 : i.size = size) (h5 : i.bytes = bytes) (h6 : z.cells.size = size) (h7 : 0 < size)
    (v : Value) (n : Nat) (xs : List Value) (hs : a.eval s = v) (hown : Win S e size w v n xs)
    (ad : Addr) (m c : Nat) (news : List Value) (hx : a.eval x = .slice (some ad) m c) (hn : news.length = m * size) (hc : ∀ j u, news[j]? = some u → w.cell? (ad.add j) = some u) (h1c : ∀ u ∈ news, u.oneCell' = true)
    (b1 : n + m ≤ maxLen) (b2 : (n + m) * bytes ≤ 140737488355328)
    (hK : ∀ v' w', Win (fun g => S g ∨ w.heap.size ≤ g) e size w' v' (n + m) (xs ++ news) → But S w w' → wpList P ops Q rest (a.put o.dst v') w') :
    wpList P ops Q (o :: rest) a w := by
  obtain ⟨hl, hcase⟩ := hown
  rcases hcase with ⟨rfl, rfl⟩ | ⟨g, off, cap, cur, rfl, hS, hh, hnc, hcm, hsz, ht⟩
  · refine wpList_append_own w hg s x t hop w.heap.size e i z size bytes h1 h2 h3 h4 h5 h6 h7 _ 0 xs hs ⟨hl, .inl ⟨rfl, rfl⟩⟩ ad m c news hx hn hc h1c b1 b2 (Nat.le_refl _) ?_
    intro v' w' hown' hgrow _
    refine hK v' w' (Win.of_owns hown' fun g hg _ => .inr hg) ((But.refl S w).grown hgrow fun k hk => ?_)
    simp [Value.ownBlock] at hk
  · have hxs : ∀ j u, xs[j]? = some u → w.cell? ⟨g, off + j, none⟩ = some u := fun j u hj => by
      rw [cell_of_row w g _ cur e (0, 0) hh, ← hj, ← ht, List.getElem?_take, if_pos (by
        have := (List.getElem?_eq_some_iff.1 hj).1; omega), List.getElem?_drop]
      simp
    have hroom : n + m ≤ cap → off + n * size + news.length ≤ cur.size := fun hr => by
      have := Nat.mul_le_mul_right size hr
      rw [hn, Nat.add_assoc, ← Nat.add_mul]; omega
    refine wpList_append_arg w hg s x t hop e i z size bytes h1 h2 h3 h4 h5 h6 h7 g off n cap xs hs hl hxs ad m c news hx hn hc h1c ?_ b1 b2 ?_ ?_
    · intro hr j hj
      have := hroom hr
      refine ⟨?_, frozen_of_row w g _ cur e hh⟩
      rw [cell_of_row w g _ cur e (0, 0) hh, Array.getElem?_eq_getElem (by omega)]; rfl
    · intro hr
      have hr2 := hroom hr
      obtain ⟨cur', e1, e2, e3, e4⟩ := setCells_row g e news (off + n * size) w cur hh
      refine hK _ _ ⟨by rw [List.length_append, hl, hn, Nat.add_mul], .inr ⟨g, off, cap, cur', rfl, .inl hS, e1, hr, hcm, by omega, ?_⟩⟩ ((But.refl S w).grown e4 fun k hk _ => by cases hk; exact hS)
      apply List.ext_getElem?
      intro j
      rw [List.getElem?_take, List.getElem?_drop, Array.getElem?_toList, e3]
      by_cases c1 : j < n * size
      · rw [if_pos (by rw [Nat.add_mul]; omega), if_neg (by omega), List.getElem?_append_left (by omega), ← ht, List.getElem?_take, if_pos c1, List.getElem?_drop]; simp
      · by_cases c2 : j < (n + m) * size
        · rw [if_pos c2, List.getElem?_append_right (by omega), if_pos (by rw [Nat.add_mul] at c2; omega)]
          congr 1; omega
        · rw [if_neg c2, List.getElem?_eq_none (by rw [List.length_append, hl, hn, ← Nat.add_mul]; omega)]
    · intro hr v' w' hown' hgrow
      exact hK v' w' (Win.of_owns hown' fun g hg _ => .inr hg) ((But.refl S w).grown hgrow fun k hk => by cases hk)
end Go.Proofs.YtialpofiagiclaaDoor

namespace Go.Proofs.YtialpofiagiclaaDoor
set_option linter.unusedVariables false
set_option maxRecDepth 1000000
open Go.RowKit

theorem info_bld : (Tryd.prog.info? 56).map (·.size) = some 2 := by kernel_rfl
theorem info_byte : (Tryd.prog.info? 5).map (fun i => (i.zero, i.size, i.bytes)) = some (some (.int .u8 0), 1, 1) := by kernel_rfl
theorem lies_bld : liesAt Tryd.prog Tryd.prog.depth 56 (2 / Tryd.prog.cellsOf 56) 0 56 1 = true := by kernel_rfl
/-- The builder at block b, of the call's own from B on, holds the bytes l. -/
def Bld (B b : Nat) (l : List UInt8) (w : World) : Prop := Lib.IsBuilder 56 5 B b (Lib.byteCells l) w

theorem fresh_cells (w : World) (t : TypeId) (cs : List Value) : ∀ j u, cs[j]? = some u → (w.alloc (.cells cs.toArray t)).cell? ((⟨w.heap.size, 0, none⟩ : Addr).add j) = some u := fun j u h => by
  rw [Addr.add_lit, Nat.zero_add, (Own.fresh w t cs).cell j]; exact h
set_option maxHeartbeats 1000000 in
set_option maxRecDepth 100000 in
theorem bcopy_any (B b : Nat) (l : List UInt8) (w : World) (h : Bld B b l w) :
    Calls Tryd.prog 38 #[.pointer (some ⟨b, 0, none⟩)] w
      fun e w' => e = .returned (.tuple #[]) ∧ Lib.BuilderAt 56 5 B b (.pointer (some ⟨b, 0, none⟩)) (Lib.byteCells l) w' ∧ Below B w w' := by
  obtain ⟨j, hj, hjs⟩ := Option.map_eq_some_iff.1 info_bld
  rcases h with h | h
  · have h0 := h.cell0
    have hf := h.frozen0
    have hsh := h.shape
    have H := Lib.hid h
    clear h
    go_enter Tryd.func38, Tryd.ntmps38
    go_wp2
    rw [Lib.run_to_unsafe w ⟨b, 0, none⟩ Tryd.underlying53 Tryd.underlying78 hj (by rw [hjs]; decide) hsh (Nat.zero_lt_succ 1)]
    simp only [Result.andThen]
    rw [Oper.upon_value]
    go_wp2
    rw [run_callFunc_extern Tryd.func53 (by kernel_rfl) (by kernel_rfl) (by kernel_rfl) (e := Extern.AbiNoEscape.same) (by kernel_rfl)]
    rw [Lib.run_noEscape]
    simp only [Result.andThen]
    rw [Oper.upon_value]
    go_wp2
    rw [Lib.run_from_unsafe w ⟨b, 0, none⟩ Tryd.underlying78 Tryd.underlying53 hj hsh lies_bld]
    simp only [Result.andThen]
    rw [Oper.upon_value]
    go_wp2
    go_end0
    exact ⟨rfl, H.out.used _, (Below.refl B w).setCell (p := ⟨b, 0, none⟩) H.out.1 _⟩
  · have h0 := h.cell0
    have H := Lib.hid h
    clear h
    go_enter Tryd.func38, Tryd.ntmps38
    go_wp2
    rw [Lib.run_neq_ptr_same w _ Tryd.underlying53 hj]
    go_wp2
    go_end0
    exact ⟨rfl, H.out, Below.refl _ _⟩

theorem byteCells_snoc (l : List UInt8) (c : UInt8) : Lib.byteCells (l ++ [c]) = Lib.byteCells l ++ [.int .u8 (c.toNat : Int)] := by simp [Lib.byteCells]
theorem byteCells_append (l : List UInt8) (s : ByteArray) : Lib.byteCells (l ++ s.data.toList) = Lib.byteCells l ++ Lib.strCells s := by simp [Lib.byteCells, Lib.strCells]
theorem own_ge {w : World} {B n : Nat} {e : TypeId} {v : Value} {xs : List Value} (h : w.ownsRow B e 1 v n xs) : ∀ k, v.ownBlock = some k → B ≤ k := fun k hk => by
  rcases h.2 with ⟨rfl, _⟩ | ⟨g, cap, cur, rfl, hg, _⟩
  · simp [Value.ownBlock] at hk
  · simp [Value.ownBlock] at hk; omega
theorem own_form {w : World} {B n : Nat} {e : TypeId} {v : Value} {xs : List Value} (h : w.ownsRow B e 1 v n xs) : ∃ ao m cap, v = .slice ao m cap := by
  rcases h.2 with ⟨rfl, _⟩ | ⟨g, cap, cur, rfl, _⟩ <;> exact ⟨_, _, _, rfl⟩
theorem byteCells_len (l : List UInt8) : (Lib.byteCells l).length = l.length := by simp [Lib.byteCells]

set_option maxHeartbeats 1000000 in
set_option maxRecDepth 100000 in
theorem bbyte_any (B b : Nat) (l : List UInt8) (c : UInt8) (w : World) (h : Bld B b l w) (hl : l.length ≤ 1000000) (hB : B ≤ w.heap.size) :
    Calls Tryd.prog 54 #[.pointer (some ⟨b, 0, none⟩), .int .u8 (c.toNat : Int)] w
      fun e w' => e = .returned .nilIface ∧ Bld B b (l ++ [c]) w' ∧ Below B w w' := by
  obtain ⟨i0, hi, hz0, hz1, hz2⟩ := info_parts info_byte
  have IL := Lib.hid (And.intro hi (And.intro hz0 (And.intro hz1 hz2)))
  have H := Lib.hid h
  clear hi hz0 hz1 hz2 h
  obtain ⟨k, hk⟩ : ∃ k : Int, (c.toNat : Int) = k := ⟨_, rfl⟩
  have HK := Lib.hid hk
  rw [hk]
  clear hk
  go_enter Tryd.func54, Tryd.ntmps54
  go_wp2_with fail
  refine (bcopy_any B b l _ H.out).mono ?_
  rintro e w1 ⟨rfl, ⟨hBb, v, hb, hown, hne⟩, hb1⟩
  have hs1 := hb1.size
  have c1 : w1.cell? ⟨b, 1, none⟩ = some v := by rw [Lib.cell_of_heap hb]; rfl
  have f1 : w1.frozen? ⟨b, 1, none⟩ = false := Lib.frozen_of_heap hb 1
  have hlt : b < w1.heap.size := Lib.BuilderAt.lt ⟨hBb, v, hb, hown, hne⟩
  have HB := Lib.hid hb
  have HO := Lib.hid (hown.alloc (.cells #[.int .u8 k] 5))
  have HNE := Lib.hid hne
  have HN := Lib.hid (fresh_cells w1 5 [.int .u8 k])
  have HL := Lib.hid (byteCells_len l)
  have hb1' := Lib.hid hb1
  clear hb hown hne hb1
  go_wp2_with (first
    | (at_builtin; refine wpList_append_own _ rfl _ _ 54 rfl B 5 i0 (.int .u8 0) 1 1 Tryd.underlying54 IL.out.1 IL.out.2.1 IL.out.2.2.1 IL.out.2.2.2 rfl (by decide) v (Lib.byteCells l).length (Lib.byteCells l) rfl HO.out ⟨w1.heap.size, 0, none⟩ 1 1 [.int .u8 k] rfl rfl HN.out (by intro u hu; simp at hu; subst hu; rfl) (by rw [HL.out]; unfold maxLen; omega) (by rw [HL.out]; omega) (by simp; omega) ?_))
  intro v' w2 hown2 hgrow _
  obtain ⟨ao', n', cap', rfl⟩ := own_form hown2
  have hb2 : w2.heap[b]? = some (.cells #[.pointer (some ⟨b, 0, none⟩), v] 56 (0, 0)) := by
    rw [hgrow.block b (by rw [World.size_alloc]; omega) (fun e => HNE.out e.symm)]
    exact (Below.heap_alloc w1 _ b hlt).trans HB.out
  have c2 : w2.cell? ⟨b, 1, none⟩ = some v := by rw [Lib.cell_of_heap hb2]; rfl
  have f2 : w2.frozen? ⟨b, 1, none⟩ = false := Lib.frozen_of_heap hb2 1
  have hlt2 : b < w2.heap.size := by have := hgrow.size; rw [World.size_alloc] at this; omega
  have hbel : Below B w w2 := hb1'.out.trans ((But.grown (S := fun g => B ≤ g) ((But.refl _ w1).alloc _) hgrow (fun k hk _ => own_ge HO.out k hk)).below (by omega) (fun _ h => h))
  have hlen : (Lib.byteCells l).length + 1 = (Lib.byteCells (l ++ [c])).length := by rw [byteCells_len, byteCells_len]; simp
  have hres : w2.ownsRow B 5 1 (.slice ao' n' cap') (Lib.byteCells (l ++ [c])).length (Lib.byteCells (l ++ [c])) := by
    rw [← hlen, byteCells_snoc, HK.out]; exact hown2
  have HR := Lib.hid (Lib.BuilderAt.put hBb hb2 hres (by decide))
  have HBL := Lib.hid hbel
  clear hown2 hgrow hb2 hbel hlen hres c1 f1
  go_wp2
  go_ret
  exact ⟨rfl, .inr HR.out, HBL.out.setCell (p := ⟨b, 1, none⟩) hBb _⟩

set_option maxHeartbeats 1000000 in
set_option maxRecDepth 100000 in
theorem bstr_any (B b : Nat) (l : List UInt8) (s : ByteArray) (w : World) (h : Bld B b l w) (hl : l.length ≤ 1000000) (hs : s.size ≤ 1000000) (hB : B ≤ w.heap.size) :
    Calls Tryd.prog 23 #[.pointer (some ⟨b, 0, none⟩), .string s] w
      fun e w' => e = .returned (.tuple #[.int .i64 (s.size : Int), .nilIface]) ∧ Bld B b (l ++ s.data.toList) w' ∧ Below B w w' := by
  obtain ⟨i0, hi, hz0, hz1, hz2⟩ := info_parts info_byte
  have IL := Lib.hid (And.intro hi (And.intro hz0 (And.intro hz1 hz2)))
  have H := Lib.hid h
  clear hi hz0 hz1 hz2 h
  go_enter Tryd.func23, Tryd.ntmps23
  go_wp2_with fail
  refine (bcopy_any B b l _ H.out).mono ?_
  rintro e w1 ⟨rfl, ⟨hBb, v, hb, hown, hne⟩, hb1⟩
  have hs1 := hb1.size
  have c1 : w1.cell? ⟨b, 1, none⟩ = some v := by rw [Lib.cell_of_heap hb]; rfl
  have f1 : w1.frozen? ⟨b, 1, none⟩ = false := Lib.frozen_of_heap hb 1
  have hlt : b < w1.heap.size := Lib.BuilderAt.lt ⟨hBb, v, hb, hown, hne⟩
  have HB := Lib.hid hb
  have HO := Lib.hid hown
  have HNE := Lib.hid hne
  have HL := Lib.hid (byteCells_len l)
  have hb1' := Lib.hid hb1
  clear hb hown hne hb1
  go_wp2_with (first
    | (at_builtin; refine Lib.wpList_append_own_string _ rfl _ _ 54 9 rfl B 5 i0 Tryd.underlying54 Tryd.underlying9 IL.out.1 IL.out.2.1 IL.out.2.2.1 IL.out.2.2.2 v (Lib.byteCells l).length (Lib.byteCells l) rfl HO.out s rfl (by rw [HL.out]; unfold maxLen; omega) (by rw [HL.out]; omega) (by omega) ?_))
  intro v' w2 hown2 hgrow _
  obtain ⟨ao', n', cap', rfl⟩ := own_form hown2
  have hb2 : w2.heap[b]? = some (.cells #[.pointer (some ⟨b, 0, none⟩), v] 56 (0, 0)) := by
    rw [hgrow.block b (by omega) (fun e => HNE.out e.symm)]
    exact HB.out
  have c2 : w2.cell? ⟨b, 1, none⟩ = some v := by rw [Lib.cell_of_heap hb2]; rfl
  have f2 : w2.frozen? ⟨b, 1, none⟩ = false := Lib.frozen_of_heap hb2 1
  have hlt2 : b < w2.heap.size := by have := hgrow.size; omega
  have hbel : Below B w w2 := hb1'.out.trans ((But.grown (S := fun g => B ≤ g) (But.refl _ w1) hgrow (fun k hk _ => own_ge HO.out k hk)).below (by omega) (fun _ h => h))
  have hlen : (Lib.byteCells l).length + s.size = (Lib.byteCells (l ++ s.data.toList)).length := by rw [byteCells_len, byteCells_len]; simp
  have hres : w2.ownsRow B 5 1 (.slice ao' n' cap') (Lib.byteCells (l ++ s.data.toList)).length (Lib.byteCells (l ++ s.data.toList)) := by
    rw [← hlen, byteCells_append]; exact hown2
  have HR := Lib.hid (Lib.BuilderAt.put hBb hb2 hres (by decide))
  have HBL := Lib.hid hbel
  clear hown2 hgrow hb2 hbel hlen hres c1 f1
  go_wp2
  go_ret2
  exact ⟨rfl, .inr HR.out, HBL.out.setCell (p := ⟨b, 1, none⟩) hBb _⟩
theorem bstring_any (B b : Nat) (l : List UInt8) (w : World) (h : Bld B b l w) (hB : B ≤ w.heap.size) :
    Calls Tryd.prog 25 #[.pointer (some ⟨b, 0, none⟩)] w fun e w' => e = .returned (.string ⟨l.toArray⟩) ∧ Below B w w' := Tryd.Builder_String_any B b l w h hB
theorem bld_new (w : World) : Bld w.heap.size w.heap.size [] (w.alloc (.cells #[.pointer none, .slice none 0 0] 56)) := Lib.fresh_isBuilder _ _ w
end Go.Proofs.YtialpofiagiclaaDoor

namespace Go.Proofs.YtialpofiagiclaaDoor
set_option linter.unusedVariables false
set_option maxRecDepth 1000000
open Go.RowKit

theorem own_below {w w' : World} {B n : Nat} {e : TypeId} {v : Value} {xs : List Value} (h : w.ownsRow B e 1 v n xs) (hb : Below w.heap.size w w') : w'.ownsRow B e 1 v n xs := by
  refine ⟨h.1, ?_⟩
  rcases h.2 with h0 | ⟨g, cap, cur, e1, hg, hh, r⟩
  · exact .inl h0
  · exact .inr ⟨g, cap, cur, e1, hg, (hb.block g (lt_of_block hh)).trans hh, r⟩
theorem Bld.below {B b : Nat} {l : List UInt8} {w w' : World} (h : Bld B b l w) (hb : Below w.heap.size w w') : Bld B b l w' := by
  have key : ∀ {p : Value}, Lib.BuilderAt 56 5 B b p (Lib.byteCells l) w → Lib.BuilderAt 56 5 B b p (Lib.byteCells l) w' := fun h => by
    obtain ⟨hB, v, hh, ho, hn⟩ := h
    exact ⟨hB, v, (hb.block b (lt_of_block hh)).trans hh, own_below ho hb, hn⟩
  rcases h with h | h
  · exact .inl (key h)
  · exact .inr (key h)
theorem ofL_app (l : List UInt8) (t : ByteArray) : ofL l ++ t = ofL (l ++ t.data.toList) := by
  apply bytes_eq
  rw [ByteArray.data_append]
  show (l.toArray ++ t.data).toList = (l ++ t.data.toList).toArray.toList
  simp
theorem ofL_size (l : List UInt8) : (ofL l).size = l.length := by show l.toArray.size = _; simp
theorem wrS_size (sp : ByteArray) (c : Int) : (wrS sp c).size ≤ 4 := by
  unfold wrS
  split
  · rw [strOfNums_size]; simp
  · split
    · decide
    · split
      · decide
      · split
        · rw [strOfNums_size]; simp
        · rw [strOfNums_size]; simp
/-- What is written of the first k bytes. -/
def wrT (s : ByteArray) : Nat → List UInt8
  | 0 => [34]
  | k + 1 => wrT s k ++ (wrS spT (byt s k)).data.toList
theorem wrT_len (s : ByteArray) : ∀ k, (wrT s k).length ≤ 4 * k + 1
  | 0 => Nat.le_refl _
  | k + 1 => by
    have h1 := wrT_len s k
    have h2 := wrS_size spT (byt s k)
    have h3 : (wrS spT (byt s k)).data.toList.length = (wrS spT (byt s k)).size := by simp
    unfold wrT; rw [List.length_append]; omega
def textS (s : ByteArray) : ByteArray := ofL (wrT s s.size ++ [34])
theorem spT_in {c : Int} (h0 : 0 ≤ c) (h1 : c ≤ 255) (h : isSp spT c = true) : 32 ≤ c ∧ c ≤ 126 := by
  rw [isSp_T h0 h1, beq_iff_eq] at h; omega

set_option maxHeartbeats 1600000 in
theorem text_any (s : ByteArray) (hs : s.size ≤ 1000) (w : World) : Calls Tryd.prog 41 #[.string s] w fun e w' => e = .returned (.string (textS s)) ∧ Below w.heap.size w w' := by
  have HN := Lib.hid (bld_new w)
  have HB0 := Lib.hid (show Below w.heap.size w (w.alloc (.cells #[.pointer none, .slice none 0 0] 56)) from (Below.refl _ _).alloc (Nat.le_refl _) _)
  go_enter Tryd.func41, Tryd.ntmps41
  go_wp2_with fail
  refine (bbyte_any w.heap.size w.heap.size [] 34 _ HN.out (by simp) HB0.out.size).mono ?_
  rintro e w1 ⟨rfl, hl1, hb1⟩
  have HL1 := Lib.hid (show Bld w.heap.size w.heap.size (wrT s 0) w1 from hl1)
  have HB1 := Lib.hid (HB0.out.trans hb1)
  clear HN HB0 hl1 hb1
  go_wp2_with fail
  go_loopw [4] (fun b4 wr => ∃ k : Nat, b4 = .int .i64 (k : Int) ∧ k ≤ s.size ∧ Hid (Bld w.heap.size w.heap.size (wrT s k) wr) ∧ Hid (Below w.heap.size w wr)) (fun b4 _ => s.size - (intOf b4).toNat)
  case atStart => exact ⟨0, rfl, Nat.zero_le _, HL1, HB1⟩
  case round =>
    obtain ⟨k, rfl, hk, HL, HB⟩ := hrel
    clear HL1 HB1
    by_cases hlt : k < s.size
    · obtain ⟨x, hx⟩ : ∃ x : Int, (s[k].toNat : Int) = x := ⟨_, rfl⟩
      have HX := Lib.hid (show byt s k = x by rw [byt_get hlt, hx])
      have hx0 := byt_lt s k
      rw [HX.out] at hx0
      obtain ⟨hx0, hx1⟩ := hx0
      have HT := Lib.hid (show wrT s (k + 1) = wrT s k ++ (wrS spT x).data.toList by show wrT s k ++ (wrS spT (byt s k)).data.toList = _; rw [HX.out])
      have HLEN := Lib.hid (wrT_len s k)
      have HSZ := Lib.hid (wrS_size spT x)
      go_wp2_with fail
      refine (written_any spT x hx0 hx1 _).mono ?_
      rintro e w2 ⟨rfl, hb2⟩
      have HL2 := Lib.hid (HL.out.below hb2)
      have HB2 := Lib.hid (keepb HB.out hb2)
      clear hb2 HL HB
      generalize wrS spT x = t at *
      go_wp2_with fail
      refine (bstr_any w.heap.size w.heap.size (wrT s k) t _ HL2.out (by have := HLEN.out; omega) (by have := HSZ.out; omega) HB2.out.size).mono ?_
      rintro e w3 ⟨rfl, hl3, hb3⟩
      have HL3 := Lib.hid (show Bld w.heap.size w.heap.size (wrT s (k + 1)) w3 by rw [HT.out]; exact hl3)
      have HB3 := Lib.hid (HB2.out.trans hb3)
      clear hl3 hb3 HL2 HB2
      go_wp2
      go_roundw
      case rel => exact ⟨k + 1, by go_num, by omega, HL3, HB3⟩
      case measure => simp [intOf]; omega
    · obtain rfl : k = s.size := by omega
      have HLEN := Lib.hid (wrT_len s s.size)
      go_wp2_with fail
      refine (bbyte_any w.heap.size w.heap.size (wrT s s.size) 34 _ HL.out (by have := HLEN.out; omega) HB.out.size).mono ?_
      rintro e w2 ⟨rfl, hl2, hb2⟩
      have HL2 := Lib.hid hl2
      have HB2 := Lib.hid (HB.out.trans hb2)
      clear hl2 hb2 HL HB
      go_wp2_with fail
      refine (bstring_any w.heap.size w.heap.size (wrT s s.size ++ [34]) _ HL2.out HB2.out.size).mono ?_
      rintro e w3 ⟨rfl, hb3⟩
      go_wp2
      go_ret
      exact ⟨rfl, HB2.out.trans hb3⟩
set_option maxHeartbeats 1600000 in
theorem rtext_any (s : ByteArray) (hs : s.size ≤ 1000) (w : World) : Calls Tryd.prog 45 #[.string s] w fun e w' => e = .returned (.string (textS s)) ∧ Below w.heap.size w w' := by
  have HB0 := Lib.hid (Below.refl w.heap.size w)
  go_enter Tryd.func45, Tryd.ntmps45
  go_wp2_with fail
  go_loopw [3, 4] (fun b3 b4 wr => ∃ k : Nat, b4 = .int .i64 (k : Int) ∧ k ≤ s.size ∧ b3 = .string (ofL (wrT s k)) ∧ Hid (Below w.heap.size w wr)) (fun _ b4 _ => s.size - (intOf b4).toNat)
  case atStart => exact ⟨0, rfl, Nat.zero_le _, rfl, HB0⟩
  case round =>
    obtain ⟨k, rfl, hk, rfl, HB⟩ := hrel
    clear HB0
    by_cases hlt : k < s.size
    · obtain ⟨x, hx⟩ : ∃ x : Int, (s[k].toNat : Int) = x := ⟨_, rfl⟩
      have HX := Lib.hid (show byt s k = x by rw [byt_get hlt, hx])
      have hx0 := byt_lt s k
      rw [HX.out] at hx0
      obtain ⟨hx0, hx1⟩ := hx0
      have HT := Lib.hid (show ofL (wrT s (k + 1)) = ofL (wrT s k) ++ wrS spT x by rw [ofL_app]; show ofL (wrT s k ++ (wrS spT (byt s k)).data.toList) = _; rw [HX.out])
      have HC := Lib.hid (fun W => qletter_any spT (by decide) x hx0 hx1 (spT_in hx0 hx1) W)
      go_wp2_with fail
      refine (HC.out _).mono ?_
      rintro e w2 ⟨rfl, hb2⟩
      have HB2 := Lib.hid (keepb HB.out hb2)
      clear hb2 HB
      have hu : (ofL (wrT s k)).size ≤ 100000 := by rw [ofL_size]; have := wrT_len s k; omega
      have ht := wrS_size spT x
      generalize wrS spT x = t at *
      generalize ofL (wrT s k) = u at *
      go_wp2
      go_roundw
      case rel => exact ⟨k + 1, by go_num, by omega, by rw [HT.out], HB2⟩
      case measure => simp [intOf]; omega
    · obtain rfl : k = s.size := by omega
      have HE := Lib.hid (show ofL (wrT s s.size) ++ ⟨#[34]⟩ = textS s from ofL_app _ _)
      have hu : (ofL (wrT s s.size)).size ≤ 100000 := by rw [ofL_size]; have := wrT_len s s.size; omega
      generalize ofL (wrT s s.size) = u at *
      go_wp2
      go_ret
      exact ⟨ret_str HE.out, HB.out⟩
end Go.Proofs.YtialpofiagiclaaDoor
