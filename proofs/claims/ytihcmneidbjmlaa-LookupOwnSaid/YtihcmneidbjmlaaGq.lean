/- append onto a row of the call's own, of whatever source: a slice, nil, a string. No program in sight. append as an operation of a region, where a condition is held; blocks of eleven cells. No program in sight. A sign and a name, whatever stands; the head's parts; names in memory. A condition that is held up to a region's last store: what is loaded may be taken first, though the store hits it. No program in sight. -/
import Derived.Test.YtihcmneidbjmlaaSteps
import Derived.Deep.AppendSrc
import Derived.Test.YtihcmneidbjmlaaHeld3
import Derived.Test.YtihcmneidbjmlaaGn
import Derived.Test.YtihcmneidbjmlaaPaD
namespace Go.Proofs.Ytihcmneidbjmlaa
set_option linter.unusedVariables false
open Go.RowKit

theorem run_append_src {P : Program} (w : World) (t tx ty : TypeId)
    (S : Nat → Prop) (e : TypeId) (i : TypeInfo) (z : Value) (size bytes : Nat) (h1 : P.underlying t = some (.slice e)) (h2 : P.info? e = some i) (h3 : i.zero = some z) (h4 : i.size = size) (h5 : i.bytes = bytes) (h6 : z.cells.size = size) (h7 : 0 < size)
    (v : Value) (n : Nat) (xs : List Value) (hown : Win S e size w v n xs)
    (x : Value) (m : Nat) (news : List Value) (hs : Src P size tx x m news w)
    (b1 : n + m ≤ maxLen) (b2 : (n + m) * bytes ≤ 140737488355328) :
    ∃ v' w', (Builtin.append_ #[t, tx] ty #[v, x]).run P w = .ok v' w' ∧ Win (fun g => S g ∨ w.heap.size ≤ g) e size w' v' (n + m) (xs ++ news) ∧ But S w w' := by
  subst h4
  subst h5
  obtain ⟨hl, hcase⟩ := hown
  have hn := hs.newsLen
  have hsmall : n + m ≤ 9223372036854775807 := by simp only [maxLen] at b1; omega
  have hlen : (xs ++ news).length = (n + m) * i.size := by rw [List.length_append, hl, hn, Nat.add_mul]
  have grow : ∀ (base : Option Addr) (cap : Nat), (Builtin.firstCells i.size n (.slice base n cap)).run P w.drew = .ok xs.toArray w.drew → cap < n + m →
      ∃ v' w', (Builtin.append_ #[t, tx] ty #[.slice base n cap, x]).run P w = .ok v' w' ∧ Win (fun g => S g ∨ w.heap.size ≤ g) e i.size w' v' (n + m) (xs ++ news) ∧ But S w w' := by
    intro base cap hold hg
    have hge := grownCap_ge w (n + m) cap e
    have hcm : grownCap w (n + m) cap e ≤ maxLen := grownCap_le_maxLen w (n + m) cap e b1
    have hr := run_append_grow_src (P := P) w t tx ty e i z h1 h2 h3 base n cap xs hold x m news hs hg (by omega) (growslice_fits hg b2)
    refine ⟨_, _, hr, ⟨hlen, .inr ⟨w.heap.size, 0, _, _, rfl, .inr (Nat.le_refl _), heap_alloc_new w.drew _, hge, hcm, ?_, ?_⟩⟩, ((But.refl S w).drew).alloc _⟩
    · simp only [Array.size_append, List.size_toArray, size_zeroCells, h6, hl, hn, List.length_append, ← Nat.add_mul]
      rw [Nat.zero_add]
      exact Nat.mul_le_mul_right _ (by omega)
    · simp only [Array.toList_append, List.append_assoc, List.drop_zero]
      rw [← List.append_assoc, ← hlen]
      exact List.take_left
  rcases hcase with ⟨rfl, rfl⟩ | ⟨g, off, cap, cur, rfl, hS, hh, hnc, hcm, hsz, ht⟩
  · have hx0 : xs = [] := List.eq_nil_of_length_eq_zero (by omega)
    subst hx0
    by_cases hm : m = 0
    · subst hm
      have hnews : news = [] := List.eq_nil_of_length_eq_zero (by omega)
      subst hnews
      refine ⟨.slice none 0 0, w, ?_, ⟨by simp, .inl ⟨rfl, rfl⟩⟩, But.refl S w⟩
      rcases hs.kind with ⟨e', hk⟩ | hk <;> simp [Builtin.append_, run_underlying h1, run_underlying hk, sizeOf, typeInfo, h2, hs.len, hs.cells]
    · exact grow none 0 (run_firstCells_none w.drew i.size 0 0 0) (by omega)
  · have hxs : ∀ j u, xs[j]? = some u → w.cell? ⟨g, off + j, none⟩ = some u := fun j u hj => by
      rw [cell_of_row w g _ cur e (0, 0) hh, ← hj, ← ht, List.getElem?_take, if_pos (by
        have := (List.getElem?_eq_some_iff.1 hj).1; omega), List.getElem?_drop]
      simp
    by_cases hr : n + m ≤ cap
    · have hr2 : off + n * i.size + news.length ≤ cur.size := by
        have := Nat.mul_le_mul_right i.size hr
        rw [hn, Nat.add_assoc, ← Nat.add_mul]; omega
      have hrun := run_append_room_src (P := P) w t tx ty e i h1 h2 g off n cap x m news hs hr
        (fun j hj => by rw [cell_of_row w g _ cur e (0, 0) hh, Array.getElem?_eq_getElem (by omega)]; rfl) (fun j hj => frozen_of_row w g _ cur e hh)
      obtain ⟨cur', e1, e2, e3, e4⟩ := setCells_row g e news (off + n * i.size) w cur hh
      refine ⟨_, _, hrun, ⟨hlen, .inr ⟨g, off, cap, cur', rfl, .inl hS, e1, hr, hcm, by omega, ?_⟩⟩, (But.refl S w).grown e4 fun k hk _ => by cases hk; exact hS⟩
      apply List.ext_getElem?
      intro j
      rw [List.getElem?_take, List.getElem?_drop, Array.getElem?_toList, e3]
      by_cases c1 : j < n * i.size
      · rw [if_pos (by rw [Nat.add_mul]; omega), if_neg (by omega), List.getElem?_append_left (by omega), ← ht, List.getElem?_take, if_pos c1, List.getElem?_drop]; simp
      · by_cases c2 : j < (n + m) * i.size
        · rw [if_pos c2, List.getElem?_append_right (by omega), if_pos (by rw [Nat.add_mul] at c2; omega)]
          congr 1; omega
        · rw [if_neg c2, List.getElem?_eq_none (by rw [hlen]; omega)]
    · exact grow (some ⟨g, off, none⟩) cap (run_firstCells_some w.drew i.size n ⟨g, off, none⟩ n cap xs hl (fun j u hj => by rw [Addr.add_lit]; simpa using hxs j u hj)) (by omega)

theorem wpList_append_src {P : Program} (w : World) {ops : Array Oper} {rest : List Oper} {o : Oper} {a : Act} {Q : Exit → Act → World → Prop}
    (hg : o.guard = none) (s x : Operand) (t tx : TypeId) (hop : o.op = Op.call { callee := Callee.builtin Builtin.append, args := #[s, x], argTypes := #[t, tx] })
    (S : Nat → Prop) (e : TypeId) (i : TypeInfo) (z : Value) (size bytes : Nat) (h1 : P.underlying t = some (.slice e)) (h2 : P.info? e = some i) (h3 : i.zero = some z) (h4 : i.size = size) (h5 : i.bytes = bytes) (h6 : z.cells.size = size) (h7 : 0 < size)
    (v : Value) (n : Nat) (xs : List Value) (hs : a.eval s = v) (hown : Win S e size w v n xs)
    (u : Value) (m : Nat) (news : List Value) (hx : a.eval x = u) (hsrc : Src P size tx u m news w)
    (b1 : n + m ≤ maxLen) (b2 : (n + m) * bytes ≤ 140737488355328)
    (hK : ∀ v' w', Win (fun g => S g ∨ w.heap.size ≤ g) e size w' v' (n + m) (xs ++ news) → But S w w' → wpList P ops Q rest (a.put o.dst v') w') :
    wpList P ops Q (o :: rest) a w := by
  refine wpList_plain hg fun K hK' => ?_
  obtain ⟨v', w', hr, r1, r2⟩ := run_append_src (P := P) w t tx o.type S e i z size bytes h1 h2 h3 h4 h5 h6 h7 v n xs hown u m news hsrc b1 b2
  unfold Oper.wp
  simp [execOp, hop, resolve, invoke, builtin, hs, hx, hr, Result.andThen]
  exact hK' _ _ (hK v' w' r1 r2)
/-- append of whatever source, as one step. -/
theorem step_append_src {P : Program} {ops : Array Oper} {o : Oper} {a : Act} {w : World} {K : Act → World → Prop} {Q : Exit → Act → World → Prop} {E : Prop}
    (hg : o.guard = none) (s x : Operand) (t tx : TypeId) (hop : o.op = Op.call { callee := Callee.builtin Builtin.append, args := #[s, x], argTypes := #[t, tx] })
    (S : Nat → Prop) (e : TypeId) (i : TypeInfo) (z : Value) (size bytes : Nat) (h1 : P.underlying t = some (.slice e)) (h2 : P.info? e = some i) (h3 : i.zero = some z) (h4 : i.size = size) (h5 : i.bytes = bytes) (h6 : z.cells.size = size) (h7 : 0 < size)
    (v : Value) (n : Nat) (xs : List Value) (hs : a.eval s = v) (hown : Win S e size w v n xs)
    (u : Value) (m : Nat) (news : List Value) (hx : a.eval x = u) (hsrc : Src P size tx u m news w)
    (b1 : n + m ≤ maxLen) (b2 : (n + m) * bytes ≤ 140737488355328)
    (hK : ∀ v' w', Win (fun g => S g ∨ w.heap.size ≤ g) e size w' v' (n + m) (xs ++ news) → But S w w' → K (a.put o.dst v') w') :
    if Region.wanted o (yielded ops a.tmps) = true then Oper.wp P o a w K Q else E := by
  have hw : Region.wanted o (yielded ops a.tmps) = true := by simp [Region.wanted, hg]
  rw [if_pos hw]
  obtain ⟨v', w', hrun, r1, r2⟩ := run_append_src (P := P) w t tx o.type S e i z size bytes h1 h2 h3 h4 h5 h6 h7 v n xs hown u m news hsrc b1 b2
  unfold Oper.wp
  simp [execOp, hop, resolve, invoke, builtin, hs, hx, hrun, Result.andThen]
  exact hK v' w' r1 r2
end Go.Proofs.Ytihcmneidbjmlaa

namespace Go.Proofs.Ytihcmneidbjmlaa
set_option linter.unusedVariables false
open Go.RowKit
section
variable {P : Program} {ops : Array Oper} {Q : Exit → Act → World → Prop}
theorem op_appendn {i' : Nat} {o : Oper} {a : Act} {w : World} {K : Act → World → Prop} (ei : ops[i']? = some o) (hg : Region.wanted o (yielded ops a.tmps) = true) (s x : Operand) (t tx : TypeId)
    (hop : o.op = Op.call { callee := Callee.builtin Builtin.append, args := #[s, x], argTypes := #[t, tx] })
    (S : Nat → Prop) (e : TypeId) (i : TypeInfo) (z : Value) (size bytes : Nat) (h1 : P.underlying t = some (.slice e)) (h2 : P.info? e = some i) (h3 : i.zero = some z) (h4 : i.size = size) (h5 : i.bytes = bytes) (h6 : z.cells.size = size) (h7 : 0 < size)
    (v : Value) (n : Nat) (xs : List Value) (hs : a.eval s = v) (hown : Win S e size w v n xs)
    (u : Value) (m : Nat) (news : List Value) (hx : a.eval x = u) (hsrc : Src P size tx u m news w)
    (b1 : n + m ≤ maxLen) (b2 : (n + m) * bytes ≤ 140737488355328)
    (hK : ∀ v' w', Win (fun g => S g ∨ w.heap.size ≤ g) e size w' v' (n + m) (xs ++ news) → But S w w' → K (a.put o.dst v') w') : wpOp P ops Q i' K a w := by
  unfold wpOp
  rw [ei]
  simp only []
  rw [if_pos hg]
  obtain ⟨v', w', hrun, r1, r2⟩ := run_append_src (P := P) w t tx o.type S e i z size bytes h1 h2 h3 h4 h5 h6 h7 v n xs hown u m news hsrc b1 b2
  left
  unfold Oper.wp
  simp [execOp, hop, resolve, invoke, builtin, hs, hx, hrun, Result.andThen]
  exact hK v' w' r1 r2
end
theorem Win.one {w : World} {B : Nat} {e : TypeId} {size : Nat} {cs : List Value} (h : Own w B e cs) (hl : cs.length = size) : Win (fun b => b = B) e size w (.slice (some ⟨B, 0, none⟩) 1 1) 1 cs :=
  ⟨by omega, .inr ⟨B, 0, 1, _, rfl, rfl, h, Nat.le_refl _, by unfold maxLen; omega, by simp; omega, by rw [Nat.one_mul, ← hl]; simp⟩⟩
section
variable {w : World} {g : Nat} {t : TypeId} {v0 v1 v2 v3 v4 v5 v6 v7 v8 v9 vA : Value}
theorem Own.elev (h : Own w g t [v0, v1, v2, v3, v4, v5, v6, v7, v8, v9, vA]) :
    w.cell? ⟨g, 0, none⟩ = some v0 ∧ w.cell? ⟨g, 1, none⟩ = some v1 ∧ w.cell? ⟨g, 2, none⟩ = some v2 ∧ w.cell? ⟨g, 3, none⟩ = some v3 ∧ w.cell? ⟨g, 4, none⟩ = some v4 ∧ w.cell? ⟨g, 5, none⟩ = some v5 ∧ w.cell? ⟨g, 6, none⟩ = some v6 ∧ w.cell? ⟨g, 7, none⟩ = some v7 ∧ w.cell? ⟨g, 8, none⟩ = some v8 ∧ w.cell? ⟨g, 9, none⟩ = some v9 ∧ w.cell? ⟨g, 10, none⟩ = some vA :=
  ⟨h.cell 0, h.cell 1, h.cell 2, h.cell 3, h.cell 4, h.cell 5, h.cell 6, h.cell 7, h.cell 8, h.cell 9, h.cell 10⟩
theorem Own.elevf (h : Own w g t [v0, v1, v2, v3, v4, v5, v6, v7, v8, v9, vA]) :
    w.frozen? ⟨g, 0, none⟩ = false ∧ w.frozen? ⟨g, 1, none⟩ = false ∧ w.frozen? ⟨g, 2, none⟩ = false ∧ w.frozen? ⟨g, 3, none⟩ = false ∧ w.frozen? ⟨g, 4, none⟩ = false ∧ w.frozen? ⟨g, 5, none⟩ = false ∧ w.frozen? ⟨g, 6, none⟩ = false ∧ w.frozen? ⟨g, 7, none⟩ = false ∧ w.frozen? ⟨g, 8, none⟩ = false ∧ w.frozen? ⟨g, 9, none⟩ = false ∧ w.frozen? ⟨g, 10, none⟩ = false :=
  ⟨h.thaw 0, h.thaw 1, h.thaw 2, h.thaw 3, h.thaw 4, h.thaw 5, h.thaw 6, h.thaw 7, h.thaw 8, h.thaw 9, h.thaw 10⟩
def setEl (w : World) (g : Nat) (u0 u1 u2 u3 u4 u5 u6 u7 u8 u9 uA : Value) : World :=
  ((((((((((w.setCell ⟨g, 0, none⟩ u0).setCell ⟨g, 1, none⟩ u1).setCell ⟨g, 2, none⟩ u2).setCell ⟨g, 3, none⟩ u3).setCell ⟨g, 4, none⟩ u4).setCell ⟨g, 5, none⟩ u5).setCell ⟨g, 6, none⟩ u6).setCell ⟨g, 7, none⟩ u7).setCell ⟨g, 8, none⟩ u8).setCell ⟨g, 9, none⟩ u9).setCell ⟨g, 10, none⟩ uA
theorem setEl_fold (w : World) (g : Nat) (u0 u1 u2 u3 u4 u5 u6 u7 u8 u9 uA : Value) :
  ((((((((((w.setCell ⟨g, 0, none⟩ u0).setCell ⟨g, 1, none⟩ u1).setCell ⟨g, 2, none⟩ u2).setCell ⟨g, 3, none⟩ u3).setCell ⟨g, 4, none⟩ u4).setCell ⟨g, 5, none⟩ u5).setCell ⟨g, 6, none⟩ u6).setCell ⟨g, 7, none⟩ u7).setCell ⟨g, 8, none⟩ u8).setCell ⟨g, 9, none⟩ u9).setCell ⟨g, 10, none⟩ uA = setEl w g u0 u1 u2 u3 u4 u5 u6 u7 u8 u9 uA := rfl
theorem Own.putEl (h : Own w g t [v0, v1, v2, v3, v4, v5, v6, v7, v8, v9, vA]) (u0 u1 u2 u3 u4 u5 u6 u7 u8 u9 uA : Value) : Own (setEl w g u0 u1 u2 u3 u4 u5 u6 u7 u8 u9 uA) g t [u0, u1, u2, u3, u4, u5, u6, u7, u8, u9, uA] :=
  ((((((((((h.put 0 u0).put 1 u1).put 2 u2).put 3 u3).put 4 u4).put 5 u5).put 6 u6).put 7 u7).put 8 u8).put 9 u9).put 10 uA
theorem But.setEl (w : World) (g : Nat) (u0 u1 u2 u3 u4 u5 u6 u7 u8 u9 uA : Value) : But (fun j => j = g) w (setEl w g u0 u1 u2 u3 u4 u5 u6 u7 u8 u9 uA) :=
  (((((((((((But.refl (fun j => j = g) w).setCell (p := ⟨g, 0, none⟩) (fun _ => rfl) u0).setCell (p := ⟨g, 1, none⟩) (fun _ => rfl) u1).setCell (p := ⟨g, 2, none⟩) (fun _ => rfl) u2).setCell (p := ⟨g, 3, none⟩) (fun _ => rfl) u3).setCell (p := ⟨g, 4, none⟩) (fun _ => rfl) u4).setCell (p := ⟨g, 5, none⟩) (fun _ => rfl) u5).setCell (p := ⟨g, 6, none⟩) (fun _ => rfl) u6).setCell (p := ⟨g, 7, none⟩) (fun _ => rfl) u7).setCell (p := ⟨g, 8, none⟩) (fun _ => rfl) u8).setCell (p := ⟨g, 9, none⟩) (fun _ => rfl) u9).setCell (p := ⟨g, 10, none⟩) (fun _ => rfl) uA
end
end Go.Proofs.Ytihcmneidbjmlaa

namespace Go.Proofs.Ytihcmneidbjmlaa
set_option linter.unusedVariables false
open Go.RowKit Go.Sort

def sgG (L : List Tok) (s : List UInt8) (k : Nat) : Option Ft2 → Nat × Option Ft2
  | none => sgnE L s k (sgnO L s k)
  | some f => (k, some f)
theorem p_sign_g (s : ByteArray) (g : Nat) (lo : Option Addr) (lc : Nat) (L : List Tok) (k : Nat) (F : Option Ft2) (hn : (L.length : Int) ≤ 90000) (hk : k < L.length) (w : World) (h : Pd w g lo lc L k F) :
    Calls Try.prog 34 #[.pointer (some ⟨g, 0, none⟩), .string s] w fun e w' => e = .returned (.tuple #[]) ∧ But (fun j => j = g) w w' ∧ Pd w' g lo lc L (sgG L s.data.toList k F).1 (sgG L s.data.toList k F).2 := by
  cases F with
  | none => exact p_sign s g lo lc L k hn hk w h
  | some f => exact p_sign_x s g lo lc L k f hn hk w h
def nmG (k : Nat) : Except Ft2 (ByteArray × Nat) → ByteArray × Nat × Option Ft2
  | .ok (x, m) => (x, m, none)
  | .error f => (⟨#[]⟩, k, some f)
theorem p_name_g (l : List ByteArray) (ao : Option Addr) (cap : Nat) (hl : (l.length : Int) ≤ 90000) (g : Nat) (lo : Option Addr) (lc : Nat) (L : List Tok) (k : Nat) (hn : (L.length : Int) ≤ 90000) (hk : k < L.length) (htx : ∀ t ∈ L, t.tx.size ≤ 1000000) (w : World) (h : Pd w g lo lc L k none) (hN : HasN w ao l) :
    Calls Try.prog 26 #[.pointer (some ⟨g, 0, none⟩), .slice ao l.length cap] w fun e w' => e = .returned (.string (nmG k (nmeO L l k)).1) ∧ Pd w' g lo lc L (nmG k (nmeO L l k)).2.1 (nmG k (nmeO L l k)).2.2 ∧ But (fun j => j = g) w w' := by
  refine (p_name l ao cap hl g lo lc L k hn hk htx w h hN).mono fun e w' ⟨h1, h2⟩ => ?_
  cases hr : nmeO L l k with
  | ok p =>
    obtain ⟨x, m⟩ := p
    rw [hr] at h1
    exact ⟨h1.1, h1.2, h2⟩
  | error f =>
    rw [hr] at h1
    exact ⟨h1.1, h1.2, h2⟩
theorem sgG_be {NN : Nat} {L : List Tok} (HN : ∀ k, (tkA L k).kd ≠ 0 → k < NN) {s : List UInt8} {k : Nat} {F : Option Ft2} (hk : k ≤ NN) : (sgG L s k F).1 ≤ NN := by
  cases F with
  | some f => exact hk
  | none =>
    show (sgnE L s k (sgnO L s k)).1 ≤ NN
    cases h : sgnO L s k with
    | error f => exact hk
    | ok m => exact (sgnO_be HN h).2
theorem nmeO_be {NN : Nat} {L : List Tok} (HN : ∀ k, (tkA L k).kd ≠ 0 → k < NN) {l : List ByteArray} {k m : Nat} {x : ByteArray} (h : nmeO L l k = .ok (x, m)) : m = k + 1 ∧ m ≤ NN := by
  unfold nmeO at h
  split at h
  · rename_i hw
    split at h
    · cases h
    · injection h with h
      injection h with _ h
      subst h
      rw [Bool.and_eq_true, beq_iff_eq] at hw
      exact ⟨rfl, HN k (by rw [hw.1]; decide)⟩
  · cases h
theorem nmG_be {NN : Nat} {L : List Tok} (HN : ∀ k, (tkA L k).kd ≠ 0 → k < NN) {l : List ByteArray} {k : Nat} (hk : k ≤ NN) : (nmG k (nmeO L l k)).2.1 ≤ NN := by
  cases h : nmeO L l k with
  | error f => exact hk
  | ok p =>
    obtain ⟨x, m⟩ := p
    exact (nmeO_be HN h).2
theorem wdB_be {NN : Nat} {L : List Tok} (HN : ∀ k, (tkA L k).kd ≠ 0 → k < NN) {k kd : Nat} {s : List UInt8} (hd : kd ≠ 0) (h : wdB L k kd s = true) : k + 1 ≤ NN := by
  unfold wdB at h
  rw [Bool.and_eq_true, beq_iff_eq] at h
  exact HN k (by rw [h.1]; exact hd)
/-- Where a name and a sign behind it lead: to R of the name and the place behind, or to the fault. -/
def thenQ (L : List Tok) (r : Except Ft2 (ByteArray × Nat)) (R : ByteArray → Nat → Except Ft2 (Md × Nat)) : Except Ft2 (Md × Nat) := match r with
  | .error e => .error e
  | .ok (x, k) => match sgnO L [59] k with
    | .error e => .error e
    | .ok k1 => R x k1
def InQ (RES : Except Ft2 (Md × Nat)) (R : ByteArray → Nat → Except Ft2 (Md × Nat)) (x : ByteArray) (k : Nat) : Option Ft2 → Prop
  | none => RES = R x k
  | some f => RES = .error f
theorem thenQ_in {L : List Tok} {k : Nat} {r : Except Ft2 (ByteArray × Nat)} {R : ByteArray → Nat → Except Ft2 (Md × Nat)} {RES : Except Ft2 (Md × Nat)} (h : RES = thenQ L r R) :
    InQ RES R (nmG k r).1 (sgG L [59] (nmG k r).2.1 (nmG k r).2.2).1 (sgG L [59] (nmG k r).2.1 (nmG k r).2.2).2 := by
  subst h
  cases r with
  | error f => rfl
  | ok p =>
    obtain ⟨x, m⟩ := p
    show InQ (match sgnO L [59] m with | .error e => .error e | .ok k1 => R x k1) R x (sgnE L [59] m (sgnO L [59] m)).1 (sgnE L [59] m (sgnO L [59] m)).2
    cases h : sgnO L [59] m with
    | error f => rfl
    | ok k1 => rfl
def hdT (L : List Tok) (nm : ByteArray) : Except Ft2 (List ByteArray × Nat) → Except Ft2 (Md × Nat)
  | .error e => .error e
  | .ok (im, k) => watO L nm im k
theorem hedO_q (L : List Tok) : hedO L = if wdB L 0 1 [109, 111, 100, 117, 108, 101] = true then thenQ L (nmeO L [] 1) (fun nm k => hdT L nm (impL L nm (L.length + 1) [] k)) else .error (faultAt L 2 0) := by
  unfold hedO thenQ
  split
  · cases nmeO L [] 1 with
    | error e => rfl
    | ok p =>
      obtain ⟨x, m⟩ := p
      show (match sgnO L [59] m with | .error e => Except.error e | .ok k1 => (match impL L x (L.length + 1) [] k1 with | .error e => Except.error e | .ok (im, k2) => watO L x im k2)) = (match sgnO L [59] m with | .error e => Except.error e | .ok k1 => hdT L x (impL L x (L.length + 1) [] k1))
      cases sgnO L [59] m with
      | error e => rfl
      | ok k1 =>
        show (match impL L x (L.length + 1) [] k1 with | .error e => Except.error e | .ok (im, k2) => watO L x im k2) = hdT L x (impL L x (L.length + 1) [] k1)
        cases impL L x (L.length + 1) [] k1 <;> rfl
  · rfl
theorem impL_q (L : List Tok) (nm : ByteArray) {f : Nat} (hf : 0 < f) (im : List ByteArray) (k : Nat) : hdT L nm (impL L nm f im k) =
    if wdB L k 1 [105, 109, 112, 111, 114, 116] = true then (if im.length = 4 then .error (faultAt L 3 k) else thenQ L (nmeO L (nm :: im) (k + 1)) (fun x k2 => hdT L nm (impL L nm (f - 1) (im ++ [x]) k2))) else watO L nm im k := by
  obtain ⟨f, rfl⟩ : ∃ q, f = q + 1 := ⟨f - 1, by omega⟩
  rw [Nat.add_sub_cancel]
  conv => lhs; unfold impL
  split
  · split
    · rfl
    · unfold thenQ
      cases nmeO L (nm :: im) (k + 1) with
      | error e => rfl
      | ok p =>
        obtain ⟨x, m⟩ := p
        show hdT L nm (match sgnO L [59] m with | .error e => Except.error e | .ok k2 => impL L nm f (im ++ [x]) k2) = (match sgnO L [59] m with | .error e => Except.error e | .ok k1 => hdT L nm (impL L nm f (im ++ [x]) k1))
        cases sgnO L [59] m <;> rfl
  · rfl
def mdcells (m : Md) (io : Option Addr) (ic : Nat) (ko : Option Addr) (kc : Nat) (ru : Value) : List Value :=
  [.string m.nm, .slice io m.im.length ic, .bool m.wet, .int .i64 m.wa.op, .string m.wa.text, .int .u64 m.wa.s0, .int .u64 m.wa.s1, .int .u64 m.wa.s2, .int .u64 m.wa.s3, .slice ko m.wa.kids.length kc, ru]
def mdv (m : Md) (io : Option Addr) (ic : Nat) (ko : Option Addr) (kc : Nat) (ru : Value) : Value := .agg (mdcells m io ic ko kc ru).toArray
theorem info_str : (Try.prog.info? 9).map (fun i => (i.zero, i.size, i.bytes)) = some (some (.string ⟨#[]⟩), 1, 16) := by kernel_rfl
theorem HasN.nil (w : World) (ao : Option Addr) : HasN w ao [] := fun k x h => by simp at h
theorem Src.ofNames {w : World} {ao : Option Addr} {cap : Nat} {l : List ByteArray} (h : HasN w ao l) : Src Try.prog 1 22 (.slice ao l.length cap) l.length (l.map Value.string) w := by
  rcases Nat.eq_zero_or_pos l.length with h0 | hp
  · have := List.length_eq_zero_iff.1 h0
    subst this
    cases ao with
    | none => exact Src.ofNil w Try.underlying22 cap
    | some a => exact Src.ofSlice w Try.underlying22 a 0 cap [] rfl (fun j u h => by simp at h) (fun u h => by simp at h)
  · obtain ⟨b, off, rfl, -, -⟩ := h 0 l[0] (List.getElem?_eq_getElem hp)
    refine Src.ofSlice w Try.underlying22 ⟨b, off, none⟩ l.length cap _ (by simp) (fun j u hu => ?_) (fun u hu => by obtain ⟨y, _, rfl⟩ := List.mem_map.1 hu; rfl)
    rw [List.getElem?_map] at hu
    cases hx : l[j]? with
    | none => simp [hx] at hu
    | some x =>
      simp [hx] at hu
      subst hu
      obtain ⟨b', off', e, -, c⟩ := h j x hx
      injection e with e; injection e with e1 e2
      subst e1 e2
      rw [Addr.add_lit]
      exact c
end Go.Proofs.Ytihcmneidbjmlaa

namespace Go.Proofs.Ytihcmneidbjmlaa
set_option linter.unusedVariables false
section
variable {P : Program} {ops : Array Oper} {Q : Exit → Act → World → Prop} {md : Region.Mode} {S : World → Prop} {z : Nat}
/-- All orders from here on; S holds behind each operation, but for number z. -/
def heldTo (P : Program) (md : Region.Mode) (ops : Array Oper) (Q : Exit → Act → World → Prop) (S : World → Prop) (z : Nat) : Nat → Array Bool → Act → World → Prop
  | 0, l, a, w => Region.ready md ops l = [] ∧ Q .normal a w
  | n + 1, l, a, w => (Region.ready md ops l = [] → Q .normal a w) ∧
      ∀ j ∈ Region.ready md ops l, wpOp P ops Q j (fun b v => (j = z ∨ S v) ∧ heldTo P md ops Q S z n (l.setIfInBounds j true) b v) a w
theorem heldTo.any : ∀ (n : Nat) (l : Array Bool) (a : Act) (w : World), heldTo P md ops Q S z n l a w → wpAny P md ops Q n l a w
  | 0, _, _, _, h => h
  | n + 1, l, a, w, h => ⟨h.1, fun j hj => wpOp_mono (fun b v hb => heldTo.any n _ b v hb.2) (h.2 j hj)⟩
/-- Number z comes behind number i. -/
def waits (md : Region.Mode) (ops : Array Oper) (z i : Nat) : Bool := match ops[z]? with
  | some o => o.after.any (fun e => Region.binds md e && e.on == i)
  | none => false
theorem waits.not_ready {i : Nat} {l : Array Bool} (h : waits md ops z i = true) (hi : i ∈ Region.ready md ops l) : z ∉ Region.ready md ops l := by
  intro hz
  obtain ⟨h0, -⟩ := mem_ready.1 hi
  obtain ⟨-, o, ho, hall⟩ := mem_ready.1 hz
  unfold waits at h
  rw [ho] at h
  obtain ⟨e, he, hb⟩ := Array.any_eq_true'.1 h
  rw [Bool.and_eq_true, beq_iff_eq] at hb
  have h1 := hall e he hb.1
  rw [hb.2] at h1
  rcases Nat.lt_or_ge i l.size with h2 | h2
  · simp [h2] at h0 h1
    rw [h0] at h1
    cases h1
  · simp [Array.getElem?_eq_none h2] at h1
theorem heldTo.take_first {i : Nat} {oi : Oper} {v : Value} (hi : ops[i]? = some oi) (hs : Region.noSelect ops = true) (hz : waits md ops z i = true) (hQ : ∀ c a w, Q (.panic c) (a.put oi.dst v) w → Q (.panic c) a w) :
    ∀ (n : Nat) (l : Array Bool) (a : Act) (w : World), (∀ j oj, ops[j]? = some oj → j ≠ i → l.getD j true = false → (∀ e ∈ oj.after, Region.binds md e = true → e.on ≠ i) → oi.apart ops oj = true) →
      i ∈ Region.ready md ops l → YieldsIf P ops S oi v a → S w → heldTo P md ops Q S z n (l.setIfInBounds i true) (a.put oi.dst v) w → heldTo P md ops Q S z (n + 1) l a w
  | n, l, a, w, hf, hr, hy, hS, H => by
    refine ⟨fun h => absurd hr (by rw [h]; exact List.not_mem_nil), fun j hj => ?_⟩
    rcases Nat.decEq j i with hji | hji
    · have hj2 := ready_mono hj hji
      have hjz : j ≠ z := fun e => waits.not_ready hz hr (e ▸ hj)
      cases n with
      | zero => rw [H.1] at hj2; exact absurd hj2 List.not_mem_nil
      | succ n =>
        obtain ⟨h0, oj, ho, hall⟩ := mem_ready.1 hj
        have hap : oi.apart ops oj = true := hf j oj ho hji h0 fun e he hb heq => by
          have h1 := hall e he hb
          have h2 := (mem_ready.1 hr).1
          rw [heq] at h1
          rcases Nat.lt_or_ge i l.size with h3 | h3
          · simp [h3] at h1 h2
            rw [h2] at h1
            cases h1
          · simp [Array.getElem?_eq_none h3] at h1
        have h4 := wpOp_putIf ho hap (fun cs b => Region.noSelect_spec hs i oi cs b hi) (fun cs b => Region.noSelect_spec hs j oj cs b ho) hQ hy (H.2 j hj2)
        refine wpOp_mono (fun b u h5 => ?_) h4
        have hSu : S u := h5.2.1.resolve_left hjz
        refine ⟨.inr hSu, heldTo.take_first hi hs hz hQ n _ b u (fun k ok hk hki hun hno => ?_) (ready_mono hr (Ne.symm hji)) h5.1 hSu ?_⟩
        · refine hf k ok hk hki ?_ hno
          rcases Nat.decEq j k with e | e
          · rw [getD_set_ne true e] at hun
            exact hun
          · subst e
            exact h0
        · rw [Array.setIfInBounds_comm _ _ hji]
          exact h5.2.2
    · subst hji
      exact hy.wpOp hi hS ⟨.inr hS, H⟩
theorem heldTo.take {i : Nat} {oi : Oper} {v : Value} {n : Nat} {l : Array Bool} {a : Act} {w : World} (hi : ops[i]? = some oi) (hz : waits md ops z i = true) (hs : Region.noSelect ops = true) (hf : Region.free md ops l i = true) (hr : (Region.ready md ops l).contains i = true)
    (hQ : ∀ c a w, Q (.panic c) (a.put oi.dst v) w → Q (.panic c) a w) (hy : YieldsIf P ops S oi v a) (hS : S w)
    (h : heldTo P md ops Q S z n (l.setIfInBounds i true) (a.put oi.dst v) w) : heldTo P md ops Q S z (n + 1) l a w :=
  heldTo.take_first hi hs hz hQ n l a w (Region.free_spec hi hf) (by simpa using hr) hy hS h
theorem heldTo.one {i : Nat} {n : Nat} {l : Array Bool} {a : Act} {w : World} (hr : Region.ready md ops l = [i]) (h : wpOp P ops Q i (fun b v => (i = z ∨ S v) ∧ heldTo P md ops Q S z n (l.setIfInBounds i true) b v) a w) : heldTo P md ops Q S z (n + 1) l a w :=
  ⟨fun h0 => absurd (hr.symm.trans h0) (by simp), by rw [hr]; intro j hj; obtain rfl := List.mem_singleton.1 hj; exact h⟩
theorem heldTo.done {l : Array Bool} {a : Act} {w : World} (hr : Region.ready md ops l = []) (h : Q .normal a w) : ∀ n, heldTo P md ops Q S z n l a w
  | 0 => ⟨hr, h⟩
  | n + 1 => ⟨fun _ => h, by rw [hr]; simp⟩
end
theorem wp_region_heldTo {P : Program} {Q : Exit → Act → World → Prop} (S : World → Prop) (z : Nat) {id : Nat} {ops : Array Oper} {a : Act} {w : World} (hm : P.follows .mixedOrders = true)
    (h : heldTo P .any ops Q S z ops.size (Array.replicate ops.size false) a w.drew) : (Code.region id ops true).wp P Q a w :=
  wp_region_any hm (heldTo.any _ _ _ _ h)
end Go.Proofs.Ytihcmneidbjmlaa
