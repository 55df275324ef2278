/- A map keyed by places, told by a plain function. No function in sight. -/
import Derived.Test.YtgpglmponbipbabChecked
import Derived.Test.YtgpglmponbipbabBut
import Derived.WalkKit
import Derived.Handy
import Derived.KernelRfl
import Derived.Maps.OwnSet
import Derived.DeepKeys4
namespace Go.Proofs.Ytgpglmponbipbab
set_option linter.unusedVariables false
open Go.RowKit Go.Maps

theorem laidOutP : laidOutB Try.prog = true := by kernel_rfl
theorem place_law : Keyed Try.prog 49 :=
  Keyed.of_law (deep_law_laid laidOutP (m := 2) (by omega) (of_decide_eq_true (by kernel_rfl)) (by kernel_rfl) (by rw [Try.underlying49]))
def klit (a b : Int) : Lit := .string (keyBytes [.int .i64 a, .int .i64 b])
def Wf (a : Int) : Prop := (Lit.int .i64 a).wf = true
theorem place_deep : Try.prog.keyType 49 = true := by kernel_rfl
theorem place_cells : Try.prog.cellsOf 49 = 2 := by kernel_rfl
theorem place_formed (a b : Int) : (Value.agg #[.int .i64 a, .int .i64 b]).formed Try.prog 49 = true := by simp [Value.formed, Try.underlying49, place_cells]
theorem keyOf_pair {P : Program} {k e : TypeId} {f0 f1 : Field} (hk : P.underlying k = some (.struct #[f0, f1])) (he : P.underlying e = some (.int .i64)) (hd : P.keyType k = true) (hc : P.cellsOf k = 2) (hce : P.cellsOf e = 1) (n0 : (f0.name != "_") = true) (n1 : (f1.name != "_") = true)
    (t0 : f0.type = e) (t1 : f1.type = e) (o0 : f0.offset = 0) (o1 : f1.offset = 1) (hs : 0 < P.types.size) {a b : Int} (ha : Wf a) (hb : Wf b) : keyOf P k (.agg #[.int .i64 a, .int .i64 b]) = some (klit a b) := by
  obtain ⟨N, hN⟩ : ∃ N, P.types.size + 1 = N + 2 := ⟨P.types.size - 1, by omega⟩
  unfold Wf at ha hb
  have hf : (Value.agg #[.int .i64 a, .int .i64 b]).formed P k = true := by simp [Value.formed, hk, hc]
  have hm (x : Int) (hx : (Lit.int .i64 x).wf = true) : P.keyLits (N + 1) e [.int .i64 x] = some [.int .i64 x] := by
    simp [Program.keyLits, he, hx]
  have hl : P.keyLits (N + 2) k [.int .i64 a, .int .i64 b] = some [.int .i64 a, .int .i64 b] := by
    unfold Program.keyLits
    rw [hk]
    simp [hc, n0, n1, t0, t1, o0, o1, hce, hm a ha, hm b hb]
  unfold keyOf
  rw [hk]
  simp only [hd, hf, Bool.and_self, if_true, hN]
  rw [show (Value.agg #[.int .i64 a, .int .i64 b]).cells.toList = [.int .i64 a, .int .i64 b] from rfl, hl]
  rfl
theorem key_is {a b : Int} (ha : Wf a) (hb : Wf b) : keyOf Try.prog 49 (.agg #[.int .i64 a, .int .i64 b]) = some (klit a b) :=
  keyOf_pair Try.underlying49 Try.underlying3 place_deep place_cells (by kernel_rfl) (by decide) (by decide) rfl rfl rfl rfl (of_decide_eq_true (by kernel_rfl)) ha hb
theorem klit_inj {a b c d : Int} (ha : Wf a) (hb : Wf b) (hc : Wf c) (hd : Wf d) (h : klit a b = klit c d) : a = c ∧ b = d := by
  have h1 := key_is ha hb
  rw [h] at h1
  have := place_law.inj h1 (key_is hc hd)
  simpa using this

def heldR (v : Value) : Option (DataW Value × List MemPlace) := some (.held v, [])
/-- Block mb is a map of n entries, that holds at the place (a, b) what f says. -/
def MapIs (w : World) (mb n : Nat) (f : Int → Int → Option Value) : Prop :=
  ∃ D : DataW Value, w.ownsMap Try.prog 49 heldR mb n D ∧ Maps.size D = n ∧
    ∀ a b, Wf a → Wf b → Maps.has D (klit a b) = (f a b).isSome ∧ ∀ z, D.atKey (klit a b) (.held z) = .held ((f a b).getD z)
theorem owns_tight {H : Type} {P : Program} {k : TypeId} {R : Value → Option (DataW H × List MemPlace)} {w : World} {b n : Nat} {D : DataW H} (h : w.ownsMap P k R b n D) : w.ownsMap P k R b (Maps.size D) D := by
  obtain ⟨es, clock, hb, F, hs, rfl⟩ := h
  exact ⟨es, clock, hb, F, by simp [Maps.size, length_sorted], rfl⟩
section
variable {w w' : World} {mb n : Nat} {f : Int → Int → Option Value} {S : Nat → Prop}
theorem MapIs.lt (h : MapIs w mb n f) : mb < w.heap.size := by obtain ⟨D, h, _⟩ := h; exact h.lt
theorem MapIs.keep (h : MapIs w mb n f) (hb : But S w w') (hS : ¬ S mb) : MapIs w' mb n f := by
  have hlt := h.lt
  obtain ⟨D, ⟨es, clock, hh, F, hs, hD⟩, r⟩ := h
  exact ⟨D, ⟨es, clock, (hb.block mb hlt hS).trans hh, F, hs, hD⟩, r⟩
theorem MapIs.not_cells (h : MapIs w mb n f) {cs : Array Value} {t : TypeId} {fr : Nat × Nat} : w.heap[mb]? ≠ some (.cells cs t fr) := by
  obtain ⟨D, ⟨es, clock, hh, _⟩, _⟩ := h
  rw [hh]; simp
theorem MapIs.made (w : World) : MapIs (w.alloc (.map #[] 0)) w.heap.size 0 (fun _ _ => none) :=
  ⟨_, World.ownsMap_made w _ _ _, rfl, fun a b ha hb => ⟨by simp [Maps.has], fun z => by simp [DataW.atKey]⟩⟩
end

def putF (f : Int → Int → Option Value) (a b : Int) (v : Value) : Int → Int → Option Value := fun c d => if c = a ∧ d = b then some v else f c d
def delF (f : Int → Int → Option Value) (a b : Int) : Int → Int → Option Value := fun c d => if c = a ∧ d = b then none else f c d

theorem zero_mem (w : World) : (zeroValue 30).run Try.prog w = .ok (.agg #[.int .i64 0, .int .i64 0, .bool false, .int .i64 0, .int .i64 0, .slice none 0 0]) w := by kernel_rfl

section
variable (w : World) {ops : Array Oper} {rest : List Oper} {o : Oper} {act : Act} {Q : Exit → Act → World → Prop}
theorem wpList_look (hg : o.guard = none) (m x : Operand) (hop : o.op = Op.lookup 42 m x true) (mb n : Nat) (f : Int → Int → Option Value)
    (hm : act.eval m = .map (some mb)) (hown : MapIs w mb n f) (a b : Int) (ha : Wf a) (hb : Wf b) (hx : act.eval x = .agg #[.int .i64 a, .int .i64 b])
    (hK : wpList Try.prog ops Q rest (act.put o.dst (.tuple #[(f a b).getD (.agg #[.int .i64 0, .int .i64 0, .bool false, .int .i64 0, .int .i64 0, .slice none 0 0]), .bool (f a b).isSome])) w) :
    wpList Try.prog ops Q (o :: rest) act w := by
  obtain ⟨D, hD, hs, hf⟩ := hown
  obtain ⟨h1, h2⟩ := hf a b ha hb
  refine wpList_lookup_own_ok w hg m x _ hop 49 30 place_law Try.underlying42 heldR (zero_mem w) (.held _) [] rfl mb n D hm hD _ (klit a b) hx (key_is ha hb) (fun v ps hv => ?_)
  rw [h2] at hv
  simp only [heldR, Option.some.injEq, Prod.mk.injEq, DataW.held.injEq] at hv
  rw [hv.1, h1]
  exact hK
theorem wpList_len (hg : o.guard = none) (m : Operand) (hop : o.op = Op.call { callee := Callee.builtin Builtin.len, args := #[m], argTypes := #[42] }) (mb n : Nat) (f : Int → Int → Option Value)
    (hm : act.eval m = .map (some mb)) (hown : MapIs w mb n f) (hK : wpList Try.prog ops Q rest (act.put o.dst (.int .i64 (n : Int))) w) : wpList Try.prog ops Q (o :: rest) act w := by
  obtain ⟨D, hD, hs, hf⟩ := hown
  refine wpList_len_own w hg m _ hop 49 30 Try.underlying42 heldR mb n D hm hD ?_
  rw [hs]
  exact hK
theorem wpList_del (hg : o.guard = none) (m x : Operand) (hop : o.op = Op.call { callee := Callee.builtin Builtin.delete, args := #[m, x], argTypes := #[42, 49] }) (mb n : Nat) (f : Int → Int → Option Value)
    (hm : act.eval m = .map (some mb)) (hown : MapIs w mb (n + 1) f) (a b : Int) (ha : Wf a) (hb : Wf b) (hx : act.eval x = .agg #[.int .i64 a, .int .i64 b]) (hin : (f a b).isSome = true)
    (hK : ∀ w', MapIs w' mb n (delF f a b) → But (fun g => g = mb) w w' → wpList Try.prog ops Q rest (act.put o.dst (.tuple #[])) w') : wpList Try.prog ops Q (o :: rest) act w := by
  obtain ⟨D, hD, hs, hf⟩ := hown
  refine wpList_delete_own w hg m x _ _ hop 30 place_law Try.underlying42 heldR mb (n + 1) D hm hD _ (klit a b) hx (key_is ha hb) (fun w' hD' ht => ?_)
  have hsz : Maps.size (D.del (klit a b)) = n := by
    have := Maps.size_del (k := klit a b) (hD.tidy place_law)
    rw [(hf a b ha hb).1, hin, hs] at this
    simpa using this
  refine hK w' ⟨_, hsz ▸ owns_tight hD', hsz, fun c d hc hd => ?_⟩ ((But.refl _ w).grown ht.grown fun k hk _ => by cases hk; rfl)
  by_cases e : c = a ∧ d = b
  · obtain ⟨rfl, rfl⟩ := e
    exact ⟨by rw [Maps.has_del_same]; simp [delF], fun z => by rw [Maps.atKey_del_same]; simp [delF]⟩
  · have hne : klit c d ≠ klit a b := fun h => e (klit_inj hc hd ha hb h)
    exact ⟨by rw [Maps.has_del_other hne, (hf c d hc hd).1]; simp [delF, e], fun z => by rw [Maps.atKey_del_other hne, (hf c d hc hd).2]; simp [delF, e]⟩
theorem wpList_store (hg : o.guard = none) (m x v : Operand) (hop : o.op = Op.mapUpdate 42 m x v) (mb n : Nat) (f : Int → Int → Option Value)
    (hm : act.eval m = .map (some mb)) (hown : MapIs w mb n f) (hn : n < maxLen) (a b : Int) (ha : Wf a) (hb : Wf b) (hx : act.eval x = .agg #[.int .i64 a, .int .i64 b]) (val : Value) (hv : act.eval v = val)
    (hK : ∀ w', MapIs w' mb (if (f a b).isSome then n else n + 1) (putF f a b val) → But (fun g => g = mb) w w' → wpList Try.prog ops Q rest (act.put o.dst undef) w') : wpList Try.prog ops Q (o :: rest) act w := by
  obtain ⟨D, hD, hs, hf⟩ := hown
  refine wpList_mapUpdate_in w hg m x v _ hop 49 30 place_law Try.underlying42 heldR mb n D hm hD hn _ val (klit a b) hx hv (key_is ha hb) (.held val) [] rfl (fun w' hD' ht => ?_)
  have hk : WideAt.IsKeyLit (klit a b) := place_law.key (key_is ha hb)
  have hsz : Maps.size (D.put (klit a b) (.held val)) = if (f a b).isSome then n else n + 1 := by
    rw [Maps.size_put (hD.tidy place_law), (hf a b ha hb).1, hs]
  refine hK w' ⟨_, hsz ▸ owns_tight hD', hsz, fun c d hc hd => ?_⟩ ((But.refl _ w).grown ht.grown fun k hk _ => by cases hk; rfl)
  by_cases e : c = a ∧ d = b
  · obtain ⟨rfl, rfl⟩ := e
    exact ⟨by rw [Maps.has_put_same hD.isMap hk]; simp [putF], fun z => by rw [Maps.atKey_put_same hD.isMap hk]; simp [putF]⟩
  · have hne : klit c d ≠ klit a b := fun h => e (klit_inj hc hd ha hb h)
    exact ⟨by rw [Maps.has_put_other hne, (hf c d hc hd).1]; simp [putF, e], fun z => by rw [Maps.atKey_put_other hne, (hf c d hc hd).2]; simp [putF, e]⟩
end
end Go.Proofs.Ytgpglmponbipbab
