/- What a text is as a query: the document's answer, walked. -/
import Derived.Test.YtialpofiagiclaaDoorQryM
import Derived.Deep.CutBlock
namespace Go.Proofs.YtialpofiagiclaaDoor
set_option linter.unusedVariables false
set_option maxRecDepth 1000000
open Go.RowKit Go.Sort

def allocs (w : World) (os : List Obj) : World := os.foldl World.alloc w
theorem allocs_own : ∀ (os : List Obj) (w : World) (i : Nat) (t : TypeId) (cs : List Value), os[i]? = some (.cells cs.toArray t) → Own (allocs w os) (w.heap.size + i) t cs
  | [], w, i, t, cs, h => by simp at h
  | o :: os, w, 0, t, cs, h => by
    simp at h; subst h
    have key : ∀ (os : List Obj) (W : World), Own W w.heap.size t cs → Own (allocs W os) w.heap.size t cs := by
      intro os
      induction os with
      | nil => intro W h; exact h
      | cons o os ih => intro W h; exact ih _ (h.on_alloc o)
    exact key os _ (Own.fresh w t cs)
  | o :: os, w, i + 1, t, cs, h => by
    have g := allocs_own os (w.alloc o) i t cs (by simpa using h)
    rw [show (w.alloc o).heap.size + i = w.heap.size + (i + 1) by simp; omega] at g
    exact g
theorem allocs_below (w : World) : ∀ (os : List Obj) (W : World), Below w.heap.size w W → Below w.heap.size w (allocs W os)
  | [], W, h => h
  | o :: os, W, h => allocs_below w os _ (h.alloc h.size o)
theorem allocs_size : ∀ (os : List Obj) (w : World), (allocs w os).heap.size = w.heap.size + os.length
  | [], w => rfl
  | o :: os, w => by
    have h := allocs_size os (w.alloc o)
    show (allocs (w.alloc o) os).heap.size = _
    rw [h]; simp; omega
def hpK : Except Nat (Hp × Nat) → Nat | .ok p => p.2 | .error e => e
def hpX : Except Nat (Hp × Nat) → Bool | .ok _ => false | .error _ => true
/-- Steps in memory. -/
def HasH (w : World) (po : Option Addr) (L : List Hp) : Prop := ∀ (k : Nat) (h : Hp), L[k]? = some h → ∃ g off, po = some ⟨g, off, none⟩ ∧ g < w.heap.size ∧
  w.cell? ⟨g, off + k * 6, none⟩ = some (.int .i64 h.ax) ∧ w.cell? ⟨g, off + k * 6 + 1, none⟩ = some (.int .i64 h.kd) ∧ w.cell? ⟨g, off + k * 6 + 2, none⟩ = some (.string h.nm) ∧
  w.cell? ⟨g, off + k * 6 + 3, none⟩ = some (.string h.is) ∧ w.cell? ⟨g, off + k * 6 + 4, none⟩ = some (.string h.has) ∧ w.cell? ⟨g, off + k * 6 + 5, none⟩ = some (.int .i64 h.nth)
/-- Paths in memory. -/
def HasQ (w : World) (qo : Option Addr) (P : List (List Hp)) : Prop := ∀ (i : Nat) (p : List Hp), P[i]? = some p → ∃ g off po pc, qo = some ⟨g, off, none⟩ ∧ g < w.heap.size ∧
  w.cell? ⟨g, off + i, none⟩ = some (.slice po p.length pc) ∧ HasH w po p
theorem HasH.below {w w' : World} {po : Option Addr} {L : List Hp} (h : HasH w po L) (hb : Below w.heap.size w w') : HasH w' po L := fun k x hx => by
  obtain ⟨g, off, e, hg, c0, c1, c2, c3, c4, c5⟩ := h k x hx
  exact ⟨g, off, e, Nat.lt_of_lt_of_le hg hb.size, keepc c0 hb, keepc c1 hb, keepc c2 hb, keepc c3 hb, keepc c4 hb, keepc c5 hb⟩
theorem HasQ.below {w w' : World} {qo : Option Addr} {P : List (List Hp)} (h : HasQ w qo P) (hb : Below w.heap.size w w') : HasQ w' qo P := fun i p hp => by
  obtain ⟨g, off, po, pc, e, hg, c, hh⟩ := h i p hp
  exact ⟨g, off, po, pc, e, Nat.lt_of_lt_of_le hg hb.size, keepc c hb, hh.below hb⟩
theorem flat_at : ∀ (L : List Hp) (k j : Nat) (h : Hp), L[k]? = some h → j < 6 → (L.flatMap hprow)[k * 6 + j]? = (hprow h)[j]?
  | [], k, j, h, hk, hj => by simp at hk
  | x :: L, 0, j, h, hk, hj => by
    simp at hk; subst hk
    rw [List.flatMap_cons, List.getElem?_append_left (by show 0 * 6 + j < 6; omega), Nat.zero_mul, Nat.zero_add]
  | x :: L, k + 1, j, h, hk, hj => by
    rw [List.flatMap_cons, List.getElem?_append_right (by show 6 ≤ (k + 1) * 6 + j; omega), show (k + 1) * 6 + j - (hprow x).length = k * 6 + j by show (k + 1) * 6 + j - 6 = _; omega]
    exact flat_at L k j h (by simpa using hk) hj
theorem hasH_of {S : Nat → Prop} {w : World} {po : Option Addr} {pc : Nat} {L : List Hp} (h : Win S 38 6 w (.slice po L.length pc) L.length (L.flatMap hprow)) : HasH w po L := fun k x hx => by
  have hk : k < L.length := (List.getElem?_eq_some_iff.1 hx).1
  obtain ⟨ao, cap, e1, h1, h2, hf⟩ := h.form
  injection e1 with e1 e2 e3
  subst e1 e3
  have get : ∀ j, j < 6 → ∃ g off, po = some ⟨g, off, none⟩ ∧ g < w.heap.size ∧ w.cell? ⟨g, off + (k * 6 + j), none⟩ = (hprow x)[j]? := fun j hj => by
    obtain ⟨g, off, e, hs, hg, hc, _⟩ := hf (k * 6 + j) (by omega)
    exact ⟨g, off, e, hg, by rw [hc, flat_at L k j x hx hj]⟩
  obtain ⟨g, off, e, hg, c0⟩ := get 0 (by omega)
  subst e
  have get2 : ∀ j, j < 6 → w.cell? ⟨g, off + (k * 6 + j), none⟩ = (hprow x)[j]? := fun j hj => by
    obtain ⟨g', off', e, _, hc⟩ := get j hj
    injection e with e; injection e with e4 e5
    subst e4 e5
    exact hc
  exact ⟨g, off, rfl, hg, c0, get2 1 (by omega), get2 2 (by omega), get2 3 (by omega), get2 4 (by omega), get2 5 (by omega)⟩
theorem hasQ_of {w : World} {B M : Nat} {qo : Option Addr} {qc : Nat} {pv : Value} {P : List (List Hp)} {L : List Hp} (h : PS w B M (.slice qo P.length qc) pv P L) : HasQ w qo P := fun i p hp => by
  obtain ⟨R, S, T, cs, h1, h2, h3, h4, h5, h6⟩ := h
  have hi : i < P.length := (List.getElem?_eq_some_iff.1 hp).1
  obtain ⟨ao, cap, e1, _, _, hf⟩ := h4.form
  injection e1 with e1 e2 e3
  subst e1 e3
  obtain ⟨g, off, e, hs, hg, hc, _⟩ := hf i (by omega)
  obtain ⟨v, hv⟩ : ∃ v, cs[i]? = some v := ⟨_, List.getElem?_eq_getElem (by rw [h5.1]; exact hi)⟩
  obtain ⟨S', hS', hW⟩ := h5.2 i v p hv hp
  obtain ⟨po, pc, hvf, -⟩ := hW.form
  subst hvf
  exact ⟨g, off, po, pc, e, hg, by rw [hc, hv], hasH_of hW⟩
def QRes (e : Ending) (w : World) : Except (Int × Nat) (List (List Hp)) → Prop
  | .ok P => ∃ qo qc, e = .returned (.tuple #[.agg #[.slice qo P.length qc], .agg #[.int .i64 0, .int .i64 0, .int .i64 0, .int .i64 0]]) ∧ HasQ w qo P
  | .error p => e = .returned (.tuple #[.agg #[.slice none 0 0], .agg #[.int .i64 p.1, .int .i64 (p.2 : Int), .int .i64 0, .int .i64 0]])
theorem lit_ok {c : UInt8} {s : ByteArray} (hs : s.size ≤ 1000000) {g k : Nat} (hk : k ≤ s.size) {u : ByteArray} {m : Nat} (hl : litR c s k = .ok (u, m)) (w : World) (hc : Cur w g s k false) :
    Calls Tryd.prog 20 #[.pointer (some ⟨g, 0, none⟩), .string ⟨#[c]⟩] w fun e w' => e = .returned (.string u) ∧ Cur w' g s m false ∧ But (fun j => j = g) w w' := by
  have h := lit_any c s hs g k hk w hc
  rw [hl] at h
  exact h
theorem lit_err {c : UInt8} {s : ByteArray} (hs : s.size ≤ 1000000) {g k : Nat} (hk : k ≤ s.size) {m : Nat} (hl : litR c s k = .error m) (w : World) (hc : Cur w g s k false) :
    Calls Tryd.prog 20 #[.pointer (some ⟨g, 0, none⟩), .string ⟨#[c]⟩] w fun e w' => e = .returned (.string ⟨#[]⟩) ∧ Cur w' g s m true ∧ But (fun j => j = g) w w' := by
  have h := lit_any c s hs g k hk w hc
  rw [hl] at h
  exact h
theorem nth_ok {s : ByteArray} (hs : s.size ≤ 1000000) {g k : Nat} (hk : k ≤ s.size) {n : Int} {m : Nat} (hl : nthR s k = .ok (n, m)) (w : World) (hc : Cur w g s k false) :
    Calls Tryd.prog 21 #[.pointer (some ⟨g, 0, none⟩)] w fun e w' => e = .returned (.int .i64 n) ∧ Cur w' g s m false ∧ But (fun j => j = g) w w' := by
  refine (nth_any s hs g k hk w hc).mono ?_
  rintro e w' ⟨⟨n', he, hn⟩, hc', hb⟩
  rw [hl] at hn hc'
  have hn' : n' = n := hn
  subst hn'
  exact ⟨he, hc', hb⟩
theorem nth_err {s : ByteArray} (hs : s.size ≤ 1000000) {g k : Nat} (hk : k ≤ s.size) {m : Nat} (hl : nthR s k = .error m) (w : World) (hc : Cur w g s k false) :
    Calls Tryd.prog 21 #[.pointer (some ⟨g, 0, none⟩)] w fun e w' => ∃ n, e = .returned (.int .i64 n) ∧ Cur w' g s m true ∧ But (fun j => j = g) w w' := by
  refine (nth_any s hs g k hk w hc).mono ?_
  rintro e w' ⟨⟨n', he, hn⟩, hc', hb⟩
  rw [hl] at hn hc'
  exact ⟨n', he, hc', hb⟩
theorem test_ok (a : Int) {s : ByteArray} (hs : s.size ≤ 1000000) {g k : Nat} (hk : k ≤ s.size) {kd : Int} {nm : ByteArray} {m : Nat} (hl : whR s k = some (kd, nm, m)) (w : World) (hc : Cur w g s k false) :
    Calls Tryd.prog 19 #[.pointer (some ⟨g, 0, none⟩), .agg #[.int .i64 a, .int .i64 0, .string ⟨#[]⟩, .string ⟨#[]⟩, .string ⟨#[]⟩, .int .i64 0]] w fun e w' => e = .returned (.agg #[.int .i64 a, .int .i64 kd, .string nm, .string ⟨#[]⟩, .string ⟨#[]⟩, .int .i64 0]) ∧ Cur w' g s m false ∧ But (fun j => j = g) w w' := by
  refine (test_any a s hs g k hk w hc).mono ?_
  rintro e w' ⟨⟨kd', nm', he, hn⟩, hc', hb⟩
  rw [hl] at hn hc'
  obtain ⟨h1, h2⟩ := hn
  have h1' : kd' = kd := h1
  have h2' : nm' = nm := h2
  subst h1' h2'
  exact ⟨he, hc', hb⟩
theorem test_no (a : Int) {s : ByteArray} (hs : s.size ≤ 1000000) {g k : Nat} (hk : k ≤ s.size) (hl : whR s k = none) (w : World) (hc : Cur w g s k false) :
    Calls Tryd.prog 19 #[.pointer (some ⟨g, 0, none⟩), .agg #[.int .i64 a, .int .i64 0, .string ⟨#[]⟩, .string ⟨#[]⟩, .string ⟨#[]⟩, .int .i64 0]] w fun e w' => ∃ kd nm, e = .returned (.agg #[.int .i64 a, .int .i64 kd, .string nm, .string ⟨#[]⟩, .string ⟨#[]⟩, .int .i64 0]) ∧ Cur w' g s k true ∧ But (fun j => j = g) w w' := by
  refine (test_any a s hs g k hk w hc).mono ?_
  rintro e w' ⟨⟨kd', nm', he, hn⟩, hc', hb⟩
  rw [hl] at hn hc'
  exact ⟨kd', nm', he, hc', hb⟩
theorem but_six {S : Nat → Prop} {a w : World} (h : But S a w) {q : Nat} (hq : S q) (u0 u1 u2 u3 u4 u5 : Value) : But S a (set6 w q u0 u1 u2 u3 u4 u5) :=
  (((((h.setCell (p := ⟨q, 0, none⟩) (fun _ => hq) _).setCell (p := ⟨q, 1, none⟩) (fun _ => hq) _).setCell (p := ⟨q, 2, none⟩) (fun _ => hq) _).setCell (p := ⟨q, 3, none⟩) (fun _ => hq) _).setCell (p := ⟨q, 4, none⟩) (fun _ => hq) _).setCell (p := ⟨q, 5, none⟩) (fun _ => hq) _
theorem qF_more {s : ByteArray} {f k : Nat} {P : List (List Hp)} {L : List Hp} (hf : 0 < f) : qF s f k P L = if P.length = 8 ∨ L.length = 12 then .error (3, k) else
    match hopR s k with
    | .error e => .error (2, e)
    | .ok (h, m) => if m = s.size then .ok (P ++ [L ++ [h]]) else if tk s m [124] = true then qF s (f - 1) (m + 1) (P ++ [L ++ [h]]) [] else qF s (f - 1) m P (L ++ [h]) := by
  obtain ⟨f, rfl⟩ : ∃ q, f = q + 1 := ⟨f - 1, by omega⟩
  rfl

set_option maxRecDepth 1000000 in
set_option maxHeartbeats 6400000 in
theorem qparse_any (s : ByteArray) (hs : s.size ≤ 1000000) (w : World) : Calls Tryd.prog 9 #[.string s] w fun e w' => QRes e w' (qryO s) ∧ Below w.heap.size w w' := by
  have HS := Lib.hid hs
  obtain ⟨OS, hOS⟩ : ∃ OS : List Obj, OS = [.cells #[.slice none 0 0] 24, .cells #[.int .i64 0, .int .i64 0, .int .i64 0, .int .i64 0] 29, .cells #[.string s, .int .i64 0, .bool false] 48, .cells #[.slice none 0 0] 24] := ⟨_, rfl⟩
  obtain ⟨A, hA⟩ : ∃ A, w.heap.size = A := ⟨_, rfl⟩
  obtain ⟨F, hF⟩ : ∃ F, A + 1 = F := ⟨_, rfl⟩
  obtain ⟨gc, hgc⟩ : ∃ g, F + 1 = g := ⟨_, rfl⟩
  obtain ⟨gq, hgq⟩ : ∃ g, gc + 1 = g := ⟨_, rfl⟩
  have HN := Lib.hid (show A + 1 = F ∧ F + 1 = gc ∧ gc + 1 = gq ∧ w.heap.size = A from ⟨hF, hgc, hgq, hA⟩)
  have H0 := Lib.hid (show Own (allocs w OS) A 24 [.slice none 0 0] by rw [← hA]; exact allocs_own OS w 0 _ _ (by rw [hOS]; rfl))
  have H1 := Lib.hid (show Own (allocs w OS) F 29 [.int .i64 0, .int .i64 0, .int .i64 0, .int .i64 0] by rw [← hF, ← hA]; exact allocs_own OS w 1 _ _ (by rw [hOS]; rfl))
  have H2 := Lib.hid (show Cur (allocs w OS) gc s 0 false by rw [← hgc, ← hF, ← hA]; exact allocs_own OS w 2 _ _ (by rw [hOS]; rfl))
  have H3 := Lib.hid (show Own (allocs w OS) gq 24 [.slice none 0 0] by rw [← hgq, ← hgc, ← hF, ← hA]; exact allocs_own OS w 3 _ _ (by rw [hOS]; rfl))
  have HB := Lib.hid (show Below A w (allocs w OS) by rw [← hA]; exact allocs_below w OS w (Below.refl _ _))
  have HSZ := Lib.hid (show (allocs w OS).heap.size = gq + 1 by rw [allocs_size, hOS]; show w.heap.size + 4 = _; omega)
  have hW : (((w.alloc (.cells #[.slice none 0 0] 24)).alloc (.cells #[.int .i64 0, .int .i64 0, .int .i64 0, .int .i64 0] 29)).alloc (.cells #[.string s, .int .i64 0, .bool false] 48)).alloc (.cells #[.slice none 0 0] 24) = allocs w OS := by rw [hOS]; rfl
  have HQ0 := Lib.hid (show qF s (s.size + 1) 0 [] [] = qryO s from rfl)
  obtain ⟨res, hres⟩ : ∃ r, qryO s = r := ⟨_, rfl⟩
  rw [hres] at HQ0 ⊢
  clear hOS hres
  go_enter Tryd.func9, Tryd.ntmps9
  go_wp2_with fail
  clear hA hF hgc hgq hW
  generalize allocs w OS = w1 at *
  have HPS := Lib.hid (PS.start w1 (gq + 1) (gq + 1))
  go_loopw [6] (fun v6 wr => ∃ (f k M : Nat) (P : List (List Hp)) (L : List Hp) (qv : Value), s.size < f + k ∧ k ≤ s.size ∧ P.length ≤ 8 ∧ L.length ≤ 12 ∧ Hid (gq + 1 ≤ M ∧ M ≤ wr.heap.size) ∧ Hid (qF s f k P L = res) ∧
    Hid (Own wr A 24 [.slice none 0 0]) ∧ Hid (Own wr F 29 [.int .i64 0, .int .i64 0, .int .i64 0, .int .i64 0]) ∧ Hid (Cur wr gc s k false) ∧ Hid (Own wr gq 24 [qv]) ∧ Hid (PS wr (gq + 1) M qv v6 P L) ∧ Hid (Below A w wr))
    (fun _ wr => s.size - (intOf ((wr.cell? ⟨gc, 1, none⟩).getD (.bool false))).toNat)
  case atStart => exact ⟨s.size + 1, 0, gq + 1, [], [], .slice none 0 0, by omega, Nat.zero_le _, by decide, by decide, Lib.hid ⟨Nat.le_refl _, by rw [HSZ.out]; exact Nat.le_refl _⟩, HQ0, H0, H1, H2, H3, HPS, HB⟩
  case round =>
    obtain ⟨f, k, M, P, L, qv, hfk, hk, hP, hL, HM, HQ, HA0, HF0, HC0, HQ1, HP0, HB0⟩ := hrel
    clear H0 H1 H2 H3 HB HSZ HPS HQ0
    have HQ2 := Lib.hid (show qF s f k P L = _ from qF_more (by omega))
    rw [HQ.out] at HQ2
    clear HQ
    obtain ⟨⟨qo, qc, rfl⟩, ⟨po, pc, rfl⟩⟩ := HP0.out.form
    have q0 : wr.cell? ⟨gq, 0, none⟩ = some (.slice qo P.length qc) := HQ1.out.cell 0
    have hgql := HQ1.out.lt
    obtain ⟨n1, hn1⟩ : ∃ n, P.length = n := ⟨_, rfl⟩
    obtain ⟨n2, hn2⟩ : ∃ n, L.length = n := ⟨_, rfl⟩
    have HN12 := Lib.hid (And.intro hn1 hn2)
    rw [hn1] at q0 HQ2 hP
    rw [hn2] at HQ2 hL
    by_cases h8 : n1 = 8 ∨ n2 = 12
    · have HE := Lib.hid (show res = .error (3, k) by rw [HQ2.out, if_pos h8])
      clear HQ2
      have e8 : (((n1 : Int) == 8) || ((n2 : Int) == 12)) = true := by rcases h8 with h | h <;> simp [h]
      rw [hn2]
      cases g8 : ((n1 : Int) == 8) with
      | true =>
        have ne1 : ¬ A = gc := by have := HN.out; omega
        have ne2 : ¬ gc = A := by have := HN.out; omega
        have ne3 : ¬ A = F := by have := HN.out; omega
        have ne4 : ¬ F = A := by have := HN.out; omega
        have a0 := HA0.out.cell 0
        have af := HA0.out.thaw 0
        have al := HA0.out.lt
        obtain ⟨b0, b1, b2, b3, d0, d1, d2, d3⟩ := HF0.out.four
        have bl := HF0.out.lt
        obtain ⟨c0, c1, c2, hg, f1, f2⟩ := HC0.out.at_
        go_upto_region 5 with fail
        go_region
        have HA9 := Lib.hid (show Own (set4 (wr.setCell ⟨A, 0, none⟩ (.slice none 0 0)) F (.int .i64 3) (.int .i64 (k : Int)) (.int .i64 0) (.int .i64 0)).drew A 24 [.slice none 0 0] from (((((HA0.out.put 0 (.slice none 0 0)).off (p := ⟨F, 0, none⟩) ne3 (.int .i64 3)).off (p := ⟨F, 1, none⟩) ne3 (.int .i64 (k : Int))).off (p := ⟨F, 2, none⟩) ne3 (.int .i64 0)).off (p := ⟨F, 3, none⟩) ne3 (.int .i64 0)).on_drew)
        have HF9 := Lib.hid (show Own (set4 (wr.setCell ⟨A, 0, none⟩ (.slice none 0 0)) F (.int .i64 3) (.int .i64 (k : Int)) (.int .i64 0) (.int .i64 0)).drew F 29 [.int .i64 3, .int .i64 (k : Int), .int .i64 0, .int .i64 0] from (Own.put4 (HF0.out.off (p := ⟨A, 0, none⟩) ne4 (.slice none 0 0))).on_drew)
        have HB9 := Lib.hid (show Below A w (set4 (wr.setCell ⟨A, 0, none⟩ (.slice none 0 0)) F (.int .i64 3) (.int .i64 (k : Int)) (.int .i64 0) (.int .i64 0)).drew from (below_put4 (HB0.out.setCell (p := ⟨A, 0, none⟩) (Nat.le_refl _) (.slice none 0 0)) (by have := HN.out; omega) _ _ _ _).drew)
        clear a0 af al b0 b1 b2 b3 d0 d1 d2 d3 bl c0 c1 c2 hg f1 f2
        rw [set4_fold]
        generalize World.drew (set4 _ _ _ _ _ _) = w9 at *
        have a0 := HA9.out.cell 0
        obtain ⟨b0, b1, b2, b3, -⟩ := HF9.out.four
        simp only [List.getElem?_cons_zero] at a0
        go_wp2
        refine bodyPost_ret (by simp [results, Tryd.results9, go_sem, a0, b0, b1, b2, b3]; rfl) rfl ?_
        rw [HE.out]
        exact ⟨rfl, by rw [HN.out.2.2.2]; exact HB9.out⟩
      | false =>
        rw [g8, Bool.false_or] at e8
        have ne1 : ¬ A = gc := by have := HN.out; omega
        have ne2 : ¬ gc = A := by have := HN.out; omega
        have ne3 : ¬ A = F := by have := HN.out; omega
        have ne4 : ¬ F = A := by have := HN.out; omega
        have a0 := HA0.out.cell 0
        have af := HA0.out.thaw 0
        have al := HA0.out.lt
        obtain ⟨b0, b1, b2, b3, d0, d1, d2, d3⟩ := HF0.out.four
        have bl := HF0.out.lt
        obtain ⟨c0, c1, c2, hg, f1, f2⟩ := HC0.out.at_
        go_upto_region 5 with fail
        go_region
        have HA9 := Lib.hid (show Own (set4 (wr.setCell ⟨A, 0, none⟩ (.slice none 0 0)) F (.int .i64 3) (.int .i64 (k : Int)) (.int .i64 0) (.int .i64 0)).drew A 24 [.slice none 0 0] from (((((HA0.out.put 0 (.slice none 0 0)).off (p := ⟨F, 0, none⟩) ne3 (.int .i64 3)).off (p := ⟨F, 1, none⟩) ne3 (.int .i64 (k : Int))).off (p := ⟨F, 2, none⟩) ne3 (.int .i64 0)).off (p := ⟨F, 3, none⟩) ne3 (.int .i64 0)).on_drew)
        have HF9 := Lib.hid (show Own (set4 (wr.setCell ⟨A, 0, none⟩ (.slice none 0 0)) F (.int .i64 3) (.int .i64 (k : Int)) (.int .i64 0) (.int .i64 0)).drew F 29 [.int .i64 3, .int .i64 (k : Int), .int .i64 0, .int .i64 0] from (Own.put4 (HF0.out.off (p := ⟨A, 0, none⟩) ne4 (.slice none 0 0))).on_drew)
        have HB9 := Lib.hid (show Below A w (set4 (wr.setCell ⟨A, 0, none⟩ (.slice none 0 0)) F (.int .i64 3) (.int .i64 (k : Int)) (.int .i64 0) (.int .i64 0)).drew from (below_put4 (HB0.out.setCell (p := ⟨A, 0, none⟩) (Nat.le_refl _) (.slice none 0 0)) (by have := HN.out; omega) _ _ _ _).drew)
        clear a0 af al b0 b1 b2 b3 d0 d1 d2 d3 bl c0 c1 c2 hg f1 f2
        rw [set4_fold]
        generalize World.drew (set4 _ _ _ _ _ _) = w9 at *
        have a0 := HA9.out.cell 0
        obtain ⟨b0, b1, b2, b3, -⟩ := HF9.out.four
        simp only [List.getElem?_cons_zero] at a0
        go_wp2
        refine bodyPost_ret (by simp [results, Tryd.results9, go_sem, a0, b0, b1, b2, b3]; rfl) rfl ?_
        rw [HE.out]
        exact ⟨rfl, by rw [HN.out.2.2.2]; exact HB9.out⟩
    · have HQ3 := Lib.hid HQ2.out
      rw [if_neg h8] at HQ3
      clear HQ2
      have e8 : ((n1 : Int) == 8) = false := beq_eq_false_iff_ne.2 (by omega)
      have e12 : ((n2 : Int) == 12) = false := beq_eq_false_iff_ne.2 (by omega)
      have hP7 : n1 < 8 := by omega
      have hL11 : n2 < 12 := by omega
      clear h8
      obtain ⟨ho1, ho2⟩ := hopR_bd hk
      have HHB := Lib.hid (And.intro ho1 ho2)
      clear ho1 ho2
      have HAX := Lib.hid (axR_bd s k hk)
      obtain ⟨o, ho⟩ : ∃ o, hopR s k = o := ⟨_, rfl⟩
      rw [ho] at HHB HQ3
      have HO := Lib.hid ho
      obtain ⟨k1, hk1⟩ : ∃ q, (axR s k).2 = q := ⟨_, rfl⟩
      obtain ⟨ax, hax1⟩ : ∃ q, (axR s k).1 = q := ⟨_, rfl⟩
      have HK1 := Lib.hid (And.intro hax1 hk1)
      have HCA := Lib.hid (fun W h => axis_any s HS.out gc k hk false W h)
      rw [hk1, hax1] at HCA HAX
      rw [hn2]
      clear hk1 hax1 ho
      have HMS := Lib.hid HC0.out.at_.2.1
      go_wp2_with fail
      refine (HCA.out _ HC0.out).mono ?_
      rintro e w2 ⟨rfl, hc2, hb2⟩
      have HC2 := Lib.hid (show Cur w2 gc s k1 false from hc2)
      have HA2 := Lib.hid (HA0.out.but hb2 (by have := HN.out; omega))
      have HF2 := Lib.hid (HF0.out.but hb2 (by have := HN.out; omega))
      have HQ2 := Lib.hid (HQ1.out.but hb2 (by have := HN.out; omega))
      have HP2 := Lib.hid (HP0.out.keep hb2 (fun b h1 h2 e => by have := HN.out; omega))
      have HB2 := Lib.hid (HB0.out.trans (hb2.below (B := A) (by have := HB0.out.size; have := HN.out; omega) (fun g hg => by have := HN.out; omega)))
      have HM2 := Lib.hid (show gq + 1 ≤ M ∧ M ≤ w2.heap.size from ⟨HM.out.1, Nat.le_trans HM.out.2 hb2.size⟩)
      clear hc2 hb2 HA0 HF0 HC0 HQ1 HP0 HB0 q0 hgql HM HCA
      obtain ⟨X, hX⟩ : ∃ X, w2.heap.size = X := ⟨_, rfl⟩
      have HXM := Lib.hid (show gq < X ∧ M ≤ X by rw [← hX]; have := HM2.out; omega)
      have HX3 := Lib.hid (show Own (w2.alloc (.cells #[.int .i64 ax, .int .i64 0, .string ⟨#[]⟩, .string ⟨#[]⟩, .string ⟨#[]⟩, .int .i64 0] 38)) X 38 [.int .i64 ax, .int .i64 0, .string ⟨#[]⟩, .string ⟨#[]⟩, .string ⟨#[]⟩, .int .i64 0] by rw [← hX]; exact Own.fresh w2 38 [.int .i64 ax, .int .i64 0, .string ⟨#[]⟩, .string ⟨#[]⟩, .string ⟨#[]⟩, .int .i64 0])
      have HC3 := Lib.hid (show Cur (w2.alloc (.cells #[.int .i64 ax, .int .i64 0, .string ⟨#[]⟩, .string ⟨#[]⟩, .string ⟨#[]⟩, .int .i64 0] 38)) gc s k1 false from HC2.out.on_alloc _)
      have HA3 := Lib.hid (HA2.out.on_alloc (.cells #[.int .i64 ax, .int .i64 0, .string ⟨#[]⟩, .string ⟨#[]⟩, .string ⟨#[]⟩, .int .i64 0] 38))
      have HF3 := Lib.hid (HF2.out.on_alloc (.cells #[.int .i64 ax, .int .i64 0, .string ⟨#[]⟩, .string ⟨#[]⟩, .string ⟨#[]⟩, .int .i64 0] 38))
      have HQ3' := Lib.hid (HQ2.out.on_alloc (.cells #[.int .i64 ax, .int .i64 0, .string ⟨#[]⟩, .string ⟨#[]⟩, .string ⟨#[]⟩, .int .i64 0] 38))
      have HP3 := Lib.hid (HP2.out.below ((Below.refl _ _).alloc (Nat.le_refl _) (.cells #[.int .i64 ax, .int .i64 0, .string ⟨#[]⟩, .string ⟨#[]⟩, .string ⟨#[]⟩, .int .i64 0] 38)))
      have HB3 := Lib.hid (HB2.out.alloc (by have := HB2.out.size; have := HN.out; omega) (.cells #[.int .i64 ax, .int .i64 0, .string ⟨#[]⟩, .string ⟨#[]⟩, .string ⟨#[]⟩, .int .i64 0] 38))
      have HS3 := Lib.hid (show (w2.alloc (.cells #[.int .i64 ax, .int .i64 0, .string ⟨#[]⟩, .string ⟨#[]⟩, .string ⟨#[]⟩, .int .i64 0] 38)).heap.size = X + 1 by rw [← hX]; simp)
      go_upto_region 7 with fail
      clear hX
      generalize World.alloc w2 _ = w3 at *
      clear HC2 HA2 HF2 HQ2 HP2 HB2 HM2
      obtain ⟨bz, hbz⟩ : ∃ b, (ax == 0) = b := ⟨_, rfl⟩
      have HBZ := Lib.hid hbz
      obtain ⟨c0, c1, c2, hg, f1, f2⟩ := HC3.out.at_
      obtain ⟨x0, x1, x2, x3, x4, x5, xg, -⟩ := HX3.out.six
      have HC4 := Lib.hid (show Cur (w3.setCell ⟨gc, 2, none⟩ (.bool bz)) gc s k1 bz from Cur.bad HC3.out bz)
      have HX4 := Lib.hid (HX3.out.off (p := ⟨gc, 2, none⟩) (by have := HN.out; have := HXM.out; simp; omega) (.bool bz))
      have HA4 := Lib.hid (HA3.out.off (p := ⟨gc, 2, none⟩) (by have := HN.out; simp; omega) (.bool bz))
      have HF4 := Lib.hid (HF3.out.off (p := ⟨gc, 2, none⟩) (by have := HN.out; simp; omega) (.bool bz))
      have HQ4 := Lib.hid (HQ3'.out.off (p := ⟨gc, 2, none⟩) (by have := HN.out; simp; omega) (.bool bz))
      have HP4 := Lib.hid (HP3.out.keep (But.put w3 gc 2 (.bool bz)) (fun b h1 h2 e => by have := HN.out; omega))
      have HB4 := Lib.hid (HB3.out.setCell (p := ⟨gc, 2, none⟩) (by have := HN.out; simp; omega) (.bool bz))
      have HS4 := Lib.hid (show (w3.setCell ⟨gc, 2, none⟩ (.bool bz)).heap.size = X + 1 by simpa [World.setCell] using HS3.out)
      go_upto_if 39 with (fail)
      generalize World.setCell w3 _ _ = w4 at *
      clear HC3 HX3 HA3 HF3 HQ3' HP3 HB3 HS3 c0 c1 c2 hg f1 f2 x0 x1 x2 x3 x4 x5 xg hbz
      go_cut [] (fun wx => ∃ row : List Value, Hid (Own wx X 38 row ∧ row.length = 6) ∧ Hid (Cur wx gc s (hpK o) (hpX o)) ∧ Hid (∀ h m, o = .ok (h, m) → row = hprow h) ∧ Hid (But (fun j => j = gc ∨ j = X) w4 wx))
      case first =>
        have HNX := Lib.hid (show X ≠ gc ∧ gc ≠ X by have := HN.out; have := HXM.out; omega)
        have HK1S := Lib.hid (show k1 ≤ s.size from HAX.out.2.1)
        cases bz with
        | true =>
          have h0 : ax = 0 := beq_iff_eq.1 HBZ.out
          have HE := Lib.hid (show o = .error k by rw [← HO.out]; unfold hopR; rw [if_pos (by rw [HK1.out.1]; exact h0)])
          have hkk : k1 = k := HAX.out.2.2.2.1 h0
          go_wp2_with fail
          go_meet
          exact ⟨[.int .i64 ax, .int .i64 0, .string ⟨#[]⟩, .string ⟨#[]⟩, .string ⟨#[]⟩, .int .i64 0], Lib.hid ⟨HX4.out, rfl⟩, by rw [HE.out]; rw [← hkk]; exact HC4, Lib.hid (fun h m e => by rw [HE.out] at e; cases e), Lib.hid (But.refl _ _)⟩
        | false =>
          have h0 : ¬ ax = 0 := beq_eq_false_iff_ne.1 HBZ.out
          have HAX0 := Lib.hid (show ¬ (axR s k).1 = 0 by rw [HK1.out.1]; exact h0)
          clear h0
          cases hw : whR s k1 with
          | none =>
            have HE := Lib.hid (show o = .error k1 by rw [← HO.out]; unfold hopR; rw [if_neg HAX0.out, HK1.out.2, hw])
            obtain ⟨y0, y1, y2, y3, y4, y5, yg, g0, g1, g2, g3, g4, g5⟩ := (show Own w4 X 38 [.int .i64 ax, .int .i64 0, .string ⟨#[]⟩, .string ⟨#[]⟩, .string ⟨#[]⟩, .int .i64 0] from HX4.out).six
            go_wp2_with fail
            refine (test_no ax HS.out HK1S.out hw _ HC4.out).mono ?_
            rintro e wv ⟨kd, nm, rfl, hc, hb⟩
            clear y0 y1 y2 y3 y4 y5 yg g0 g1 g2 g3 g4 g5
            have HXa := Lib.hid (HX4.out.but hb HNX.out.1)
            obtain ⟨y0, y1, y2, y3, y4, y5, yg, g0, g1, g2, g3, g4, g5⟩ := (show Own wv X 38 [.int .i64 ax, .int .i64 0, .string ⟨#[]⟩, .string ⟨#[]⟩, .string ⟨#[]⟩, .int .i64 0] from HXa.out).six
            have HCT := Lib.hid (show Cur (set6 wv X (.int .i64 ax) (.int .i64 kd) (.string nm) (.string ⟨#[]⟩) (.string ⟨#[]⟩) (.int .i64 0)) gc s k1 true from cur_six hc HNX.out.2 (.int .i64 ax) (.int .i64 kd) (.string nm) (.string ⟨#[]⟩) (.string ⟨#[]⟩) (.int .i64 0))
            have HBT := Lib.hid (show But (fun j => j = gc ∨ j = X) w4 (set6 wv X (.int .i64 ax) (.int .i64 kd) (.string nm) (.string ⟨#[]⟩) (.string ⟨#[]⟩) (.int .i64 0)) from but_six (((But.refl (fun j => j = gc ∨ j = X) w4).trans hb (fun _ _ h => .inl h))) (.inr rfl) (.int .i64 ax) (.int .i64 kd) (.string nm) (.string ⟨#[]⟩) (.string ⟨#[]⟩) (.int .i64 0))
            have HXT := Lib.hid (HXa.out.put6 (.int .i64 ax) (.int .i64 kd) (.string nm) (.string ⟨#[]⟩) (.string ⟨#[]⟩) (.int .i64 0))
            clear hc hb
            go_upto_region 10 with fail
            rw [set6_fold]
            clear HXa y0 y1 y2 y3 y4 y5 yg g0 g1 g2 g3 g4 g5
            generalize set6 wv _ _ _ _ _ _ _ = wq at *
            go_wp2_with fail
            refine (lit_bad s ⟨#[61]⟩ gc k1 _ HCT.out).mono ?_
            rintro e wv ⟨rfl, hc, hb⟩
            have HCa := Lib.hid (show Cur wv gc s k1 true from hc)
            have HBa := Lib.hid (HBT.out.trans hb (fun _ _ h => .inl h))
            have HXa := Lib.hid (HXT.out.but hb HNX.out.1)
            clear hc hb HCT HBT HXT
            obtain ⟨y0, y1, y2, y3, y4, y5, yg, g0, g1, g2, g3, g4, g5⟩ := (show Own wv X 38 [.int .i64 ax, .int .i64 kd, .string nm, .string ⟨#[]⟩, .string ⟨#[]⟩, .int .i64 0] from HXa.out).six
            have HCT := Lib.hid (show Cur (wv.setCell ⟨X, 3, none⟩ (.string ⟨#[]⟩)) gc s k1 true from HCa.out.off (p := ⟨X, 3, none⟩) HNX.out.2 (.string ⟨#[]⟩))
            have HBT := Lib.hid (HBa.out.setCell (p := ⟨X, 3, none⟩) (fun _ => .inr rfl) (.string ⟨#[]⟩))
            have HXT := Lib.hid (show Own (wv.setCell ⟨X, 3, none⟩ (.string ⟨#[]⟩)) X 38 [.int .i64 ax, .int .i64 kd, .string nm, .string ⟨#[]⟩, .string ⟨#[]⟩, .int .i64 0] from HXa.out.put 3 (.string ⟨#[]⟩))
            go_upto_region 11 with fail
            generalize World.setCell wv _ _ = wq at *
            clear HCa HBa HXa y0 y1 y2 y3 y4 y5 yg g0 g1 g2 g3 g4 g5
            go_wp2_with fail
            refine (lit_bad s ⟨#[126]⟩ gc k1 _ HCT.out).mono ?_
            rintro e wv ⟨rfl, hc, hb⟩
            have HCa := Lib.hid (show Cur wv gc s k1 true from hc)
            have HBa := Lib.hid (HBT.out.trans hb (fun _ _ h => .inl h))
            have HXa := Lib.hid (HXT.out.but hb HNX.out.1)
            clear hc hb HCT HBT HXT
            obtain ⟨y0, y1, y2, y3, y4, y5, yg, g0, g1, g2, g3, g4, g5⟩ := (show Own wv X 38 [.int .i64 ax, .int .i64 kd, .string nm, .string ⟨#[]⟩, .string ⟨#[]⟩, .int .i64 0] from HXa.out).six
            have HCT := Lib.hid (show Cur (wv.setCell ⟨X, 4, none⟩ (.string ⟨#[]⟩)) gc s k1 true from HCa.out.off (p := ⟨X, 4, none⟩) HNX.out.2 (.string ⟨#[]⟩))
            have HBT := Lib.hid (HBa.out.setCell (p := ⟨X, 4, none⟩) (fun _ => .inr rfl) (.string ⟨#[]⟩))
            have HXT := Lib.hid (show Own (wv.setCell ⟨X, 4, none⟩ (.string ⟨#[]⟩)) X 38 [.int .i64 ax, .int .i64 kd, .string nm, .string ⟨#[]⟩, .string ⟨#[]⟩, .int .i64 0] from HXa.out.put 4 (.string ⟨#[]⟩))
            go_upto_region 12 with fail
            generalize World.setCell wv _ _ = wq at *
            clear HCa HBa HXa y0 y1 y2 y3 y4 y5 yg g0 g1 g2 g3 g4 g5
            go_wp2_with fail
            refine (nth_bad s gc k1 _ HCT.out).mono ?_
            rintro e wv ⟨rfl, hc, hb⟩
            have HCa := Lib.hid (show Cur wv gc s k1 true from hc)
            have HBa := Lib.hid (HBT.out.trans hb (fun _ _ h => .inl h))
            have HXa := Lib.hid (HXT.out.but hb HNX.out.1)
            clear hc hb HCT HBT HXT
            obtain ⟨y0, y1, y2, y3, y4, y5, yg, g0, g1, g2, g3, g4, g5⟩ := (show Own wv X 38 [.int .i64 ax, .int .i64 kd, .string nm, .string ⟨#[]⟩, .string ⟨#[]⟩, .int .i64 0] from HXa.out).six
            have HCT := Lib.hid (show Cur (wv.setCell ⟨X, 5, none⟩ (.int .i64 0)) gc s k1 true from HCa.out.off (p := ⟨X, 5, none⟩) HNX.out.2 (.int .i64 0))
            have HBT := Lib.hid (HBa.out.setCell (p := ⟨X, 5, none⟩) (fun _ => .inr rfl) (.int .i64 0))
            have HXT := Lib.hid (show Own (wv.setCell ⟨X, 5, none⟩ (.int .i64 0)) X 38 [.int .i64 ax, .int .i64 kd, .string nm, .string ⟨#[]⟩, .string ⟨#[]⟩, .int .i64 0] from HXa.out.put 5 (.int .i64 0))
            go_wp2_with fail
            go_meet
            exact ⟨_, Lib.hid ⟨HXT.out, rfl⟩, by rw [HE.out]; exact HCT, Lib.hid (fun h m e => by rw [HE.out] at e; cases e), HBT⟩
          | some p =>
            obtain ⟨kd, nm, k2⟩ := p
            have hb2' := whR_bd HK1S.out hw
            have HK2S := Lib.hid (show k2 ≤ s.size from hb2'.2.1)
            clear hb2'
            cases hl1 : litR 61 s k2 with
            | error e1 =>
              have HE := Lib.hid (show o = .error e1 by rw [← HO.out]; unfold hopR; rw [if_neg HAX0.out, HK1.out.2, hw]; simp only [hl1])
              obtain ⟨y0, y1, y2, y3, y4, y5, yg, g0, g1, g2, g3, g4, g5⟩ := (show Own w4 X 38 [.int .i64 ax, .int .i64 0, .string ⟨#[]⟩, .string ⟨#[]⟩, .string ⟨#[]⟩, .int .i64 0] from HX4.out).six
              go_wp2_with fail
              refine (test_ok ax HS.out HK1S.out hw _ HC4.out).mono ?_
              rintro e wv ⟨rfl, hc, hb⟩
              clear y0 y1 y2 y3 y4 y5 yg g0 g1 g2 g3 g4 g5
              have HXa := Lib.hid (HX4.out.but hb HNX.out.1)
              obtain ⟨y0, y1, y2, y3, y4, y5, yg, g0, g1, g2, g3, g4, g5⟩ := (show Own wv X 38 [.int .i64 ax, .int .i64 0, .string ⟨#[]⟩, .string ⟨#[]⟩, .string ⟨#[]⟩, .int .i64 0] from HXa.out).six
              have HCT := Lib.hid (show Cur (set6 wv X (.int .i64 ax) (.int .i64 kd) (.string nm) (.string ⟨#[]⟩) (.string ⟨#[]⟩) (.int .i64 0)) gc s k2 false from cur_six hc HNX.out.2 (.int .i64 ax) (.int .i64 kd) (.string nm) (.string ⟨#[]⟩) (.string ⟨#[]⟩) (.int .i64 0))
              have HBT := Lib.hid (show But (fun j => j = gc ∨ j = X) w4 (set6 wv X (.int .i64 ax) (.int .i64 kd) (.string nm) (.string ⟨#[]⟩) (.string ⟨#[]⟩) (.int .i64 0)) from but_six (((But.refl (fun j => j = gc ∨ j = X) w4).trans hb (fun _ _ h => .inl h))) (.inr rfl) (.int .i64 ax) (.int .i64 kd) (.string nm) (.string ⟨#[]⟩) (.string ⟨#[]⟩) (.int .i64 0))
              have HXT := Lib.hid (HXa.out.put6 (.int .i64 ax) (.int .i64 kd) (.string nm) (.string ⟨#[]⟩) (.string ⟨#[]⟩) (.int .i64 0))
              clear hc hb
              go_upto_region 10 with fail
              rw [set6_fold]
              clear HXa y0 y1 y2 y3 y4 y5 yg g0 g1 g2 g3 g4 g5
              generalize set6 wv _ _ _ _ _ _ _ = wq at *
              go_wp2_with fail
              refine (lit_err (c := 61) HS.out HK2S.out hl1 _ HCT.out).mono ?_
              rintro e wv ⟨rfl, hc, hb⟩
              have HCa := Lib.hid (show Cur wv gc s e1 true from hc)
              have HBa := Lib.hid (HBT.out.trans hb (fun _ _ h => .inl h))
              have HXa := Lib.hid (HXT.out.but hb HNX.out.1)
              clear hc hb HCT HBT HXT
              obtain ⟨y0, y1, y2, y3, y4, y5, yg, g0, g1, g2, g3, g4, g5⟩ := (show Own wv X 38 [.int .i64 ax, .int .i64 kd, .string nm, .string ⟨#[]⟩, .string ⟨#[]⟩, .int .i64 0] from HXa.out).six
              have HCT := Lib.hid (show Cur (wv.setCell ⟨X, 3, none⟩ (.string ⟨#[]⟩)) gc s e1 true from HCa.out.off (p := ⟨X, 3, none⟩) HNX.out.2 (.string ⟨#[]⟩))
              have HBT := Lib.hid (HBa.out.setCell (p := ⟨X, 3, none⟩) (fun _ => .inr rfl) (.string ⟨#[]⟩))
              have HXT := Lib.hid (show Own (wv.setCell ⟨X, 3, none⟩ (.string ⟨#[]⟩)) X 38 [.int .i64 ax, .int .i64 kd, .string nm, .string ⟨#[]⟩, .string ⟨#[]⟩, .int .i64 0] from HXa.out.put 3 (.string ⟨#[]⟩))
              go_upto_region 11 with fail
              generalize World.setCell wv _ _ = wq at *
              clear HCa HBa HXa y0 y1 y2 y3 y4 y5 yg g0 g1 g2 g3 g4 g5
              go_wp2_with fail
              refine (lit_bad s ⟨#[126]⟩ gc e1 _ HCT.out).mono ?_
              rintro e wv ⟨rfl, hc, hb⟩
              have HCa := Lib.hid (show Cur wv gc s e1 true from hc)
              have HBa := Lib.hid (HBT.out.trans hb (fun _ _ h => .inl h))
              have HXa := Lib.hid (HXT.out.but hb HNX.out.1)
              clear hc hb HCT HBT HXT
              obtain ⟨y0, y1, y2, y3, y4, y5, yg, g0, g1, g2, g3, g4, g5⟩ := (show Own wv X 38 [.int .i64 ax, .int .i64 kd, .string nm, .string ⟨#[]⟩, .string ⟨#[]⟩, .int .i64 0] from HXa.out).six
              have HCT := Lib.hid (show Cur (wv.setCell ⟨X, 4, none⟩ (.string ⟨#[]⟩)) gc s e1 true from HCa.out.off (p := ⟨X, 4, none⟩) HNX.out.2 (.string ⟨#[]⟩))
              have HBT := Lib.hid (HBa.out.setCell (p := ⟨X, 4, none⟩) (fun _ => .inr rfl) (.string ⟨#[]⟩))
              have HXT := Lib.hid (show Own (wv.setCell ⟨X, 4, none⟩ (.string ⟨#[]⟩)) X 38 [.int .i64 ax, .int .i64 kd, .string nm, .string ⟨#[]⟩, .string ⟨#[]⟩, .int .i64 0] from HXa.out.put 4 (.string ⟨#[]⟩))
              go_upto_region 12 with fail
              generalize World.setCell wv _ _ = wq at *
              clear HCa HBa HXa y0 y1 y2 y3 y4 y5 yg g0 g1 g2 g3 g4 g5
              go_wp2_with fail
              refine (nth_bad s gc e1 _ HCT.out).mono ?_
              rintro e wv ⟨rfl, hc, hb⟩
              have HCa := Lib.hid (show Cur wv gc s e1 true from hc)
              have HBa := Lib.hid (HBT.out.trans hb (fun _ _ h => .inl h))
              have HXa := Lib.hid (HXT.out.but hb HNX.out.1)
              clear hc hb HCT HBT HXT
              obtain ⟨y0, y1, y2, y3, y4, y5, yg, g0, g1, g2, g3, g4, g5⟩ := (show Own wv X 38 [.int .i64 ax, .int .i64 kd, .string nm, .string ⟨#[]⟩, .string ⟨#[]⟩, .int .i64 0] from HXa.out).six
              have HCT := Lib.hid (show Cur (wv.setCell ⟨X, 5, none⟩ (.int .i64 0)) gc s e1 true from HCa.out.off (p := ⟨X, 5, none⟩) HNX.out.2 (.int .i64 0))
              have HBT := Lib.hid (HBa.out.setCell (p := ⟨X, 5, none⟩) (fun _ => .inr rfl) (.int .i64 0))
              have HXT := Lib.hid (show Own (wv.setCell ⟨X, 5, none⟩ (.int .i64 0)) X 38 [.int .i64 ax, .int .i64 kd, .string nm, .string ⟨#[]⟩, .string ⟨#[]⟩, .int .i64 0] from HXa.out.put 5 (.int .i64 0))
              go_wp2_with fail
              go_meet
              exact ⟨_, Lib.hid ⟨HXT.out, rfl⟩, by rw [HE.out]; exact HCT, Lib.hid (fun h m e => by rw [HE.out] at e; cases e), HBT⟩
            | ok p1 =>
              obtain ⟨u1, k3⟩ := p1
              have HK3S := Lib.hid (show k3 ≤ s.size from ((litR_bd HK2S.out).1 u1 k3 hl1).2.1)
              cases hl2 : litR 126 s k3 with
              | error e1 =>
                have HE := Lib.hid (show o = .error e1 by rw [← HO.out]; unfold hopR; rw [if_neg HAX0.out, HK1.out.2, hw]; simp only [hl1, hl2])
                obtain ⟨y0, y1, y2, y3, y4, y5, yg, g0, g1, g2, g3, g4, g5⟩ := (show Own w4 X 38 [.int .i64 ax, .int .i64 0, .string ⟨#[]⟩, .string ⟨#[]⟩, .string ⟨#[]⟩, .int .i64 0] from HX4.out).six
                go_wp2_with fail
                refine (test_ok ax HS.out HK1S.out hw _ HC4.out).mono ?_
                rintro e wv ⟨rfl, hc, hb⟩
                clear y0 y1 y2 y3 y4 y5 yg g0 g1 g2 g3 g4 g5
                have HXa := Lib.hid (HX4.out.but hb HNX.out.1)
                obtain ⟨y0, y1, y2, y3, y4, y5, yg, g0, g1, g2, g3, g4, g5⟩ := (show Own wv X 38 [.int .i64 ax, .int .i64 0, .string ⟨#[]⟩, .string ⟨#[]⟩, .string ⟨#[]⟩, .int .i64 0] from HXa.out).six
                have HCT := Lib.hid (show Cur (set6 wv X (.int .i64 ax) (.int .i64 kd) (.string nm) (.string ⟨#[]⟩) (.string ⟨#[]⟩) (.int .i64 0)) gc s k2 false from cur_six hc HNX.out.2 (.int .i64 ax) (.int .i64 kd) (.string nm) (.string ⟨#[]⟩) (.string ⟨#[]⟩) (.int .i64 0))
                have HBT := Lib.hid (show But (fun j => j = gc ∨ j = X) w4 (set6 wv X (.int .i64 ax) (.int .i64 kd) (.string nm) (.string ⟨#[]⟩) (.string ⟨#[]⟩) (.int .i64 0)) from but_six (((But.refl (fun j => j = gc ∨ j = X) w4).trans hb (fun _ _ h => .inl h))) (.inr rfl) (.int .i64 ax) (.int .i64 kd) (.string nm) (.string ⟨#[]⟩) (.string ⟨#[]⟩) (.int .i64 0))
                have HXT := Lib.hid (HXa.out.put6 (.int .i64 ax) (.int .i64 kd) (.string nm) (.string ⟨#[]⟩) (.string ⟨#[]⟩) (.int .i64 0))
                clear hc hb
                go_upto_region 10 with fail
                rw [set6_fold]
                clear HXa y0 y1 y2 y3 y4 y5 yg g0 g1 g2 g3 g4 g5
                generalize set6 wv _ _ _ _ _ _ _ = wq at *
                go_wp2_with fail
                refine (lit_ok (c := 61) HS.out HK2S.out hl1 _ HCT.out).mono ?_
                rintro e wv ⟨rfl, hc, hb⟩
                have HCa := Lib.hid (show Cur wv gc s k3 false from hc)
                have HBa := Lib.hid (HBT.out.trans hb (fun _ _ h => .inl h))
                have HXa := Lib.hid (HXT.out.but hb HNX.out.1)
                clear hc hb HCT HBT HXT
                obtain ⟨y0, y1, y2, y3, y4, y5, yg, g0, g1, g2, g3, g4, g5⟩ := (show Own wv X 38 [.int .i64 ax, .int .i64 kd, .string nm, .string ⟨#[]⟩, .string ⟨#[]⟩, .int .i64 0] from HXa.out).six
                have HCT := Lib.hid (show Cur (wv.setCell ⟨X, 3, none⟩ (.string u1)) gc s k3 false from HCa.out.off (p := ⟨X, 3, none⟩) HNX.out.2 (.string u1))
                have HBT := Lib.hid (HBa.out.setCell (p := ⟨X, 3, none⟩) (fun _ => .inr rfl) (.string u1))
                have HXT := Lib.hid (show Own (wv.setCell ⟨X, 3, none⟩ (.string u1)) X 38 [.int .i64 ax, .int .i64 kd, .string nm, .string u1, .string ⟨#[]⟩, .int .i64 0] from HXa.out.put 3 (.string u1))
                go_upto_region 11 with fail
                generalize World.setCell wv _ _ = wq at *
                clear HCa HBa HXa y0 y1 y2 y3 y4 y5 yg g0 g1 g2 g3 g4 g5
                go_wp2_with fail
                refine (lit_err (c := 126) HS.out HK3S.out hl2 _ HCT.out).mono ?_
                rintro e wv ⟨rfl, hc, hb⟩
                have HCa := Lib.hid (show Cur wv gc s e1 true from hc)
                have HBa := Lib.hid (HBT.out.trans hb (fun _ _ h => .inl h))
                have HXa := Lib.hid (HXT.out.but hb HNX.out.1)
                clear hc hb HCT HBT HXT
                obtain ⟨y0, y1, y2, y3, y4, y5, yg, g0, g1, g2, g3, g4, g5⟩ := (show Own wv X 38 [.int .i64 ax, .int .i64 kd, .string nm, .string u1, .string ⟨#[]⟩, .int .i64 0] from HXa.out).six
                have HCT := Lib.hid (show Cur (wv.setCell ⟨X, 4, none⟩ (.string ⟨#[]⟩)) gc s e1 true from HCa.out.off (p := ⟨X, 4, none⟩) HNX.out.2 (.string ⟨#[]⟩))
                have HBT := Lib.hid (HBa.out.setCell (p := ⟨X, 4, none⟩) (fun _ => .inr rfl) (.string ⟨#[]⟩))
                have HXT := Lib.hid (show Own (wv.setCell ⟨X, 4, none⟩ (.string ⟨#[]⟩)) X 38 [.int .i64 ax, .int .i64 kd, .string nm, .string u1, .string ⟨#[]⟩, .int .i64 0] from HXa.out.put 4 (.string ⟨#[]⟩))
                go_upto_region 12 with fail
                generalize World.setCell wv _ _ = wq at *
                clear HCa HBa HXa y0 y1 y2 y3 y4 y5 yg g0 g1 g2 g3 g4 g5
                go_wp2_with fail
                refine (nth_bad s gc e1 _ HCT.out).mono ?_
                rintro e wv ⟨rfl, hc, hb⟩
                have HCa := Lib.hid (show Cur wv gc s e1 true from hc)
                have HBa := Lib.hid (HBT.out.trans hb (fun _ _ h => .inl h))
                have HXa := Lib.hid (HXT.out.but hb HNX.out.1)
                clear hc hb HCT HBT HXT
                obtain ⟨y0, y1, y2, y3, y4, y5, yg, g0, g1, g2, g3, g4, g5⟩ := (show Own wv X 38 [.int .i64 ax, .int .i64 kd, .string nm, .string u1, .string ⟨#[]⟩, .int .i64 0] from HXa.out).six
                have HCT := Lib.hid (show Cur (wv.setCell ⟨X, 5, none⟩ (.int .i64 0)) gc s e1 true from HCa.out.off (p := ⟨X, 5, none⟩) HNX.out.2 (.int .i64 0))
                have HBT := Lib.hid (HBa.out.setCell (p := ⟨X, 5, none⟩) (fun _ => .inr rfl) (.int .i64 0))
                have HXT := Lib.hid (show Own (wv.setCell ⟨X, 5, none⟩ (.int .i64 0)) X 38 [.int .i64 ax, .int .i64 kd, .string nm, .string u1, .string ⟨#[]⟩, .int .i64 0] from HXa.out.put 5 (.int .i64 0))
                go_wp2_with fail
                go_meet
                exact ⟨_, Lib.hid ⟨HXT.out, rfl⟩, by rw [HE.out]; exact HCT, Lib.hid (fun h m e => by rw [HE.out] at e; cases e), HBT⟩
              | ok p2 =>
                obtain ⟨u2, k4⟩ := p2
                have HK4S := Lib.hid (show k4 ≤ s.size from ((litR_bd HK3S.out).1 u2 k4 hl2).2.1)
                cases hn : nthR s k4 with
                | error e1 =>
                  have HE := Lib.hid (show o = .error e1 by rw [← HO.out]; unfold hopR; rw [if_neg HAX0.out, HK1.out.2, hw]; simp only [hl1, hl2, hn])
                  obtain ⟨y0, y1, y2, y3, y4, y5, yg, g0, g1, g2, g3, g4, g5⟩ := (show Own w4 X 38 [.int .i64 ax, .int .i64 0, .string ⟨#[]⟩, .string ⟨#[]⟩, .string ⟨#[]⟩, .int .i64 0] from HX4.out).six
                  go_wp2_with fail
                  refine (test_ok ax HS.out HK1S.out hw _ HC4.out).mono ?_
                  rintro e wv ⟨rfl, hc, hb⟩
                  clear y0 y1 y2 y3 y4 y5 yg g0 g1 g2 g3 g4 g5
                  have HXa := Lib.hid (HX4.out.but hb HNX.out.1)
                  obtain ⟨y0, y1, y2, y3, y4, y5, yg, g0, g1, g2, g3, g4, g5⟩ := (show Own wv X 38 [.int .i64 ax, .int .i64 0, .string ⟨#[]⟩, .string ⟨#[]⟩, .string ⟨#[]⟩, .int .i64 0] from HXa.out).six
                  have HCT := Lib.hid (show Cur (set6 wv X (.int .i64 ax) (.int .i64 kd) (.string nm) (.string ⟨#[]⟩) (.string ⟨#[]⟩) (.int .i64 0)) gc s k2 false from cur_six hc HNX.out.2 (.int .i64 ax) (.int .i64 kd) (.string nm) (.string ⟨#[]⟩) (.string ⟨#[]⟩) (.int .i64 0))
                  have HBT := Lib.hid (show But (fun j => j = gc ∨ j = X) w4 (set6 wv X (.int .i64 ax) (.int .i64 kd) (.string nm) (.string ⟨#[]⟩) (.string ⟨#[]⟩) (.int .i64 0)) from but_six (((But.refl (fun j => j = gc ∨ j = X) w4).trans hb (fun _ _ h => .inl h))) (.inr rfl) (.int .i64 ax) (.int .i64 kd) (.string nm) (.string ⟨#[]⟩) (.string ⟨#[]⟩) (.int .i64 0))
                  have HXT := Lib.hid (HXa.out.put6 (.int .i64 ax) (.int .i64 kd) (.string nm) (.string ⟨#[]⟩) (.string ⟨#[]⟩) (.int .i64 0))
                  clear hc hb
                  go_upto_region 10 with fail
                  rw [set6_fold]
                  clear HXa y0 y1 y2 y3 y4 y5 yg g0 g1 g2 g3 g4 g5
                  generalize set6 wv _ _ _ _ _ _ _ = wq at *
                  go_wp2_with fail
                  refine (lit_ok (c := 61) HS.out HK2S.out hl1 _ HCT.out).mono ?_
                  rintro e wv ⟨rfl, hc, hb⟩
                  have HCa := Lib.hid (show Cur wv gc s k3 false from hc)
                  have HBa := Lib.hid (HBT.out.trans hb (fun _ _ h => .inl h))
                  have HXa := Lib.hid (HXT.out.but hb HNX.out.1)
                  clear hc hb HCT HBT HXT
                  obtain ⟨y0, y1, y2, y3, y4, y5, yg, g0, g1, g2, g3, g4, g5⟩ := (show Own wv X 38 [.int .i64 ax, .int .i64 kd, .string nm, .string ⟨#[]⟩, .string ⟨#[]⟩, .int .i64 0] from HXa.out).six
                  have HCT := Lib.hid (show Cur (wv.setCell ⟨X, 3, none⟩ (.string u1)) gc s k3 false from HCa.out.off (p := ⟨X, 3, none⟩) HNX.out.2 (.string u1))
                  have HBT := Lib.hid (HBa.out.setCell (p := ⟨X, 3, none⟩) (fun _ => .inr rfl) (.string u1))
                  have HXT := Lib.hid (show Own (wv.setCell ⟨X, 3, none⟩ (.string u1)) X 38 [.int .i64 ax, .int .i64 kd, .string nm, .string u1, .string ⟨#[]⟩, .int .i64 0] from HXa.out.put 3 (.string u1))
                  go_upto_region 11 with fail
                  generalize World.setCell wv _ _ = wq at *
                  clear HCa HBa HXa y0 y1 y2 y3 y4 y5 yg g0 g1 g2 g3 g4 g5
                  go_wp2_with fail
                  refine (lit_ok (c := 126) HS.out HK3S.out hl2 _ HCT.out).mono ?_
                  rintro e wv ⟨rfl, hc, hb⟩
                  have HCa := Lib.hid (show Cur wv gc s k4 false from hc)
                  have HBa := Lib.hid (HBT.out.trans hb (fun _ _ h => .inl h))
                  have HXa := Lib.hid (HXT.out.but hb HNX.out.1)
                  clear hc hb HCT HBT HXT
                  obtain ⟨y0, y1, y2, y3, y4, y5, yg, g0, g1, g2, g3, g4, g5⟩ := (show Own wv X 38 [.int .i64 ax, .int .i64 kd, .string nm, .string u1, .string ⟨#[]⟩, .int .i64 0] from HXa.out).six
                  have HCT := Lib.hid (show Cur (wv.setCell ⟨X, 4, none⟩ (.string u2)) gc s k4 false from HCa.out.off (p := ⟨X, 4, none⟩) HNX.out.2 (.string u2))
                  have HBT := Lib.hid (HBa.out.setCell (p := ⟨X, 4, none⟩) (fun _ => .inr rfl) (.string u2))
                  have HXT := Lib.hid (show Own (wv.setCell ⟨X, 4, none⟩ (.string u2)) X 38 [.int .i64 ax, .int .i64 kd, .string nm, .string u1, .string u2, .int .i64 0] from HXa.out.put 4 (.string u2))
                  go_upto_region 12 with fail
                  generalize World.setCell wv _ _ = wq at *
                  clear HCa HBa HXa y0 y1 y2 y3 y4 y5 yg g0 g1 g2 g3 g4 g5
                  go_wp2_with fail
                  refine (nth_err HS.out HK4S.out hn _ HCT.out).mono ?_
                  rintro e wv ⟨n, rfl, hc, hb⟩
                  have HCa := Lib.hid (show Cur wv gc s e1 true from hc)
                  have HBa := Lib.hid (HBT.out.trans hb (fun _ _ h => .inl h))
                  have HXa := Lib.hid (HXT.out.but hb HNX.out.1)
                  clear hc hb HCT HBT HXT
                  obtain ⟨y0, y1, y2, y3, y4, y5, yg, g0, g1, g2, g3, g4, g5⟩ := (show Own wv X 38 [.int .i64 ax, .int .i64 kd, .string nm, .string u1, .string u2, .int .i64 0] from HXa.out).six
                  have HCT := Lib.hid (show Cur (wv.setCell ⟨X, 5, none⟩ (.int .i64 n)) gc s e1 true from HCa.out.off (p := ⟨X, 5, none⟩) HNX.out.2 (.int .i64 n))
                  have HBT := Lib.hid (HBa.out.setCell (p := ⟨X, 5, none⟩) (fun _ => .inr rfl) (.int .i64 n))
                  have HXT := Lib.hid (show Own (wv.setCell ⟨X, 5, none⟩ (.int .i64 n)) X 38 [.int .i64 ax, .int .i64 kd, .string nm, .string u1, .string u2, .int .i64 n] from HXa.out.put 5 (.int .i64 n))
                  go_wp2_with fail
                  go_meet
                  exact ⟨_, Lib.hid ⟨HXT.out, rfl⟩, by rw [HE.out]; exact HCT, Lib.hid (fun h m e => by rw [HE.out] at e; cases e), HBT⟩
                | ok p3 =>
                  obtain ⟨n, k5⟩ := p3
                  have HE := Lib.hid (show o = .ok (⟨ax, kd, nm, u1, u2, n⟩, k5) by rw [← HO.out]; unfold hopR; rw [if_neg HAX0.out, HK1.out.2, hw]; simp only [hl1, hl2, hn, HK1.out.1])
                  obtain ⟨y0, y1, y2, y3, y4, y5, yg, g0, g1, g2, g3, g4, g5⟩ := (show Own w4 X 38 [.int .i64 ax, .int .i64 0, .string ⟨#[]⟩, .string ⟨#[]⟩, .string ⟨#[]⟩, .int .i64 0] from HX4.out).six
                  go_wp2_with fail
                  refine (test_ok ax HS.out HK1S.out hw _ HC4.out).mono ?_
                  rintro e wv ⟨rfl, hc, hb⟩
                  clear y0 y1 y2 y3 y4 y5 yg g0 g1 g2 g3 g4 g5
                  have HXa := Lib.hid (HX4.out.but hb HNX.out.1)
                  obtain ⟨y0, y1, y2, y3, y4, y5, yg, g0, g1, g2, g3, g4, g5⟩ := (show Own wv X 38 [.int .i64 ax, .int .i64 0, .string ⟨#[]⟩, .string ⟨#[]⟩, .string ⟨#[]⟩, .int .i64 0] from HXa.out).six
                  have HCT := Lib.hid (show Cur (set6 wv X (.int .i64 ax) (.int .i64 kd) (.string nm) (.string ⟨#[]⟩) (.string ⟨#[]⟩) (.int .i64 0)) gc s k2 false from cur_six hc HNX.out.2 (.int .i64 ax) (.int .i64 kd) (.string nm) (.string ⟨#[]⟩) (.string ⟨#[]⟩) (.int .i64 0))
                  have HBT := Lib.hid (show But (fun j => j = gc ∨ j = X) w4 (set6 wv X (.int .i64 ax) (.int .i64 kd) (.string nm) (.string ⟨#[]⟩) (.string ⟨#[]⟩) (.int .i64 0)) from but_six (((But.refl (fun j => j = gc ∨ j = X) w4).trans hb (fun _ _ h => .inl h))) (.inr rfl) (.int .i64 ax) (.int .i64 kd) (.string nm) (.string ⟨#[]⟩) (.string ⟨#[]⟩) (.int .i64 0))
                  have HXT := Lib.hid (HXa.out.put6 (.int .i64 ax) (.int .i64 kd) (.string nm) (.string ⟨#[]⟩) (.string ⟨#[]⟩) (.int .i64 0))
                  clear hc hb
                  go_upto_region 10 with fail
                  rw [set6_fold]
                  clear HXa y0 y1 y2 y3 y4 y5 yg g0 g1 g2 g3 g4 g5
                  generalize set6 wv _ _ _ _ _ _ _ = wq at *
                  go_wp2_with fail
                  refine (lit_ok (c := 61) HS.out HK2S.out hl1 _ HCT.out).mono ?_
                  rintro e wv ⟨rfl, hc, hb⟩
                  have HCa := Lib.hid (show Cur wv gc s k3 false from hc)
                  have HBa := Lib.hid (HBT.out.trans hb (fun _ _ h => .inl h))
                  have HXa := Lib.hid (HXT.out.but hb HNX.out.1)
                  clear hc hb HCT HBT HXT
                  obtain ⟨y0, y1, y2, y3, y4, y5, yg, g0, g1, g2, g3, g4, g5⟩ := (show Own wv X 38 [.int .i64 ax, .int .i64 kd, .string nm, .string ⟨#[]⟩, .string ⟨#[]⟩, .int .i64 0] from HXa.out).six
                  have HCT := Lib.hid (show Cur (wv.setCell ⟨X, 3, none⟩ (.string u1)) gc s k3 false from HCa.out.off (p := ⟨X, 3, none⟩) HNX.out.2 (.string u1))
                  have HBT := Lib.hid (HBa.out.setCell (p := ⟨X, 3, none⟩) (fun _ => .inr rfl) (.string u1))
                  have HXT := Lib.hid (show Own (wv.setCell ⟨X, 3, none⟩ (.string u1)) X 38 [.int .i64 ax, .int .i64 kd, .string nm, .string u1, .string ⟨#[]⟩, .int .i64 0] from HXa.out.put 3 (.string u1))
                  go_upto_region 11 with fail
                  generalize World.setCell wv _ _ = wq at *
                  clear HCa HBa HXa y0 y1 y2 y3 y4 y5 yg g0 g1 g2 g3 g4 g5
                  go_wp2_with fail
                  refine (lit_ok (c := 126) HS.out HK3S.out hl2 _ HCT.out).mono ?_
                  rintro e wv ⟨rfl, hc, hb⟩
                  have HCa := Lib.hid (show Cur wv gc s k4 false from hc)
                  have HBa := Lib.hid (HBT.out.trans hb (fun _ _ h => .inl h))
                  have HXa := Lib.hid (HXT.out.but hb HNX.out.1)
                  clear hc hb HCT HBT HXT
                  obtain ⟨y0, y1, y2, y3, y4, y5, yg, g0, g1, g2, g3, g4, g5⟩ := (show Own wv X 38 [.int .i64 ax, .int .i64 kd, .string nm, .string u1, .string ⟨#[]⟩, .int .i64 0] from HXa.out).six
                  have HCT := Lib.hid (show Cur (wv.setCell ⟨X, 4, none⟩ (.string u2)) gc s k4 false from HCa.out.off (p := ⟨X, 4, none⟩) HNX.out.2 (.string u2))
                  have HBT := Lib.hid (HBa.out.setCell (p := ⟨X, 4, none⟩) (fun _ => .inr rfl) (.string u2))
                  have HXT := Lib.hid (show Own (wv.setCell ⟨X, 4, none⟩ (.string u2)) X 38 [.int .i64 ax, .int .i64 kd, .string nm, .string u1, .string u2, .int .i64 0] from HXa.out.put 4 (.string u2))
                  go_upto_region 12 with fail
                  generalize World.setCell wv _ _ = wq at *
                  clear HCa HBa HXa y0 y1 y2 y3 y4 y5 yg g0 g1 g2 g3 g4 g5
                  go_wp2_with fail
                  refine (nth_ok HS.out HK4S.out hn _ HCT.out).mono ?_
                  rintro e wv ⟨rfl, hc, hb⟩
                  have HCa := Lib.hid (show Cur wv gc s k5 false from hc)
                  have HBa := Lib.hid (HBT.out.trans hb (fun _ _ h => .inl h))
                  have HXa := Lib.hid (HXT.out.but hb HNX.out.1)
                  clear hc hb HCT HBT HXT
                  obtain ⟨y0, y1, y2, y3, y4, y5, yg, g0, g1, g2, g3, g4, g5⟩ := (show Own wv X 38 [.int .i64 ax, .int .i64 kd, .string nm, .string u1, .string u2, .int .i64 0] from HXa.out).six
                  have HCT := Lib.hid (show Cur (wv.setCell ⟨X, 5, none⟩ (.int .i64 n)) gc s k5 false from HCa.out.off (p := ⟨X, 5, none⟩) HNX.out.2 (.int .i64 n))
                  have HBT := Lib.hid (HBa.out.setCell (p := ⟨X, 5, none⟩) (fun _ => .inr rfl) (.int .i64 n))
                  have HXT := Lib.hid (show Own (wv.setCell ⟨X, 5, none⟩ (.int .i64 n)) X 38 [.int .i64 ax, .int .i64 kd, .string nm, .string u1, .string u2, .int .i64 n] from HXa.out.put 5 (.int .i64 n))
                  go_wp2_with fail
                  go_meet
                  exact ⟨_, Lib.hid ⟨HXT.out, rfl⟩, by rw [HE.out]; exact HCT, Lib.hid (fun h m e => by rw [HE.out] at e; injection e with e; injection e with e1 e2; rw [← e1]; rfl), HBT⟩
      case rest =>
        obtain ⟨row, HXR, HCR, HRR, HBR⟩ := hcut
        have HA5 := Lib.hid (HA4.out.but HBR.out (by have := HN.out; have := HXM.out; omega))
        have HF5 := Lib.hid (HF4.out.but HBR.out (by have := HN.out; have := HXM.out; omega))
        have HQ5 := Lib.hid (HQ4.out.but HBR.out (by have := HN.out; have := HXM.out; omega))
        have HP5 := Lib.hid (HP4.out.keep HBR.out (fun b h1 h2 e => by have := HN.out; have := HXM.out; omega))
        have HB5 := Lib.hid (HB4.out.trans (HBR.out.below (B := A) (by rw [HS4.out]; have := HXM.out; have := HN.out; omega) (fun g hg => by have := HN.out; have := HXM.out; omega)))
        have HS5 := Lib.hid (show X < wc.heap.size from HXR.out.1.lt)
        clear HA4 HF4 HQ4 HP4 HB4 HS4 HX4 HC4 HBR
        cases o with
        | error e1 =>
          have HE := Lib.hid (show res = .error (2, e1) from HQ3.out)
          have HC5 := Lib.hid (show Cur wc gc s e1 true from HCR.out)
          clear HQ3 HXR HCR HRR
          have ne1 : ¬ A = gc := by have := HN.out; omega
          have ne2 : ¬ gc = A := by have := HN.out; omega
          have ne3 : ¬ A = F := by have := HN.out; omega
          have ne4 : ¬ F = A := by have := HN.out; omega
          have a0 := HA5.out.cell 0
          have af := HA5.out.thaw 0
          have al := HA5.out.lt
          obtain ⟨b0, b1, b2, b3, d0, d1, d2, d3⟩ := HF5.out.four
          have bl := HF5.out.lt
          obtain ⟨c0, c1, c2, hg, f1, f2⟩ := HC5.out.at_
          go_upto_region 14 with fail
          go_region
          have HA9 := Lib.hid (show Own (set4 (wc.setCell ⟨A, 0, none⟩ (.slice none 0 0)) F (.int .i64 2) (.int .i64 (e1 : Int)) (.int .i64 0) (.int .i64 0)).drew A 24 [.slice none 0 0] from (((((HA5.out.put 0 (.slice none 0 0)).off (p := ⟨F, 0, none⟩) ne3 (.int .i64 2)).off (p := ⟨F, 1, none⟩) ne3 (.int .i64 (e1 : Int))).off (p := ⟨F, 2, none⟩) ne3 (.int .i64 0)).off (p := ⟨F, 3, none⟩) ne3 (.int .i64 0)).on_drew)
          have HF9 := Lib.hid (show Own (set4 (wc.setCell ⟨A, 0, none⟩ (.slice none 0 0)) F (.int .i64 2) (.int .i64 (e1 : Int)) (.int .i64 0) (.int .i64 0)).drew F 29 [.int .i64 2, .int .i64 (e1 : Int), .int .i64 0, .int .i64 0] from (Own.put4 (HF5.out.off (p := ⟨A, 0, none⟩) ne4 (.slice none 0 0))).on_drew)
          have HB9 := Lib.hid (show Below A w (set4 (wc.setCell ⟨A, 0, none⟩ (.slice none 0 0)) F (.int .i64 2) (.int .i64 (e1 : Int)) (.int .i64 0) (.int .i64 0)).drew from (below_put4 (HB5.out.setCell (p := ⟨A, 0, none⟩) (Nat.le_refl _) (.slice none 0 0)) (by have := HN.out; omega) _ _ _ _).drew)
          clear a0 af al b0 b1 b2 b3 d0 d1 d2 d3 bl c0 c1 c2 hg f1 f2
          rw [set4_fold]
          generalize World.drew (set4 _ _ _ _ _ _) = w9 at *
          have a0 := HA9.out.cell 0
          obtain ⟨b0, b1, b2, b3, -⟩ := HF9.out.four
          simp only [List.getElem?_cons_zero] at a0
          go_wp2
          refine bodyPost_ret (by simp [results, Tryd.results9, go_sem, a0, b0, b1, b2, b3]; rfl) rfl ?_
          rw [HE.out]
          exact ⟨rfl, by rw [HN.out.2.2.2]; exact HB9.out⟩
        | ok p =>
          obtain ⟨h, m⟩ := p
          have hm := HHB.out.1 h m rfl
          have hrow : row = hprow h := HRR.out h m rfl
          subst hrow
          have HX5 := Lib.hid HXR.out.1
          have HC5 := Lib.hid (show Cur wc gc s m false from HCR.out)
          have HQN := Lib.hid (show res = (if m = s.size then .ok (P ++ [L ++ [h]]) else if tk s m [124] = true then qF s (f - 1) (m + 1) (P ++ [L ++ [h]]) [] else qF s (f - 1) m P (L ++ [h])) from HQ3.out)
          clear HQ3 HXR HCR HRR HHB HO
          obtain ⟨R, S, T, cs, s1, s2, s3, s4, s5, s6⟩ := HP5.out
          rw [HN12.out.2] at s6
          obtain ⟨i0, hi, hz0, hz1, hz2⟩ := info_parts9 info_hop
          obtain ⟨x0, x1, x2, x3, x4, x5, xg, -⟩ := (show Own wc X 38 [.int .i64 h.ax, .int .i64 h.kd, .string h.nm, .string h.is, .string h.has, .int .i64 h.nth] from HX5.out).six
          obtain ⟨c0, c1, c2, hg, f1, f2⟩ := HC5.out.at_
          have HNEW := Lib.hid (fun W => fresh_news W 38 (hprow h))
          have HCEL := Lib.hid (show ∀ u ∈ hprow h, u.oneCell' = true by intro u hu; simp [hprow] at hu; rcases hu with rfl | rfl | rfl | rfl | rfl | rfl <;> rfl)
          have HTUB := Lib.hid (show ∀ b, T b → gq < b ∧ b < M from fun b hb => by have := s1 b (.inr (.inr hb)); omega)
          have hML : M ≤ wc.heap.size := by have := HXM.out; have := HS5.out; omega
          go_wp2_with (first
            | (at_builtin; refine wpList_append_win _ rfl _ _ 36 rfl T 38 i0 _ 6 72 Tryd.underlying36 hi hz0 hz1 hz2 rfl (by decide) _ n2 (L.flatMap hprow) rfl (s6.below ((Below.refl _ _).alloc (Nat.le_refl _) _)) ⟨wc.heap.size, 0, none⟩ 1 1 (hprow h) rfl rfl (HNEW.out wc) HCEL.out (by unfold maxLen; omega) (by omega) ?_))
          intro v' w7 hw7 hb7
          have h57 : Below wc.heap.size wc (wc.alloc (.cells #[.int .i64 h.ax, .int .i64 h.kd, .string h.nm, .string h.is, .string h.has, .int .i64 h.nth] 38)) := (Below.refl _ _).alloc (Nat.le_refl _) _
          have HP6 := Lib.hid (PS.hop (w := wc.alloc (.cells #[.int .i64 h.ax, .int .i64 h.kd, .string h.nm, .string h.is, .string h.has, .int .i64 h.nth] 38)) (M := M) (B := gq + 1) (h := h) (L := L) (by simp; omega) (by simp; have := HXM.out; have := HS5.out; omega) s1 s2 s3 (s4.below h57) (s5.keep (U := fun _ => False) (But.of_below h57) (fun _ _ _ h => h)) (by rw [HN12.out.2]; exact hw7.mono (fun g _ hg => by simpa using hg)) hb7)
          have HA6 := Lib.hid ((HA5.out.on_alloc (.cells #[.int .i64 h.ax, .int .i64 h.kd, .string h.nm, .string h.is, .string h.has, .int .i64 h.nth] 38)).but hb7 (fun h => by have := HTUB.out _ h; have := HN.out; omega))
          have HF6 := Lib.hid ((HF5.out.on_alloc (.cells #[.int .i64 h.ax, .int .i64 h.kd, .string h.nm, .string h.is, .string h.has, .int .i64 h.nth] 38)).but hb7 (fun h => by have := HTUB.out _ h; have := HN.out; omega))
          have HC6 := Lib.hid (show Cur w7 gc s m false from (Own.on_alloc HC5.out (.cells #[.int .i64 h.ax, .int .i64 h.kd, .string h.nm, .string h.is, .string h.has, .int .i64 h.nth] 38)).but hb7 (fun h => by have := HTUB.out _ h; have := HN.out; omega))
          have HQ6 := Lib.hid ((HQ5.out.on_alloc (.cells #[.int .i64 h.ax, .int .i64 h.kd, .string h.nm, .string h.is, .string h.has, .int .i64 h.nth] 38)).but hb7 (fun h => by have := HTUB.out _ h; omega))
          have HB6 := Lib.hid ((HB5.out.alloc (by have := HQ5.out.lt; have := HN.out; omega) (.cells #[.int .i64 h.ax, .int .i64 h.kd, .string h.nm, .string h.is, .string h.has, .int .i64 h.nth] 38)).trans (hb7.below (B := A) (by simp; have := HQ5.out.lt; have := HN.out; omega) (fun g hg => by have := HTUB.out _ hg; have := HN.out; omega)))
          clear hw7 hb7 h57 s1 s2 s3 s4 s5 s6 x0 x1 x2 x3 x4 x5 xg c0 c1 c2 hg f1 f2 HP5 HA5 HF5 HC5 HQ5 HB5 HX5 HS5 HTUB hML
          obtain ⟨c0, c1, c2, hg, f1, f2⟩ := HC6.out.at_
          have HML7 := Lib.hid (show gq + 1 ≤ w7.heap.size from HQ6.out.lt)
          have HM7 := Lib.hid (show w7.heap.size ≤ w7.heap.size from Nat.le_refl _)
          obtain ⟨M7, hM7⟩ : ∃ M, w7.heap.size = M := ⟨_, rfl⟩
          have HMM := Lib.hid (show gq + 1 ≤ M7 by rw [← hM7]; exact HML7.out)
          rw [hM7] at HP6
          have HM8 := Lib.hid (show M7 ≤ w7.heap.size by rw [hM7]; exact Nat.le_refl _)
          clear hM7 HM7
          by_cases hms : m = s.size
          · have HE := Lib.hid (show res = .ok (P ++ [L ++ [h]]) by rw [HQN.out, if_pos hms])
            have e9 : ((m : Int) == (s.size : Int)) = true := beq_iff_eq.2 (by omega)
            clear HQN
            go_upto_region 17 with fail
            clear c0 c1 c2 hg f1 f2
            obtain ⟨R, S, T, cs, s1, s2, s3, s4, s5, s6⟩ := HP6.out
            rw [HN12.out.1] at s4
            obtain ⟨j0, gi, gz0, gz1, gz2⟩ := info_parts9 info_path
            have q0 : w7.cell? ⟨gq, 0, none⟩ = some (.slice qo n1 qc) := by rw [← HN12.out.1]; exact HQ6.out.cell 0
            have hql := HQ6.out.lt
            obtain ⟨-, ⟨po', pc', hvf⟩⟩ := HP6.out.form
            rw [List.length_append, HN12.out.2] at hvf
            have hvf' : v' = .slice po' (n2 + 1) pc' := hvf
            subst hvf'
            clear hvf
            have HNEW2 := Lib.hid (fun W => fresh_news W 36 [.slice po' (n2 + 1) pc'])
            have HSUB := Lib.hid (show ∀ b, S b → gq < b ∧ b < w7.heap.size from fun b hb => by have := s1 b (.inr (.inl hb)); have := HM8.out; omega)
            go_wp2_with (first
              | (at_builtin; refine wpList_append_win _ rfl _ _ 22 rfl S 36 j0 _ 1 24 Tryd.underlying22 gi gz0 gz1 gz2 rfl (by decide) _ n1 cs rfl (s4.below ((Below.refl _ _).alloc (Nat.le_refl _) _)) ⟨w7.heap.size, 0, none⟩ 1 1 [.slice po' (n2 + 1) pc'] rfl rfl (HNEW2.out w7) (by intro u hu; rw [List.mem_singleton.1 hu]; rfl) (by unfold maxLen; omega) (by omega) ?_))
            intro q' w8 hw8 hb8
            have h78 : Below w7.heap.size w7 (w7.alloc (.cells #[.slice po' (n2 + 1) pc'] 36)) := (Below.refl _ _).alloc (Nat.le_refl _) _
            have HSZ8 := Lib.hid (show w7.heap.size < w8.heap.size by have := hb8.size; simp at this; omega)
            have HP8 := Lib.hid (PS.path (w := w7.alloc (.cells #[.slice po' (n2 + 1) pc'] 36)) (M := M7) (B := gq + 1) (by simp; have := HM8.out; omega) (by simp; have := HM8.out; have := HMM.out; omega) s1 s2 s3 (s5.keep (U := fun _ => False) (But.of_below h78) (fun _ _ _ h => h)) (s6.below h78) (by rw [HN12.out.1]; exact hw8.mono (fun g _ hg => by simpa using hg)) hb8)
            have HA8 := Lib.hid ((HA6.out.on_alloc (.cells #[.slice po' (n2 + 1) pc'] 36)).but hb8 (fun h => by have := HSUB.out _ h; have := HN.out; omega))
            have HF8 := Lib.hid ((HF6.out.on_alloc (.cells #[.slice po' (n2 + 1) pc'] 36)).but hb8 (fun h => by have := HSUB.out _ h; have := HN.out; omega))
            have HC8 := Lib.hid (show Cur w8 gc s m false from (Own.on_alloc HC6.out (.cells #[.slice po' (n2 + 1) pc'] 36)).but hb8 (fun h => by have := HSUB.out _ h; have := HN.out; omega))
            have HQ8 := Lib.hid ((HQ6.out.on_alloc (.cells #[.slice po' (n2 + 1) pc'] 36)).but hb8 (fun h => by have := HSUB.out _ h; omega))
            have HB8 := Lib.hid ((HB6.out.alloc (by have := HQ6.out.lt; have := HN.out; omega) (.cells #[.slice po' (n2 + 1) pc'] 36)).trans (hb8.below (B := A) (by simp; have := HQ6.out.lt; have := HN.out; omega) (fun g hg => by have := HSUB.out _ hg; have := HN.out; omega)))
            clear hw8 hb8 h78 q0 hql s1 s2 s3 s4 s5 s6 HP6 HA6 HF6 HC6 HQ6 HB6
            obtain ⟨⟨qo', qc', hqf⟩, -⟩ := HP8.out.form
            rw [List.length_append, HN12.out.1] at hqf
            have hqf' : q' = .slice qo' (n1 + 1) qc' := hqf
            subst hqf'
            clear hqf
            have q0 := HQ8.out.cell 0
            have qt := HQ8.out.thaw 0
            have hql := HQ8.out.lt
            have HP9 := Lib.hid (HP8.out.keep (But.put w8 gq 0 (.slice qo' (n1 + 1) qc')) (fun b h1 h2 e => by omega))
            have HA9 := Lib.hid (HA8.out.off (p := ⟨gq, 0, none⟩) (by have := HN.out; simp; omega) (.slice qo' (n1 + 1) qc'))
            have HF9 := Lib.hid (HF8.out.off (p := ⟨gq, 0, none⟩) (by have := HN.out; simp; omega) (.slice qo' (n1 + 1) qc'))
            have HC9 := Lib.hid (show Cur (w8.setCell ⟨gq, 0, none⟩ (.slice qo' (n1 + 1) qc')) gc s m false from Own.off HC8.out (p := ⟨gq, 0, none⟩) (by have := HN.out; simp; omega) (.slice qo' (n1 + 1) qc'))
            have HQ9 := Lib.hid (HQ8.out.put 0 (.slice qo' (n1 + 1) qc'))
            have HB9 := Lib.hid (HB8.out.setCell (p := ⟨gq, 0, none⟩) (by have := HN.out; simp; omega) (.slice qo' (n1 + 1) qc'))
            have HM9 := Lib.hid (show gq + 1 ≤ w8.heap.size ∧ w8.heap.size ≤ (w8.setCell ⟨gq, 0, none⟩ (.slice qo' (n1 + 1) qc')).heap.size by simp [World.setCell]; have := HSZ8.out; have := HM8.out; have := HMM.out; omega)
        
            go_upto_region 18 with fail
            have HPL := Lib.hid (show PS (w8.setCell ⟨gq, 0, none⟩ (.slice qo' (n1 + 1) qc')) (gq + 1) w8.heap.size (.slice qo' (P ++ [L ++ [h]]).length qc') (.slice none 0 0) (P ++ [L ++ [h]]) [] by rw [List.length_append, HN12.out.1]; exact HP9.out)
            generalize World.setCell w8 _ _ = w9 at *
            clear q0 qt hql HA8 HF8 HC8 HQ8 HB8 HP8 HP9
            have q9 := HQ9.out.cell 0
            have a0 := HA9.out.cell 0
            have af := HA9.out.thaw 0
            have al := HA9.out.lt
            obtain ⟨b0, b1, b2, b3, d0, d1, d2, d3⟩ := HF9.out.four
            have bl := HF9.out.lt
            simp only [List.getElem?_cons_zero, List.set_cons_zero] at q9 a0
            have ne3 : ¬ A = F := by have := HN.out; omega
            have ne4 : ¬ F = A := by have := HN.out; omega
            have HA10 := Lib.hid (show Own (set4 (w9.setCell ⟨A, 0, none⟩ (.slice qo' (n1 + 1) qc')) F (.int .i64 0) (.int .i64 0) (.int .i64 0) (.int .i64 0)) A 24 [.slice qo' (n1 + 1) qc'] from ((((HA9.out.put 0 (.slice qo' (n1 + 1) qc')).off (p := ⟨F, 0, none⟩) ne3 (.int .i64 0)).off (p := ⟨F, 1, none⟩) ne3 (.int .i64 0)).off (p := ⟨F, 2, none⟩) ne3 (.int .i64 0)).off (p := ⟨F, 3, none⟩) ne3 (.int .i64 0))
            have HF10 := Lib.hid (show Own (set4 (w9.setCell ⟨A, 0, none⟩ (.slice qo' (n1 + 1) qc')) F (.int .i64 0) (.int .i64 0) (.int .i64 0) (.int .i64 0)) F 29 [.int .i64 0, .int .i64 0, .int .i64 0, .int .i64 0] from Own.put4 (HF9.out.off (p := ⟨A, 0, none⟩) ne4 (.slice qo' (n1 + 1) qc')))
            have HB10 := Lib.hid (show Below A w (set4 (w9.setCell ⟨A, 0, none⟩ (.slice qo' (n1 + 1) qc')) F (.int .i64 0) (.int .i64 0) (.int .i64 0) (.int .i64 0)) from below_put4 (HB9.out.setCell (p := ⟨A, 0, none⟩) (Nat.le_refl _) (.slice qo' (n1 + 1) qc')) (by have := HN.out; omega) _ _ _ _)
            have HP10 := Lib.hid (HPL.out.keep (w' := set4 (w9.setCell ⟨A, 0, none⟩ (.slice qo' (n1 + 1) qc')) F (.int .i64 0) (.int .i64 0) (.int .i64 0) (.int .i64 0)) (U := fun j => j = A ∨ j = F) ((((((But.refl (fun j => j = A ∨ j = F) w9).setCell (p := ⟨A, 0, none⟩) (fun _ => .inl rfl) _).setCell (p := ⟨F, 0, none⟩) (fun _ => .inr rfl) _).setCell (p := ⟨F, 1, none⟩) (fun _ => .inr rfl) _).setCell (p := ⟨F, 2, none⟩) (fun _ => .inr rfl) _).setCell (p := ⟨F, 3, none⟩) (fun _ => .inr rfl) _) (fun b h1 h2 e => by have := HN.out; omega))
            go_wp2
            clear q9 a0 af al b0 b1 b2 b3 d0 d1 d2 d3 bl
            rw [set4_fold]
            generalize set4 _ _ _ _ _ _ = w10 at *
            have a0 := HA10.out.cell 0
            obtain ⟨b0, b1, b2, b3, -⟩ := HF10.out.four
            simp only [List.getElem?_cons_zero] at a0
            refine bodyPost_ret (by simp [results, Tryd.results9, go_sem, a0, b0, b1, b2, b3]; rfl) rfl ?_
            rw [HE.out]
            exact ⟨⟨qo', qc', by rw [List.length_append, HN12.out.1]; rfl, hasQ_of HP10.out⟩, by rw [HN.out.2.2.2]; exact HB10.out⟩
          · have HE := Lib.hid (show res = (if tk s m [124] = true then qF s (f - 1) (m + 1) (P ++ [L ++ [h]]) [] else qF s (f - 1) m P (L ++ [h])) by rw [HQN.out, if_neg hms])
            have e9 : ((m : Int) == (s.size : Int)) = false := beq_eq_false_iff_ne.2 (by omega)
            clear HQN
            cases ht : tk s m [124] with
            | true =>
              rw [if_pos ht] at HE
              have hm1 := tk_size ht hm.2
              simp at hm1
              go_wp2_with fail
              clear c0 c1 c2 hg f1 f2
              refine (take_yes s ⟨#[124]⟩ HS.out (by decide) gc m hm.2 false _ HC6.out ht).mono ?_
              rintro e wt ⟨rfl, hc, hb⟩
              have HCt := Lib.hid (show Cur wt gc s (m + 1) false from hc)
              clear HC6
              have HC6 := HCt
              replace HA6 := Lib.hid (HA6.out.but hb (by have := HN.out; omega))
              replace HF6 := Lib.hid (HF6.out.but hb (by have := HN.out; omega))
              replace HQ6 := Lib.hid (HQ6.out.but hb (by have := HN.out; omega))
              replace HP6 := Lib.hid (HP6.out.keep hb (fun b h1 h2 e => by have := HN.out; omega))
              replace HB6 := Lib.hid (HB6.out.trans (hb.below (B := A) (by have := HML7.out; have := HN.out; omega) (fun g hg => by have := HN.out; omega)))
              replace HM8 := Lib.hid (Nat.le_trans HM8.out hb.size)
              clear hc hb HCt
              obtain ⟨R, S, T, cs, s1, s2, s3, s4, s5, s6⟩ := HP6.out
              rw [HN12.out.1] at s4
              obtain ⟨j0, gi, gz0, gz1, gz2⟩ := info_parts9 info_path
              have q0 : wt.cell? ⟨gq, 0, none⟩ = some (.slice qo n1 qc) := by rw [← HN12.out.1]; exact HQ6.out.cell 0
              have hql := HQ6.out.lt
              obtain ⟨-, ⟨po', pc', hvf⟩⟩ := HP6.out.form
              rw [List.length_append, HN12.out.2] at hvf
              have hvf' : v' = .slice po' (n2 + 1) pc' := hvf
              subst hvf'
              clear hvf
              have HNEW2 := Lib.hid (fun W => fresh_news W 36 [.slice po' (n2 + 1) pc'])
              have HSUB := Lib.hid (show ∀ b, S b → gq < b ∧ b < wt.heap.size from fun b hb => by have := s1 b (.inr (.inl hb)); have := HM8.out; omega)
              go_wp2_with (first
                | (at_builtin; refine wpList_append_win _ rfl _ _ 22 rfl S 36 j0 _ 1 24 Tryd.underlying22 gi gz0 gz1 gz2 rfl (by decide) _ n1 cs rfl (s4.below ((Below.refl _ _).alloc (Nat.le_refl _) _)) ⟨wt.heap.size, 0, none⟩ 1 1 [.slice po' (n2 + 1) pc'] rfl rfl (HNEW2.out wt) (by intro u hu; rw [List.mem_singleton.1 hu]; rfl) (by unfold maxLen; omega) (by omega) ?_))
              intro q' w8 hw8 hb8
              have h78 : Below wt.heap.size wt (wt.alloc (.cells #[.slice po' (n2 + 1) pc'] 36)) := (Below.refl _ _).alloc (Nat.le_refl _) _
              have HSZ8 := Lib.hid (show wt.heap.size < w8.heap.size by have := hb8.size; simp at this; omega)
              have HP8 := Lib.hid (PS.path (w := wt.alloc (.cells #[.slice po' (n2 + 1) pc'] 36)) (M := M7) (B := gq + 1) (by simp; have := HM8.out; omega) (by simp; have := HM8.out; have := HMM.out; omega) s1 s2 s3 (s5.keep (U := fun _ => False) (But.of_below h78) (fun _ _ _ h => h)) (s6.below h78) (by rw [HN12.out.1]; exact hw8.mono (fun g _ hg => by simpa using hg)) hb8)
              have HA8 := Lib.hid ((HA6.out.on_alloc (.cells #[.slice po' (n2 + 1) pc'] 36)).but hb8 (fun h => by have := HSUB.out _ h; have := HN.out; omega))
              have HF8 := Lib.hid ((HF6.out.on_alloc (.cells #[.slice po' (n2 + 1) pc'] 36)).but hb8 (fun h => by have := HSUB.out _ h; have := HN.out; omega))
              have HC8 := Lib.hid (show Cur w8 gc s (m + 1) false from (Own.on_alloc HC6.out (.cells #[.slice po' (n2 + 1) pc'] 36)).but hb8 (fun h => by have := HSUB.out _ h; have := HN.out; omega))
              have HQ8 := Lib.hid ((HQ6.out.on_alloc (.cells #[.slice po' (n2 + 1) pc'] 36)).but hb8 (fun h => by have := HSUB.out _ h; omega))
              have HB8 := Lib.hid ((HB6.out.alloc (by have := HQ6.out.lt; have := HN.out; omega) (.cells #[.slice po' (n2 + 1) pc'] 36)).trans (hb8.below (B := A) (by simp; have := HQ6.out.lt; have := HN.out; omega) (fun g hg => by have := HSUB.out _ hg; have := HN.out; omega)))
              clear hw8 hb8 h78 q0 hql s1 s2 s3 s4 s5 s6 HP6 HA6 HF6 HC6 HQ6 HB6
              obtain ⟨⟨qo', qc', hqf⟩, -⟩ := HP8.out.form
              rw [List.length_append, HN12.out.1] at hqf
              have hqf' : q' = .slice qo' (n1 + 1) qc' := hqf
              subst hqf'
              clear hqf
              have q0 := HQ8.out.cell 0
              have qt := HQ8.out.thaw 0
              have hql := HQ8.out.lt
              have HP9 := Lib.hid (HP8.out.keep (But.put w8 gq 0 (.slice qo' (n1 + 1) qc')) (fun b h1 h2 e => by omega))
              have HA9 := Lib.hid (HA8.out.off (p := ⟨gq, 0, none⟩) (by have := HN.out; simp; omega) (.slice qo' (n1 + 1) qc'))
              have HF9 := Lib.hid (HF8.out.off (p := ⟨gq, 0, none⟩) (by have := HN.out; simp; omega) (.slice qo' (n1 + 1) qc'))
              have HC9 := Lib.hid (show Cur (w8.setCell ⟨gq, 0, none⟩ (.slice qo' (n1 + 1) qc')) gc s (m + 1) false from Own.off HC8.out (p := ⟨gq, 0, none⟩) (by have := HN.out; simp; omega) (.slice qo' (n1 + 1) qc'))
              have HQ9 := Lib.hid (HQ8.out.put 0 (.slice qo' (n1 + 1) qc'))
              have HB9 := Lib.hid (HB8.out.setCell (p := ⟨gq, 0, none⟩) (by have := HN.out; simp; omega) (.slice qo' (n1 + 1) qc'))
              have HM9 := Lib.hid (show gq + 1 ≤ w8.heap.size ∧ w8.heap.size ≤ (w8.setCell ⟨gq, 0, none⟩ (.slice qo' (n1 + 1) qc')).heap.size by simp [World.setCell]; have := HSZ8.out; have := HM8.out; have := HMM.out; omega)
                
      
              go_wp2
              go_roundw
              case rel => exact ⟨f - 1, m + 1, w8.heap.size, P ++ [L ++ [h]], [], .slice qo' (n1 + 1) qc', by omega, hm1, by rw [List.length_append, HN12.out.1]; show n1 + 1 ≤ 8; omega, by decide, HM9, Lib.hid HE.out.symm, HA9, HF9, HC9, HQ9, HP9, HB9⟩
              case measure => rw [HC9.out.at_.2.1, HMS.out]; simp [intOf]; omega
            | false =>
              rw [if_neg (by rw [ht]; decide)] at HE
              go_wp2_with fail
              clear c0 c1 c2 hg f1 f2
              refine (take_no s ⟨#[124]⟩ HS.out (by decide) gc m hm.2 false _ HC6.out ht).mono ?_
              rintro e wt ⟨rfl, hc, hb⟩
              have HC9 := Lib.hid hc
              have HA9 := Lib.hid (HA6.out.but hb (by have := HN.out; omega))
              have HF9 := Lib.hid (HF6.out.but hb (by have := HN.out; omega))
              have HQ9 := Lib.hid (HQ6.out.but hb (by have := HN.out; omega))
              have HP9 := Lib.hid (HP6.out.keep hb (fun b h1 h2 e => by have := HN.out; omega))
              have HB9 := Lib.hid (HB6.out.trans (hb.below (B := A) (by have := HML7.out; have := HN.out; omega) (fun g hg => by have := HN.out; omega)))
              have HM9 := Lib.hid (show gq + 1 ≤ M7 ∧ M7 ≤ wt.heap.size from ⟨HMM.out, Nat.le_trans HM8.out hb.size⟩)
              clear hc hb HA6 HF6 HC6 HQ6 HP6 HB6
              go_wp2
              go_roundw
              case rel => exact ⟨f - 1, m, M7, P, L ++ [h], .slice qo P.length qc, by omega, hm.2, by rw [HN12.out.1]; omega, by rw [List.length_append, HN12.out.2]; show n2 + 1 ≤ 12; omega, HM9, Lib.hid HE.out.symm, HA9, HF9, HC9, HQ9, HP9, HB9⟩
              case measure => rw [HC9.out.at_.2.1, HMS.out]; simp [intOf]; omega
end Go.Proofs.YtialpofiagiclaaDoor
