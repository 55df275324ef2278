/- Len and New of the program's memo; Same; the reference's memo as a list of memories: find, Get, Len, New. -/
import Derived.Test.YtgpglmponbipbabMemoGet
namespace Go.Proofs.Ytgpglmponbipbab
set_option linter.unusedVariables false
open Go.RowKit Go.Sort

set_option maxHeartbeats 800000 in
theorem len_any (w : World) (p : Nat) (U : Nat → Prop) (most : Int) (L : List Mm) (h : MemoRep w p U most L) :
    Calls Try.prog 14 #[.pointer (some ⟨p, 0, none⟩)] w fun e w' => e = .returned (.int .i64 (L.length : Int)) ∧ w' = w := by
  obtain ⟨mb, T, e1, ov, f, ks, hr⟩ := h
  obtain ⟨c0, c1, c2, c3, f0, f1, f2, f3⟩ := hr.inner.own.four
  have H := Lib.hid hr.inner.map
  clear hr
  obtain ⟨k, hk⟩ : ∃ k, L.length = k := ⟨_, rfl⟩
  rw [hk] at H ⊢
  clear hk
  go_enter Try.func14, Try.ntmps14
  go_wp2_with (at_len; refine wpList_len _ rfl _ rfl mb k f rfl H.out ?_)
  go_ret
  exact ⟨rfl, rfl⟩

set_option maxHeartbeats 800000 in
theorem new_any (w : World) (most : Int) :
    Calls Try.prog 7 #[.int .i64 most] w fun e w' => ∃ p, e = .returned (.pointer (some ⟨p, 0, none⟩)) ∧ Below w.heap.size w w' ∧ MemoRep w' p (fun g => w.heap.size ≤ g ∧ g < w'.heap.size) most [] := by
  have hmm := @run_makeMap Try.prog
  go_enter Try.func7, Try.ntmps7
  go_wp2
  go_ret
  refine ⟨w.heap.size + 1, rfl, ((Below.refl _ _).alloc (Nat.le_refl _) _).alloc (by simp) _, w.heap.size, fun _ => False, 0, .slice none 0 0, fun _ _ => none, [], ⟨?_, ?_, ?_, fun h => h, fun h => h, fun g h => h.elim⟩, ⟨rfl, by simp; omega, fun _ => rfl, fun h => absurd rfl h, fun i x h => by simp at h⟩, fun a b _ _ => ⟨fun _ => rfl, fun x h => by simp at h⟩, List.Pairwise.nil, fun x h => by simp at h, ?_, fun g h => h.2⟩
  · exact Own.fresh' (by simp) _ [.int .i64 most, .map (some w.heap.size), .slice none 0 0, .int .i64 0]
  · exact (MapIs.made w).keep (S := fun _ => False) ((But.refl _ _).alloc _) (fun h => h)
  · exact Win.nil _ _ _ _
  · rintro g (h | h | h)
    · subst h; simp
    · subst h; simp; omega
    · exact h.elim

set_option maxHeartbeats 1600000 in
theorem same_any (w : World) (v u : Value) (x : Mm) (R S : Nat → Prop) (hn : (x.part.length : Int) ≤ 1000) (hv : Pay R w v x) (hu : Pay S w u x) :
    Calls Try.prog 13 #[v, u] w fun e w' => e = .returned (.bool true) ∧ Below w.heap.size w w' := by
  obtain ⟨ao, ca, rfl, ha⟩ := hv
  obtain ⟨bo, cb, rfl, hb⟩ := hu
  have HA := Lib.hid ha
  have HB := Lib.hid hb
  clear ha hb
  go_enter Try.func13, Try.ntmps13
  go_wp2_with fail
  have hb2 : Below w.heap.size w ((w.alloc (.cells #[.int .i64 x.ins, .int .i64 x.at_, .bool x.ok, .int .i64 x.en, .int .i64 x.far, .slice ao x.part.length ca] 30)).alloc (.cells #[.int .i64 x.ins, .int .i64 x.at_, .bool x.ok, .int .i64 x.en, .int .i64 x.far, .slice bo x.part.length cb] 30)) := ((Below.refl _ _).alloc (Nat.le_refl _) _).alloc (by simp) _
  refine (leaves_same x.part ao bo ca cb R S hn _ (HA.out.below hb2) (HB.out.below hb2)).mono ?_
  rintro e w1 ⟨rfl, hb⟩
  have HB1 := Lib.hid (keepb hb2 hb)
  clear hb hb2
  go_wp2
  go_ret
  exact ⟨rfl, HB1.out⟩

def Mm.row (x : Mm) : List Value := [.int .i64 x.ins, .int .i64 x.at_, .bool x.ok, .int .i64 x.en, .int .i64 x.far, .slice x.po x.part.length x.pc]
def rowM (L : List Mm) : List Value := L.flatMap Mm.row
theorem rowM_len (L : List Mm) : (rowM L).length = L.length * 6 := by
  induction L with
  | nil => rfl
  | cons x L ih => show (x.row ++ rowM L).length = _; rw [List.length_append, ih]; simp [Mm.row]; omega
theorem rowM_append (L M : List Mm) : rowM (L ++ M) = rowM L ++ rowM M := List.flatMap_append
theorem rowM_one (x : Mm) : rowM [x] = x.row := by simp [rowM]
theorem rowM_get : ∀ (L : List Mm) (k : Nat) (x : Mm), L[k]? = some x → ∀ c, c < 6 → (rowM L)[k * 6 + c]? = x.row[c]?
  | y :: L, 0, x, h, c, hc => by
    simp at h; subst h
    show (y.row ++ rowM L)[0 * 6 + c]? = _
    rw [List.getElem?_append_left (by simp [Mm.row]; omega)]; simp
  | y :: L, k + 1, x, h, c, hc => by
    show (y.row ++ rowM L)[(k + 1) * 6 + c]? = _
    rw [List.getElem?_append_right (by simp [Mm.row]; omega), show (k + 1) * 6 + c - y.row.length = k * 6 + c by simp [Mm.row]; omega]
    exact rowM_get L k x (by simpa using h) c hc
/-- The reference's memo. -/
structure RefRep (w : World) (p : Nat) (U : Nat → Prop) (most : Int) (L : List Mm) (v : Value) (T : Nat → Prop) : Prop where
  own : Own w p 47 [.int .i64 most, v]
  win : Win T 30 6 w v L.length (rowM L)
  np : ¬ T p
  terr : ∀ g, g = p ∨ T g → U g
  lt : ∀ g, U g → g < w.heap.size
  apart : Apart L
  few : (L.length : Int) ≤ max most 0
theorem RefRep.keep {w w' : World} {p : Nat} {U S T : Nat → Prop} {most : Int} {L : List Mm} {v : Value} (h : RefRep w p U most L v T) (hb : But S w w') (hd : ∀ g, U g → ¬ S g) : RefRep w' p U most L v T :=
  ⟨h.own.but hb (hd p (h.terr p (.inl rfl))), h.win.keep hb (fun g _ hg => hd g (h.terr g (.inr hg))), h.np, h.terr, fun g hg => Nat.lt_of_lt_of_le (h.lt g hg) hb.size, h.apart, h.few⟩
theorem Own.two {w : World} {g : Nat} {t : TypeId} {v0 v1 : Value} (h : Own w g t [v0, v1]) : w.cell? ⟨g, 0, none⟩ = some v0 ∧ w.cell? ⟨g, 1, none⟩ = some v1 ∧ w.frozen? ⟨g, 0, none⟩ = false ∧ w.frozen? ⟨g, 1, none⟩ = false := ⟨h.cell 0, h.cell 1, h.thaw 0, h.thaw 1⟩
/-- The cells of the memory at a place of the list. -/
theorem Win.mem {T : Nat → Prop} {w : World} {v : Value} {L : List Mm} (h : Win T 30 6 w v L.length (rowM L)) : ∃ ao cap, v = .slice ao L.length cap ∧ L.length ≤ cap ∧ ∀ k x, L[k]? = some x → ∃ g off, ao = some ⟨g, off, none⟩ ∧ T g ∧ g < w.heap.size ∧
    w.cell? ⟨g, off + k * 6, none⟩ = some (.int .i64 x.ins) ∧ w.cell? ⟨g, off + k * 6 + 1, none⟩ = some (.int .i64 x.at_) ∧ w.cell? ⟨g, off + k * 6 + 2, none⟩ = some (.bool x.ok) ∧ w.cell? ⟨g, off + k * 6 + 3, none⟩ = some (.int .i64 x.en) ∧
    w.cell? ⟨g, off + k * 6 + 4, none⟩ = some (.int .i64 x.far) ∧ w.cell? ⟨g, off + k * 6 + 5, none⟩ = some (.slice x.po x.part.length x.pc) ∧ ∀ j, w.frozen? ⟨g, j, none⟩ = false := by
  obtain ⟨ao, cap, rfl, hc, _, hj⟩ := h.form
  refine ⟨ao, cap, rfl, hc, fun k x hk => ?_⟩
  have hk' : k < L.length := (List.getElem?_eq_some_iff.1 hk).1
  obtain ⟨g, off, rfl, hg, hB, c0, _⟩ := hj (k * 6 + 0) (by omega)
  have hcell : ∀ c, c < 6 → w.cell? ⟨g, off + (k * 6 + c), none⟩ = x.row[c]? := fun c hc => by rw [h.cellAt _ (by omega), rowM_get L k x hk c hc]
  refine ⟨g, off, rfl, hg, hB, hcell 0 (by omega), hcell 1 (by omega), hcell 2 (by omega), hcell 3 (by omega), hcell 4 (by omega), hcell 5 (by omega), fun j => h.thawAt (by omega) j⟩

set_option maxHeartbeats 1600000 in
theorem find_none (w : World) (p : Nat) (U T : Nat → Prop) (most : Int) (L : List Mm) (v : Value) (a b : Int) (hn : (L.length : Int) ≤ 1000) (hx : hasL L a b = false) (h : RefRep w p U most L v T) :
    Calls Try.prog 18 #[.pointer (some ⟨p, 0, none⟩), .int .i64 a, .int .i64 b] w fun e w' => e = .returned (.int .i64 (-1)) ∧ ∃ m, w' = w.drewN m := by
  obtain ⟨c0, c1, f0, f1⟩ := h.own.two
  obtain ⟨ao, cap, rfl, hcap, hm⟩ := h.win.mem
  have HM := Lib.hid hm
  have HX := Lib.hid (List.find?_eq_none.1 (hasL_none hx))
  obtain ⟨n, hnn⟩ : ∃ n, L.length = n := ⟨_, rfl⟩
  have HN := Lib.hid hnn
  rw [hnn] at hn c1
  clear hnn h hx hm hcap
  go_enter Try.func18, Try.ntmps18
  go_wp2_with fail
  go_loopw [7] (fun b7 wr => ∃ k m : Nat, b7 = .int .i64 (k : Int) ∧ (k : Int) ≤ n ∧ wr = w.drewN m) (fun b7 _ => n - (intOf b7).toNat)
  case atStart => exact ⟨0, 0, rfl, by omega, rfl⟩
  case round =>
    obtain ⟨k, m, rfl, hk2, rfl⟩ := hrel
    by_cases h1 : (k : Int) < n
    · obtain ⟨x, hx⟩ : ∃ x, L[k]? = some x := ⟨_, List.getElem?_eq_getElem (by have := HN.out; omega)⟩
      obtain ⟨g, off, rfl, _, _, d0, d1, d2, d3, d4, d5, _⟩ := HM.out k x hx
      have hs : ¬ (x.ins = a ∧ x.at_ = b) := by
        have := HX.out x (List.mem_of_getElem? hx)
        rwa [same_iff] at this
      clear HM HX hx HN
      by_cases h2 : x.ins = a
      · have h3 : (x.at_ == b) = false := by rw [beq_eq_false_iff_ne]; exact fun h => hs ⟨h2, h⟩
        have h2' : (x.ins == a) = true := by rw [beq_iff_eq]; exact h2
        clear h2 hs d2 d3 d4 d5
        go_wp2
        go_roundw
        case rel => exact ⟨k + 1, m, by go_num, by omega, rfl⟩
        case measure => simp [intOf]; omega
      · have h2' : (x.ins == a) = false := by rw [beq_eq_false_iff_ne]; exact h2
        clear h2 hs
        go_wp2
        go_roundw
        case rel => exact ⟨k + 1, m, by go_num, by omega, rfl⟩
        case measure => simp [intOf]; omega
    · go_wp2
      go_ret
      exact ⟨rfl, _, rfl⟩

set_option maxHeartbeats 1600000 in
theorem find_some (w : World) (p : Nat) (U T : Nat → Prop) (most : Int) (L : List Mm) (v : Value) (a b : Int) (i : Nat) (x : Mm) (hn : (L.length : Int) ≤ 1000) (hi : L[i]? = some x) (hxa : x.ins = a) (hxb : x.at_ = b) (hbe : ∀ j y, j < i → L[j]? = some y → ¬ (y.ins = a ∧ y.at_ = b)) (h : RefRep w p U most L v T) :
    Calls Try.prog 18 #[.pointer (some ⟨p, 0, none⟩), .int .i64 a, .int .i64 b] w fun e w' => e = .returned (.int .i64 (i : Int)) ∧ ∃ m, w' = w.drewN m := by
  obtain ⟨c0, c1, f0, f1⟩ := h.own.two
  obtain ⟨ao, cap, rfl, hcap, hm⟩ := h.win.mem
  have HM := Lib.hid hm
  have HB := Lib.hid hbe
  have HI := Lib.hid hi
  have hil := (List.getElem?_eq_some_iff.1 hi).1
  obtain ⟨n, hnn⟩ : ∃ n, L.length = n := ⟨_, rfl⟩
  have HN := Lib.hid hnn
  have hA := Lib.hid (And.intro hxa hxb)
  rw [hnn] at hn c1 hil
  clear hnn h hi hm hcap hbe hxa hxb
  go_enter Try.func18, Try.ntmps18
  go_wp2_with fail
  go_loopw [7] (fun b7 wr => ∃ k m : Nat, b7 = .int .i64 (k : Int) ∧ (k : Int) ≤ i ∧ wr = w.drewN m) (fun b7 _ => n - (intOf b7).toNat)
  case atStart => exact ⟨0, 0, rfl, by omega, rfl⟩
  case round =>
    obtain ⟨k, m, rfl, hk2, rfl⟩ := hrel
    by_cases h0 : k = i
    · subst h0
      obtain ⟨g, off, rfl, _, _, d0, d1, d2, d3, d4, d5, _⟩ := HM.out k x HI.out
      rw [hA.out.1] at d0
      rw [hA.out.2] at d1
      clear HM HI HN HB hA d2 d3 d4 d5
      go_wp2
      go_ret
      exact ⟨rfl, _, rfl⟩
    · obtain ⟨y, hy⟩ : ∃ y, L[k]? = some y := ⟨_, List.getElem?_eq_getElem (by have := HN.out; omega)⟩
      obtain ⟨g, off, rfl, _, _, d0, d1, d2, d3, d4, d5, _⟩ := HM.out k y hy
      have hs := HB.out k y (by omega) hy
      clear HM HI hy HN HB hA d2 d3 d4 d5
      by_cases h2 : y.ins = a
      · have h3 : (y.at_ == b) = false := by rw [beq_eq_false_iff_ne]; exact fun h => hs ⟨h2, h⟩
        have h2' : (y.ins == a) = true := by rw [beq_iff_eq]; exact h2
        clear h2 hs
        go_wp2
        go_roundw
        case rel => exact ⟨k + 1, m, by go_num, by omega, rfl⟩
        case measure => simp [intOf]; omega
      · have h2' : (y.ins == a) = false := by rw [beq_eq_false_iff_ne]; exact h2
        clear h2 hs
        go_wp2
        go_roundw
        case rel => exact ⟨k + 1, m, by go_num, by omega, rfl⟩
        case measure => simp [intOf]; omega
end Go.Proofs.Ytgpglmponbipbab
