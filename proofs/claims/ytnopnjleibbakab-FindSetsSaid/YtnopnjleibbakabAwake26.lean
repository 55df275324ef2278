/- The document's examples of layer 26, walked. -/
import Derived.Test.YtnopnjleibbakabGk
import Derived.Test.YtnopnjleibbakabMerge
import Derived.Test.YtnopnjleibbakabGh
namespace Go.Proofs.Ytnopnjleibbakab
set_option linter.unusedVariables false
open Go.RowKit Go.Sort

theorem has6 (w : World) : Has (w.alloc (.cells #[.int .i64 1, .string ⟨#[97]⟩, .int .i64 0, .int .i64 4, .int .i64 (-1), .int .i64 2, .string ⟨#[108]⟩, .int .i64 0, .int .i64 2, .int .i64 0, .int .i64 4, .string ⟨#[]⟩, .int .i64 0, .int .i64 1, .int .i64 1, .int .i64 4, .string ⟨#[]⟩, .int .i64 1, .int .i64 2, .int .i64 1, .int .i64 2, .string ⟨#[108]⟩, .int .i64 2, .int .i64 4, .int .i64 0, .int .i64 4, .string ⟨#[]⟩, .int .i64 2, .int .i64 4, .int .i64 4] 54)) (some ⟨w.heap.size, 0, none⟩) (w.heap.size + 1) lA := by
  have F := Own.fresh w 54 (#[.int .i64 1, .string ⟨#[97]⟩, .int .i64 0, .int .i64 4, .int .i64 (-1), .int .i64 2, .string ⟨#[108]⟩, .int .i64 0, .int .i64 2, .int .i64 0, .int .i64 4, .string ⟨#[]⟩, .int .i64 0, .int .i64 1, .int .i64 1, .int .i64 4, .string ⟨#[]⟩, .int .i64 1, .int .i64 2, .int .i64 1, .int .i64 2, .string ⟨#[108]⟩, .int .i64 2, .int .i64 4, .int .i64 0, .int .i64 4, .string ⟨#[]⟩, .int .i64 2, .int .i64 4, .int .i64 4] : Array Value).toList
  intro k hk
  have hk6 : k < 6 := hk
  match k, hk6 with
  | 0, _ => exact ⟨_, 0, rfl, Nat.lt_succ_self _, F.cell 0, F.cell 1, F.cell 2, F.cell 3, F.cell 4⟩
  | 1, _ => exact ⟨_, 0, rfl, Nat.lt_succ_self _, F.cell 5, F.cell 6, F.cell 7, F.cell 8, F.cell 9⟩
  | 2, _ => exact ⟨_, 0, rfl, Nat.lt_succ_self _, F.cell 10, F.cell 11, F.cell 12, F.cell 13, F.cell 14⟩
  | 3, _ => exact ⟨_, 0, rfl, Nat.lt_succ_self _, F.cell 15, F.cell 16, F.cell 17, F.cell 18, F.cell 19⟩
  | 4, _ => exact ⟨_, 0, rfl, Nat.lt_succ_self _, F.cell 20, F.cell 21, F.cell 22, F.cell 23, F.cell 24⟩
  | 5, _ => exact ⟨_, 0, rfl, Nat.lt_succ_self _, F.cell 25, F.cell 26, F.cell 27, F.cell 28, F.cell 29⟩
def cA : List (Int × ByteArray) := [(11, ⟨#[97]⟩), (12, ⟨#[108]⟩)]
theorem hasIA (w : World) : HasI (w.alloc (.cells #[.int .i64 11, .string ⟨#[97]⟩, .int .u64 0, .int .u64 0, .int .u64 0, .int .u64 0, .slice none 0 0, .int .u64 0, .int .u64 0, .int .u64 0, .int .u64 0, .bool false, .slice none 0 0, .int .i64 0, .int .i64 12, .string ⟨#[108]⟩, .int .u64 0, .int .u64 0, .int .u64 0, .int .u64 0, .slice none 0 0, .int .u64 0, .int .u64 0, .int .u64 0, .int .u64 0, .bool false, .slice none 0 0, .int .i64 0] 44)) (some ⟨w.heap.size, 0, none⟩) cA := by
  have F := Own.fresh w 44 (#[.int .i64 11, .string ⟨#[97]⟩, .int .u64 0, .int .u64 0, .int .u64 0, .int .u64 0, .slice none 0 0, .int .u64 0, .int .u64 0, .int .u64 0, .int .u64 0, .bool false, .slice none 0 0, .int .i64 0, .int .i64 12, .string ⟨#[108]⟩, .int .u64 0, .int .u64 0, .int .u64 0, .int .u64 0, .slice none 0 0, .int .u64 0, .int .u64 0, .int .u64 0, .int .u64 0, .bool false, .slice none 0 0, .int .i64 0] : Array Value).toList
  intro k x t hk
  have hk2 : k < 2 := (List.getElem?_eq_some_iff.1 hk).1
  match k, hk2, hk with
  | 0, _, hk =>
    obtain ⟨rfl, rfl⟩ : (11 : Int) = x ∧ ⟨#[97]⟩ = t := by simpa [cA] using hk
    exact ⟨_, 0, rfl, by simp, fun j v hv => by
      have hj : j < 14 := (List.getElem?_eq_some_iff.1 hv).1
      match j, hj, hv with
      | 0, _, hv => exact (F.cell 0).trans hv
      | 1, _, hv => exact (F.cell 1).trans hv
      | 2, _, hv => exact (F.cell 2).trans hv
      | 3, _, hv => exact (F.cell 3).trans hv
      | 4, _, hv => exact (F.cell 4).trans hv
      | 5, _, hv => exact (F.cell 5).trans hv
      | 6, _, hv => exact (F.cell 6).trans hv
      | 7, _, hv => exact (F.cell 7).trans hv
      | 8, _, hv => exact (F.cell 8).trans hv
      | 9, _, hv => exact (F.cell 9).trans hv
      | 10, _, hv => exact (F.cell 10).trans hv
      | 11, _, hv => exact (F.cell 11).trans hv
      | 12, _, hv => exact (F.cell 12).trans hv
      | 13, _, hv => exact (F.cell 13).trans hv⟩
  | 1, _, hk =>
    obtain ⟨rfl, rfl⟩ : (12 : Int) = x ∧ ⟨#[108]⟩ = t := by simpa [cA] using hk
    exact ⟨_, 0, rfl, by simp, fun j v hv => by
      have hj : j < 14 := (List.getElem?_eq_some_iff.1 hv).1
      match j, hj, hv with
      | 0, _, hv => exact (F.cell 14).trans hv
      | 1, _, hv => exact (F.cell 15).trans hv
      | 2, _, hv => exact (F.cell 16).trans hv
      | 3, _, hv => exact (F.cell 17).trans hv
      | 4, _, hv => exact (F.cell 18).trans hv
      | 5, _, hv => exact (F.cell 19).trans hv
      | 6, _, hv => exact (F.cell 20).trans hv
      | 7, _, hv => exact (F.cell 21).trans hv
      | 8, _, hv => exact (F.cell 22).trans hv
      | 9, _, hv => exact (F.cell 23).trans hv
      | 10, _, hv => exact (F.cell 24).trans hv
      | 11, _, hv => exact (F.cell 25).trans hv
      | 12, _, hv => exact (F.cell 26).trans hv
      | 13, _, hv => exact (F.cell 27).trans hv⟩

def Aw (w : World) (N : Nat) (W : World) : Prop := Below N w W ∧ Has W (some ⟨N, 0, none⟩) (N + 1) lA ∧ N + 1 + 1 < W.heap.size ∧ HasI W (some ⟨N + 1, 0, none⟩) cA ∧ Own W (N + 1 + 1) 39 [.slice (some ⟨N + 1, 0, none⟩) 2 2] ∧ Mx W
theorem Aw.next {w W W' : World} {N : Nat} (h : Aw w N W) (hb : Below W.heap.size W W') : Aw w N W' := by
  obtain ⟨h1, h2, h3, h4, h5, h6⟩ := h
  exact ⟨h1.trans (hb.mono (by omega)), h2.keep hb (by omega), Nat.lt_of_lt_of_le h3 hb.size, h4.below hb, h5.under hb h3, h6.below hb⟩
theorem Owns.litA (w : World) (L : List Int) (n : Nat) (cs : Array Value) (hc : cs = (L.map (Value.int .i64)).toArray) (hn : n = L.length) (h : L.length ≤ 100) : Owns (w.alloc (.cells cs 3)) w.heap.size (.slice (some ⟨w.heap.size, 0, Option.none⟩) n n) L := by
  subst hc; subst hn
  have := World.ownsRow_lit (base := w.heap.size) (e := 3) (size := 1) w (L.map (Value.int .i64)).toArray L.length (Nat.le_refl _) (by unfold maxLen; omega) (by simp)
  simpa [Owns] using this
theorem Owns.pastA {w : World} {B : Nat} {v : Value} {L : List Int} (h : Owns w B v L) (o : Obj) : Owns (w.alloc o) B v L := h.keep ((Below.refl _ _).alloc (Nat.le_refl _) o)
theorem aw_start (w : World) (hm : Mx w) : Aw w w.heap.size (((w.alloc (.cells #[.int .i64 1, .string ⟨#[97]⟩, .int .i64 0, .int .i64 4, .int .i64 (-1), .int .i64 2, .string ⟨#[108]⟩, .int .i64 0, .int .i64 2, .int .i64 0, .int .i64 4, .string ⟨#[]⟩, .int .i64 0, .int .i64 1, .int .i64 1, .int .i64 4, .string ⟨#[]⟩, .int .i64 1, .int .i64 2, .int .i64 1, .int .i64 2, .string ⟨#[108]⟩, .int .i64 2, .int .i64 4, .int .i64 0, .int .i64 4, .string ⟨#[]⟩, .int .i64 2, .int .i64 4, .int .i64 4] 54)).alloc (.cells #[.int .i64 11, .string ⟨#[97]⟩, .int .u64 0, .int .u64 0, .int .u64 0, .int .u64 0, .slice none 0 0, .int .u64 0, .int .u64 0, .int .u64 0, .int .u64 0, .bool false, .slice none 0 0, .int .i64 0, .int .i64 12, .string ⟨#[108]⟩, .int .u64 0, .int .u64 0, .int .u64 0, .int .u64 0, .slice none 0 0, .int .u64 0, .int .u64 0, .int .u64 0, .int .u64 0, .bool false, .slice none 0 0, .int .i64 0] 44)).alloc (.cells #[.slice (some ⟨w.heap.size + 1, 0, none⟩) 2 2] 39)) := by
  have hb1 : Below w.heap.size w (w.alloc (.cells #[.int .i64 1, .string ⟨#[97]⟩, .int .i64 0, .int .i64 4, .int .i64 (-1), .int .i64 2, .string ⟨#[108]⟩, .int .i64 0, .int .i64 2, .int .i64 0, .int .i64 4, .string ⟨#[]⟩, .int .i64 0, .int .i64 1, .int .i64 1, .int .i64 4, .string ⟨#[]⟩, .int .i64 1, .int .i64 2, .int .i64 1, .int .i64 2, .string ⟨#[108]⟩, .int .i64 2, .int .i64 4, .int .i64 0, .int .i64 4, .string ⟨#[]⟩, .int .i64 2, .int .i64 4, .int .i64 4] 54)) := (Below.refl _ _).alloc (Nat.le_refl _) _
  have hL := has6 w
  have hs1 : (w.alloc (.cells #[.int .i64 1, .string ⟨#[97]⟩, .int .i64 0, .int .i64 4, .int .i64 (-1), .int .i64 2, .string ⟨#[108]⟩, .int .i64 0, .int .i64 2, .int .i64 0, .int .i64 4, .string ⟨#[]⟩, .int .i64 0, .int .i64 1, .int .i64 1, .int .i64 4, .string ⟨#[]⟩, .int .i64 1, .int .i64 2, .int .i64 1, .int .i64 2, .string ⟨#[108]⟩, .int .i64 2, .int .i64 4, .int .i64 0, .int .i64 4, .string ⟨#[]⟩, .int .i64 2, .int .i64 4, .int .i64 4] 54)).heap.size = w.heap.size + 1 := World.size_alloc _ _
  generalize w.alloc (.cells #[.int .i64 1, .string ⟨#[97]⟩, .int .i64 0, .int .i64 4, .int .i64 (-1), .int .i64 2, .string ⟨#[108]⟩, .int .i64 0, .int .i64 2, .int .i64 0, .int .i64 4, .string ⟨#[]⟩, .int .i64 0, .int .i64 1, .int .i64 1, .int .i64 4, .string ⟨#[]⟩, .int .i64 1, .int .i64 2, .int .i64 1, .int .i64 2, .string ⟨#[108]⟩, .int .i64 2, .int .i64 4, .int .i64 0, .int .i64 4, .string ⟨#[]⟩, .int .i64 2, .int .i64 4, .int .i64 4] 54) = W1 at *
  have hb2 : Below W1.heap.size W1 (W1.alloc (.cells #[.int .i64 11, .string ⟨#[97]⟩, .int .u64 0, .int .u64 0, .int .u64 0, .int .u64 0, .slice none 0 0, .int .u64 0, .int .u64 0, .int .u64 0, .int .u64 0, .bool false, .slice none 0 0, .int .i64 0, .int .i64 12, .string ⟨#[108]⟩, .int .u64 0, .int .u64 0, .int .u64 0, .int .u64 0, .slice none 0 0, .int .u64 0, .int .u64 0, .int .u64 0, .int .u64 0, .bool false, .slice none 0 0, .int .i64 0] 44)) := (Below.refl _ _).alloc (Nat.le_refl _) _
  have hI := hasIA W1
  have hs2 : (W1.alloc (.cells #[.int .i64 11, .string ⟨#[97]⟩, .int .u64 0, .int .u64 0, .int .u64 0, .int .u64 0, .slice none 0 0, .int .u64 0, .int .u64 0, .int .u64 0, .int .u64 0, .bool false, .slice none 0 0, .int .i64 0, .int .i64 12, .string ⟨#[108]⟩, .int .u64 0, .int .u64 0, .int .u64 0, .int .u64 0, .slice none 0 0, .int .u64 0, .int .u64 0, .int .u64 0, .int .u64 0, .bool false, .slice none 0 0, .int .i64 0] 44)).heap.size = W1.heap.size + 1 := World.size_alloc _ _
  generalize W1.alloc (.cells #[.int .i64 11, .string ⟨#[97]⟩, .int .u64 0, .int .u64 0, .int .u64 0, .int .u64 0, .slice none 0 0, .int .u64 0, .int .u64 0, .int .u64 0, .int .u64 0, .bool false, .slice none 0 0, .int .i64 0, .int .i64 12, .string ⟨#[108]⟩, .int .u64 0, .int .u64 0, .int .u64 0, .int .u64 0, .slice none 0 0, .int .u64 0, .int .u64 0, .int .u64 0, .int .u64 0, .bool false, .slice none 0 0, .int .i64 0] 44) = W2 at *
  have hb3 : Below W2.heap.size W2 (W2.alloc (.cells #[.slice (some ⟨w.heap.size + 1, 0, none⟩) 2 2] 39)) := (Below.refl _ _).alloc (Nat.le_refl _) _
  rw [hs1] at hI
  refine ⟨(hb1.trans (hb2.mono (by omega))).trans (hb3.mono (by omega)), (hL.keep hb2 (by omega)).keep hb3 (by omega), ?_, hI.below hb3, Own.fresh' (by omega) _ _, ((hm.below hb1).below hb2).below hb3⟩
  have := World.size_alloc W2 (.cells #[.slice (some ⟨w.heap.size + 1, 0, none⟩) 2 2] 39)
  omega

theorem Aw.cell {w W : World} {N : Nat} (h : Aw w N W) : W.cell? ⟨N + 1 + 1, 0, none⟩ = some (.slice (some ⟨N + 1, 0, none⟩) 2 2) := h.2.2.2.2.1.cell 0
/-- A query's value; a slice that the call made. -/
def Rq (t : ByteArray) (v : Value) (W : World) : Prop := ∃ qo qc, v = .agg #[.slice qo (qL t).length qc] ∧ HasQ W qo (qL t)
def Rs (L : List Int) (v : Value) (W : World) : Prop := ∃ B, Owns W B v L
theorem Rq.keep {t : ByteArray} {v : Value} {W W' : World} (h : Rq t v W) (hb : Below W.heap.size W W') : Rq t v W' := by
  obtain ⟨qo, qc, e, hq⟩ := h
  exact ⟨qo, qc, e, hq.below hb⟩
theorem Rs.keep {L : List Int} {v : Value} {W W' : World} (h : Rs L v W) (hb : Below W.heap.size W W') : Rs L v W' := by
  obtain ⟨B, hq⟩ := h
  exact ⟨B, hq.keep hb⟩
theorem asked_on {w W : World} {N : Nat} (t : ByteArray) (ht : t.size ≤ 1000000) (hk : okQ t = true) (h : Aw w N W) :
    Calls Try.prog 18 #[.string t] W fun e w' => ∃ v, e = .returned v ∧ Below W.heap.size W w' ∧ Aw w N w' ∧ Rq t v w' :=
  (asked_any t ht (qL t) (okQ_out hk).1 (fun p hp => ((okQ_out hk).2.2 p hp).1) W).mono fun e w' ⟨⟨qo, qc, he, hq⟩, hb⟩ => ⟨_, he, hb, h.next hb, qo, qc, rfl, hq⟩
theorem find_on {w W : World} {N : Nat} {t : ByteArray} {R : List Int} {qo : Option Addr} {qc : Nat} (hk : okQ t = true) (h : Aw w N W) (hq : HasQ W qo (qL t)) (hf : findL lA ⟨#[120, 121, 122, 122]⟩ (qL t) = R) :
    Calls Try.prog 11 #[.slice (some ⟨N, 0, none⟩) 6 6, .string ⟨#[120, 121, 122, 122]⟩, .agg #[.slice qo (qL t).length qc]] W fun e w' => ∃ v, e = .returned v ∧ Below W.heap.size W w' ∧ Aw w N w' ∧ Rs R v w' := by
  subst hf
  refine (find_any lA (some ⟨N, 0, none⟩) 6 ⟨#[120, 121, 122, 122]⟩ (by decide) (qL t) qo qc (N + 1) (by decide) (by have := (okQ_out hk).2.1; omega) (fun p hp => by have := ((okQ_out hk).2.2 p hp).2.1; omega) W (by have := h.2.2.1; omega) h.2.1 h.2.2.2.2.2 hq).mono ?_
  rintro e w' ⟨v, he, ho, hb⟩
  exact ⟨v, he, hb, h.next hb, _, ho⟩
theorem ints_on {w W : World} {N B C : Nat} {v x : Value} {R : List Int} (h : Aw w N W) (hv : Owns W B v R) (hx : Owns W C x R) (hn : (R.length : Int) ≤ 1000) :
    Calls Try.prog 8 #[v, x] W fun e w' => ∃ u, e = .returned u ∧ Below W.heap.size W w' ∧ Aw w N w' ∧ u = .bool true :=
  (ints_any v x R B C hn W hv hx).mono fun e w' ⟨he, hb⟩ => ⟨_, he, hb, h.next hb, rfl⟩
theorem known_on {w W : World} {N : Nat} {t : ByteArray} {k : Bool} (h : Aw w N W) (hk : knownB cA t = k) :
    Calls Try.prog 13 #[.agg #[.slice (some ⟨N + 1, 0, none⟩) 2 2], .string t] W fun e w' => ∃ u, e = .returned u ∧ Below W.heap.size W w' ∧ Aw w N w' ∧ u = .bool k := by
  subst hk
  exact (known_any cA (some ⟨N + 1, 0, none⟩) 2 t (by decide) W h.2.2.2.1).mono fun e w' ⟨he, hb⟩ => ⟨_, he, hb, h.next hb, rfl⟩
theorem check_on {w W : World} {N : Nat} {t : ByteArray} {a b c : Int} {qo : Option Addr} {qc : Nat} (hk : okQ t = true) (h : Aw w N W) (hq : HasQ W qo (qL t)) (hc : chkV (qL t) cA = (a, b, c)) :
    Calls Try.prog 15 #[.agg #[.slice qo (qL t).length qc], .agg #[.slice (some ⟨N + 1, 0, none⟩) 2 2]] W fun e w' => ∃ u, e = .returned u ∧ Below W.heap.size W w' ∧ Aw w N w' ∧ u = .agg #[.int .i64 a, .int .i64 0, .int .i64 b, .int .i64 c] := by
  refine (check_any (qL t) qo qc (by have := (okQ_out hk).2.1; omega) (fun p hp => ⟨by have := ((okQ_out hk).2.2 p hp).2.1; omega, fun x hx => by have := ((okQ_out hk).2.2 p hp).2.2 x hx; unfold maxLen; omega⟩) cA (some ⟨N + 1, 0, none⟩) 2 (by decide) W hq h.2.2.2.1).mono ?_
  rw [hc]
  exact fun e w' ⟨he, hb⟩ => ⟨_, he, hb, h.next hb, rfl⟩
theorem check_none {w W : World} {N : Nat} (h : Aw w N W) :
    Calls Try.prog 15 #[.agg #[.slice none 0 0], .agg #[.slice (some ⟨N + 1, 0, none⟩) 2 2]] W fun e w' => ∃ u, e = .returned u ∧ Below W.heap.size W w' ∧ Aw w N w' ∧ u = .agg #[.int .i64 1, .int .i64 0, .int .i64 0, .int .i64 0] := by
  refine (check_any [] none 0 (by decide) (fun p hp => by cases hp) cA (some ⟨N + 1, 0, none⟩) 2 (by decide) W (fun i p hp => by simp at hp) h.2.2.2.1).mono ?_
  rw [show chkV [] cA = (1, 0, 0) from ck3]
  exact fun e w' ⟨he, hb⟩ => ⟨_, he, hb, h.next hb, rfl⟩
theorem step_on {w W : World} {N B : Nat} {q : Value} (h : Aw w N W) (hq : Owns W B q [-1, 0]) :
    Calls Try.prog 9 #[.slice (some ⟨N, 0, none⟩) 6 6, .string ⟨#[120, 121, 122, 122]⟩, q, .agg #[.int .i64 1, .int .i64 0, .string ⟨#[]⟩, .string ⟨#[]⟩, .string ⟨#[]⟩, .int .i64 0]] W fun e w' => ∃ v, e = .returned v ∧ Below W.heap.size W w' ∧ Aw w N w' ∧ Rs [0, 1, 4] v w' := by
  refine (step_any lA (some ⟨N, 0, none⟩) 6 ⟨#[120, 121, 122, 122]⟩ (by decide) ⟨1, 0, ⟨#[]⟩, ⟨#[]⟩, ⟨#[]⟩, 0⟩ (N + 1) (by decide) q [-1, 0] B (by decide) W (by have := h.2.2.1; omega) h.2.1 h.2.2.2.2.2 hq.ints).mono ?_
  rw [stpA]
  rintro e w' ⟨v, he, ho, hb⟩
  exact ⟨v, he, hb, h.next hb, _, ho⟩

set_option maxRecDepth 1000000 in
set_option maxHeartbeats 8000000 in
theorem awake_any (w : World) (hm : Mx w) : Calls Try.prog 7 #[] w fun e w' => e = .returned (.bool true) ∧ Below w.heap.size w w' := by
  have HA := Lib.hid (aw_start w hm)
  clear hm
  go_enter Try.func7, Try.ntmps7
  go_upto_region 3 with fail
  generalize World.alloc (World.alloc (w.alloc _) _) _ = W0 at *
  obtain ⟨N, hNN⟩ : ∃ N, w.heap.size = N := ⟨_, rfl⟩
  rw [hNN] at HA
  rw [hNN]
  have HNN := Lib.hid hNN
  clear hNN
  go_wp2_with fail
  simp only [List.append_eq, List.cons_append, List.nil_append]
  refine wp_region_any (by kernel_rfl) ?_

  have HA := Lib.hid (HA.out.next ((Below.refl _ _).drew))
  try (change wpAny _ _ _ _ _ _ _ (World.drew _))
  generalize World.drew W0 = W at *
  refine wpAny_take (i := 0) (v := ?_) rfl (by kernel_rfl) (by kernel_rfl) (by kernel_rfl) (fun _ _ _ h => h) (Or.inl ⟨by kernel_rfl, ?_⟩) ?_
  rotate_left
  · intro w
    go_simp
    try with_reducible rfl
  go_simp
  refine wpAny_take (i := 1) (v := ?_) rfl (by kernel_rfl) (by kernel_rfl) (by kernel_rfl) (fun _ _ _ h => h) (Or.inl ⟨by kernel_rfl, ?_⟩) ?_
  rotate_left
  · intro w
    go_simp
    try with_reducible rfl
  go_simp
  refine merge3 (i := 2) (j := 3) (k := 4) (si := 17) (sj := 18) (sk := 19) (I := fun W => Aw w N W) (Ri := Rq ⟨#[47, 47, 108]⟩) (Rj := Rs [1, 4]) (Rk := Rs [1, 4]) rfl rfl rfl rfl rfl rfl (by decide) (by decide) (by decide) (by decide) (by decide) (by kernel_rfl) (by kernel_rfl) (by kernel_rfl) (by kernel_rfl) (by kernel_rfl) HA.out ?_ ?_ ?_ (fun q w1 w2 => Rq.keep) (fun q w1 w2 => Rs.keep) (fun q w1 w2 => Rs.keep) ?_
  · as_aux_lemma =>
      clear HA
      rintro a' (rfl | ⟨x, rfl⟩) W hI
      all_goals (refine onward_call (f := 18) (vs := #[.string ⟨#[47, 47, 108]⟩]) (by kernel_rfl) (by go_simp) (asked_on ⟨#[47, 47, 108]⟩ (by decide) okq1 hI))
  · as_aux_lemma =>
      clear HA
      rintro q a' (rfl | ⟨x, rfl⟩) W hI ⟨qo, qc, rfl, HQ⟩
      all_goals (refine onward_call (f := 11) (vs := #[.slice (some ⟨N, 0, none⟩) 6 6, .string ⟨#[120, 121, 122, 122]⟩, .agg #[.slice qo (qL ⟨#[47, 47, 108]⟩).length qc]]) (by kernel_rfl) (by go_simp) (find_on okq1 hI HQ fnd1))
  · as_aux_lemma =>
      clear HA
      rintro a' (rfl | ⟨x, rfl⟩ | ⟨x, y, rfl⟩) W hI
      all_goals (refine onward_value (v := .slice (some ⟨W.heap.size, 0, none⟩) 2 2) (w' := W.alloc (.cells #[.int .i64 1, .int .i64 4] 3)) (by kernel_rfl) (by go_simp) ((Below.refl _ _).alloc (Nat.le_refl _) _) (hI.next ((Below.refl _ _).alloc (Nat.le_refl _) _)) ⟨_, Owns.litA W [1, 4] _ _ rfl rfl (by decide)⟩)
  clear HA
  rintro q v x W hb hI ⟨qo, qc, rfl, -⟩ ⟨B1, hv⟩ ⟨B2, hx⟩
  clear hb
  go_simp
  refine all_one (i := 5) (by kernel_rfl) (Onward.at_ (I := fun W => Aw w N W) (R := fun v _ => v = .bool true) ?_ rfl ?_)
  · as_aux_lemma =>
      exact onward_call (f := 8) (vs := #[v, x]) (by kernel_rfl) (by go_simp) (ints_on hI hv hx (by decide))
  rintro v2 W2 hb hI2 rfl
  clear hb hI hv hx
  have HA := Lib.hid hI2
  clear hI2
  go_simp
  refine wpAny_take (i := 6) (v := ?_) rfl (by kernel_rfl) (by kernel_rfl) (by kernel_rfl) (fun _ _ _ h => h) (Or.inl ⟨by kernel_rfl, ?_⟩) ?_
  rotate_left
  · intro w
    go_simp
    try with_reducible rfl
  go_simp
  as_aux_lemma =>
    refine wpAny_take (i := 7) (v := ?_) rfl (by kernel_rfl) (by kernel_rfl) (by kernel_rfl) (fun _ _ _ h => h) (Or.inl ⟨by kernel_rfl, ?_⟩) ?_
    rotate_left
    · intro w
      go_simp
      try with_reducible rfl
    go_simp
    refine wpAny_take (i := 8) (v := ?_) rfl (by kernel_rfl) (by kernel_rfl) (by kernel_rfl) (fun _ _ _ h => h) (Or.inl ⟨by kernel_rfl, ?_⟩) ?_
    rotate_left
    · intro w
      go_simp
      try with_reducible rfl
    go_simp
    refine merge3 (i := 9) (j := 10) (k := 11) (si := 24) (sj := 25) (sk := 26) (I := fun W => Aw w N W) (Ri := Rq ⟨#[47, 97, 47, 108, 91, 50, 93, 47, 35, 116, 101, 120, 116]⟩) (Rj := Rs [5]) (Rk := Rs [5]) rfl rfl rfl rfl rfl rfl (by decide) (by decide) (by decide) (by decide) (by decide) (by kernel_rfl) (by kernel_rfl) (by kernel_rfl) (by kernel_rfl) (by kernel_rfl) HA.out ?_ ?_ ?_ (fun q w1 w2 => Rq.keep) (fun q w1 w2 => Rs.keep) (fun q w1 w2 => Rs.keep) ?_
    · as_aux_lemma =>
        clear HA
        rintro a' (rfl | ⟨x, rfl⟩) W hI
        all_goals (refine onward_call (f := 18) (vs := #[.string ⟨#[47, 97, 47, 108, 91, 50, 93, 47, 35, 116, 101, 120, 116]⟩]) (by kernel_rfl) (by go_simp) (asked_on ⟨#[47, 97, 47, 108, 91, 50, 93, 47, 35, 116, 101, 120, 116]⟩ (by decide) okq2 hI))
    · as_aux_lemma =>
        clear HA
        rintro q a' (rfl | ⟨x, rfl⟩) W hI ⟨qo, qc, rfl, HQ⟩
        all_goals (refine onward_call (f := 11) (vs := #[.slice (some ⟨N, 0, none⟩) 6 6, .string ⟨#[120, 121, 122, 122]⟩, .agg #[.slice qo (qL ⟨#[47, 97, 47, 108, 91, 50, 93, 47, 35, 116, 101, 120, 116]⟩).length qc]]) (by kernel_rfl) (by go_simp) (find_on okq2 hI HQ fnd2))
    · as_aux_lemma =>
        clear HA
        rintro a' (rfl | ⟨x, rfl⟩ | ⟨x, y, rfl⟩) W hI
        all_goals (refine onward_value (v := .slice (some ⟨W.heap.size, 0, none⟩) 1 1) (w' := W.alloc (.cells #[.int .i64 5] 3)) (by kernel_rfl) (by go_simp) ((Below.refl _ _).alloc (Nat.le_refl _) _) (hI.next ((Below.refl _ _).alloc (Nat.le_refl _) _)) ⟨_, Owns.litA W [5] _ _ rfl rfl (by decide)⟩)
    clear HA
    rintro q v x W hb hI ⟨qo, qc, rfl, -⟩ ⟨B1, hv⟩ ⟨B2, hx⟩
    clear hb
    go_simp
    refine all_one (i := 12) (by kernel_rfl) (Onward.at_ (I := fun W => Aw w N W) (R := fun v _ => v = .bool true) ?_ rfl ?_)
    · as_aux_lemma =>
        exact onward_call (f := 8) (vs := #[v, x]) (by kernel_rfl) (by go_simp) (ints_on hI hv hx (by decide))
    rintro v2 W2 hb hI2 rfl
    clear hb hI hv hx
    have HA := Lib.hid hI2
    clear hI2
    go_simp
    refine wpAny_take (i := 13) (v := ?_) rfl (by kernel_rfl) (by kernel_rfl) (by kernel_rfl) (fun _ _ _ h => h) (Or.inl ⟨by kernel_rfl, ?_⟩) ?_
    rotate_left
    · intro w
      go_simp
      try with_reducible rfl
    go_simp
    refine wpAny_take (i := 14) (v := ?_) rfl (by kernel_rfl) (by kernel_rfl) (by kernel_rfl) (fun _ _ _ h => h) (Or.inl ⟨by kernel_rfl, ?_⟩) ?_
    rotate_left
    · intro w
      go_simp
      try with_reducible rfl
    go_simp
    as_aux_lemma =>
      refine wpAny_take (i := 15) (v := ?_) rfl (by kernel_rfl) (by kernel_rfl) (by kernel_rfl) (fun _ _ _ h => h) (Or.inl ⟨by kernel_rfl, ?_⟩) ?_
      rotate_left
      · intro w
        go_simp
        try with_reducible rfl
      go_simp
      refine wpAny_take (i := 16) (v := ?_) rfl (by kernel_rfl) (by kernel_rfl) (by kernel_rfl) (fun _ _ _ h => h) (Or.inl ⟨by kernel_rfl, ?_⟩) ?_
      rotate_left
      · intro w
        go_simp
        try with_reducible rfl
      go_simp
      refine merge3 (i := 17) (j := 18) (k := 19) (si := 32) (sj := 33) (sk := 34) (I := fun W => Aw w N W) (Ri := Rq ⟨#[47, 47, 35, 116, 101, 120, 116, 61, 34, 121, 34, 94, 42]⟩) (Rj := Rs [1]) (Rk := Rs [1]) rfl rfl rfl rfl rfl rfl (by decide) (by decide) (by decide) (by decide) (by decide) (by kernel_rfl) (by kernel_rfl) (by kernel_rfl) (by kernel_rfl) (by kernel_rfl) HA.out ?_ ?_ ?_ (fun q w1 w2 => Rq.keep) (fun q w1 w2 => Rs.keep) (fun q w1 w2 => Rs.keep) ?_
      · as_aux_lemma =>
          clear HA
          rintro a' (rfl | ⟨x, rfl⟩) W hI
          all_goals (refine onward_call (f := 18) (vs := #[.string ⟨#[47, 47, 35, 116, 101, 120, 116, 61, 34, 121, 34, 94, 42]⟩]) (by kernel_rfl) (by go_simp) (asked_on ⟨#[47, 47, 35, 116, 101, 120, 116, 61, 34, 121, 34, 94, 42]⟩ (by decide) okq3 hI))
      · as_aux_lemma =>
          clear HA
          rintro q a' (rfl | ⟨x, rfl⟩) W hI ⟨qo, qc, rfl, HQ⟩
          all_goals (refine onward_call (f := 11) (vs := #[.slice (some ⟨N, 0, none⟩) 6 6, .string ⟨#[120, 121, 122, 122]⟩, .agg #[.slice qo (qL ⟨#[47, 47, 35, 116, 101, 120, 116, 61, 34, 121, 34, 94, 42]⟩).length qc]]) (by kernel_rfl) (by go_simp) (find_on okq3 hI HQ fnd3))
      · as_aux_lemma =>
          clear HA
          rintro a' (rfl | ⟨x, rfl⟩ | ⟨x, y, rfl⟩) W hI
          all_goals (refine onward_value (v := .slice (some ⟨W.heap.size, 0, none⟩) 1 1) (w' := W.alloc (.cells #[.int .i64 1] 3)) (by kernel_rfl) (by go_simp) ((Below.refl _ _).alloc (Nat.le_refl _) _) (hI.next ((Below.refl _ _).alloc (Nat.le_refl _) _)) ⟨_, Owns.litA W [1] _ _ rfl rfl (by decide)⟩)
      clear HA
      rintro q v x W hb hI ⟨qo, qc, rfl, -⟩ ⟨B1, hv⟩ ⟨B2, hx⟩
      clear hb
      go_simp
      refine all_one (i := 20) (by kernel_rfl) (Onward.at_ (I := fun W => Aw w N W) (R := fun v _ => v = .bool true) ?_ rfl ?_)
      · as_aux_lemma =>
          exact onward_call (f := 8) (vs := #[v, x]) (by kernel_rfl) (by go_simp) (ints_on hI hv hx (by decide))
      rintro v2 W2 hb hI2 rfl
      clear hb hI hv hx
      have HA := Lib.hid hI2
      clear hI2
      go_simp
      refine wpAny_take (i := 21) (v := ?_) rfl (by kernel_rfl) (by kernel_rfl) (by kernel_rfl) (fun _ _ _ h => h) (Or.inl ⟨by kernel_rfl, ?_⟩) ?_
      rotate_left
      · intro w
        go_simp
        try with_reducible rfl
      go_simp
      refine wpAny_take (i := 22) (v := ?_) rfl (by kernel_rfl) (by kernel_rfl) (by kernel_rfl) (fun _ _ _ h => h) (Or.inl ⟨by kernel_rfl, ?_⟩) ?_
      rotate_left
      · intro w
        go_simp
        try with_reducible rfl
      go_simp
      as_aux_lemma =>
        refine wpAny_take (i := 23) (v := ?_) rfl (by kernel_rfl) (by kernel_rfl) (by kernel_rfl) (fun _ _ _ h => h) (Or.inl ⟨by kernel_rfl, ?_⟩) ?_
        rotate_left
        · intro w
          go_simp
          try with_reducible rfl
        go_simp
        refine wpAny_take (i := 24) (v := ?_) rfl (by kernel_rfl) (by kernel_rfl) (by kernel_rfl) (fun _ _ _ h => h) (Or.inl ⟨by kernel_rfl, ?_⟩) ?_
        rotate_left
        · intro w
          go_simp
          try with_reducible rfl
        go_simp
        refine merge3 (i := 25) (j := 26) (k := 27) (si := 40) (sj := 41) (sk := 42) (I := fun W => Aw w N W) (Ri := Rq ⟨#[47, 47, 108, 126, 34, 122, 34, 124, 47, 97]⟩) (Rj := Rs [0, 4]) (Rk := Rs [0, 4]) rfl rfl rfl rfl rfl rfl (by decide) (by decide) (by decide) (by decide) (by decide) (by kernel_rfl) (by kernel_rfl) (by kernel_rfl) (by kernel_rfl) (by kernel_rfl) HA.out ?_ ?_ ?_ (fun q w1 w2 => Rq.keep) (fun q w1 w2 => Rs.keep) (fun q w1 w2 => Rs.keep) ?_
        · as_aux_lemma =>
            clear HA
            rintro a' (rfl | ⟨x, rfl⟩) W hI
            all_goals (refine onward_call (f := 18) (vs := #[.string ⟨#[47, 47, 108, 126, 34, 122, 34, 124, 47, 97]⟩]) (by kernel_rfl) (by go_simp) (asked_on ⟨#[47, 47, 108, 126, 34, 122, 34, 124, 47, 97]⟩ (by decide) okq4 hI))
        · as_aux_lemma =>
            clear HA
            rintro q a' (rfl | ⟨x, rfl⟩) W hI ⟨qo, qc, rfl, HQ⟩
            all_goals (refine onward_call (f := 11) (vs := #[.slice (some ⟨N, 0, none⟩) 6 6, .string ⟨#[120, 121, 122, 122]⟩, .agg #[.slice qo (qL ⟨#[47, 47, 108, 126, 34, 122, 34, 124, 47, 97]⟩).length qc]]) (by kernel_rfl) (by go_simp) (find_on okq4 hI HQ fnd4))
        · as_aux_lemma =>
            clear HA
            rintro a' (rfl | ⟨x, rfl⟩ | ⟨x, y, rfl⟩) W hI
            all_goals (refine onward_value (v := .slice (some ⟨W.heap.size, 0, none⟩) 2 2) (w' := W.alloc (.cells #[.int .i64 0, .int .i64 4] 3)) (by kernel_rfl) (by go_simp) ((Below.refl _ _).alloc (Nat.le_refl _) _) (hI.next ((Below.refl _ _).alloc (Nat.le_refl _) _)) ⟨_, Owns.litA W [0, 4] _ _ rfl rfl (by decide)⟩)
        clear HA
        rintro q v x W hb hI ⟨qo, qc, rfl, -⟩ ⟨B1, hv⟩ ⟨B2, hx⟩
        clear hb
        go_simp
        refine all_one (i := 28) (by kernel_rfl) (Onward.at_ (I := fun W => Aw w N W) (R := fun v _ => v = .bool true) ?_ rfl ?_)
        · as_aux_lemma =>
            exact onward_call (f := 8) (vs := #[v, x]) (by kernel_rfl) (by go_simp) (ints_on hI hv hx (by decide))
        rintro v2 W2 hb hI2 rfl
        clear hb hI hv hx
        have HA := Lib.hid hI2
        clear hI2
        go_simp
        refine wpAny_take (i := 29) (v := ?_) rfl (by kernel_rfl) (by kernel_rfl) (by kernel_rfl) (fun _ _ _ h => h) (Or.inl ⟨by kernel_rfl, ?_⟩) ?_
        rotate_left
        · intro w
          go_simp
          try with_reducible rfl
        go_simp
        refine wpAny_take (i := 30) (v := ?_) rfl (by kernel_rfl) (by kernel_rfl) (by kernel_rfl) (fun _ _ _ h => h) (Or.inl ⟨by kernel_rfl, ?_⟩) ?_
        rotate_left
        · intro w
          go_simp
          try with_reducible rfl
        go_simp
        as_aux_lemma =>
          refine wpAny_take (i := 31) (v := ?_) rfl (by kernel_rfl) (by kernel_rfl) (by kernel_rfl) (fun _ _ _ h => h) (Or.inl ⟨by kernel_rfl, ?_⟩) ?_
          rotate_left
          · intro w
            go_simp
            try with_reducible rfl
          go_simp
          refine wpAny_take (i := 32) (v := ?_) rfl (by kernel_rfl) (by kernel_rfl) (by kernel_rfl) (fun _ _ _ h => h) (Or.inl ⟨by kernel_rfl, ?_⟩) ?_
          rotate_left
          · intro w
            go_simp
            try with_reducible rfl
          go_simp
          refine merge3 (i := 33) (j := 34) (k := 35) (si := 48) (sj := 49) (sk := 50) (I := fun W => Aw w N W) (Ri := Rq ⟨#[47, 47, 35, 116, 101, 120, 116, 91, 49, 93]⟩) (Rj := Rs [2]) (Rk := Rs [2]) rfl rfl rfl rfl rfl rfl (by decide) (by decide) (by decide) (by decide) (by decide) (by kernel_rfl) (by kernel_rfl) (by kernel_rfl) (by kernel_rfl) (by kernel_rfl) HA.out ?_ ?_ ?_ (fun q w1 w2 => Rq.keep) (fun q w1 w2 => Rs.keep) (fun q w1 w2 => Rs.keep) ?_
          · as_aux_lemma =>
              clear HA
              rintro a' (rfl | ⟨x, rfl⟩) W hI
              all_goals (refine onward_call (f := 18) (vs := #[.string ⟨#[47, 47, 35, 116, 101, 120, 116, 91, 49, 93]⟩]) (by kernel_rfl) (by go_simp) (asked_on ⟨#[47, 47, 35, 116, 101, 120, 116, 91, 49, 93]⟩ (by decide) okq5 hI))
          · as_aux_lemma =>
              clear HA
              rintro q a' (rfl | ⟨x, rfl⟩) W hI ⟨qo, qc, rfl, HQ⟩
              all_goals (refine onward_call (f := 11) (vs := #[.slice (some ⟨N, 0, none⟩) 6 6, .string ⟨#[120, 121, 122, 122]⟩, .agg #[.slice qo (qL ⟨#[47, 47, 35, 116, 101, 120, 116, 91, 49, 93]⟩).length qc]]) (by kernel_rfl) (by go_simp) (find_on okq5 hI HQ fnd5))
          · as_aux_lemma =>
              clear HA
              rintro a' (rfl | ⟨x, rfl⟩ | ⟨x, y, rfl⟩) W hI
              all_goals (refine onward_value (v := .slice (some ⟨W.heap.size, 0, none⟩) 1 1) (w' := W.alloc (.cells #[.int .i64 2] 3)) (by kernel_rfl) (by go_simp) ((Below.refl _ _).alloc (Nat.le_refl _) _) (hI.next ((Below.refl _ _).alloc (Nat.le_refl _) _)) ⟨_, Owns.litA W [2] _ _ rfl rfl (by decide)⟩)
          clear HA
          rintro q v x W hb hI ⟨qo, qc, rfl, -⟩ ⟨B1, hv⟩ ⟨B2, hx⟩
          clear hb
          go_simp
          refine all_one (i := 36) (by kernel_rfl) (Onward.at_ (I := fun W => Aw w N W) (R := fun v _ => v = .bool true) ?_ rfl ?_)
          · as_aux_lemma =>
              exact onward_call (f := 8) (vs := #[v, x]) (by kernel_rfl) (by go_simp) (ints_on hI hv hx (by decide))
          rintro v2 W2 hb hI2 rfl
          clear hb hI hv hx
          have HA := Lib.hid hI2
          clear hI2
          go_simp
          refine wpAny_take (i := 37) (v := ?_) rfl (by kernel_rfl) (by kernel_rfl) (by kernel_rfl) (fun _ _ _ h => h) (Or.inl ⟨by kernel_rfl, ?_⟩) ?_
          rotate_left
          · intro w
            go_simp
            try with_reducible rfl
          go_simp
          refine wpAny_take (i := 38) (v := ?_) rfl (by kernel_rfl) (by kernel_rfl) (by kernel_rfl) (fun _ _ _ h => h) (Or.inl ⟨by kernel_rfl, ?_⟩) ?_
          rotate_left
          · intro w
            go_simp
            try with_reducible rfl
          go_simp
          as_aux_lemma =>
            refine wpAny_take (i := 39) (v := ?_) rfl (by kernel_rfl) (by kernel_rfl) (by kernel_rfl) (fun _ _ _ h => h) (Or.inl ⟨by kernel_rfl, ?_⟩) ?_
            rotate_left
            · intro w
              go_simp
              try with_reducible rfl
            go_simp
            refine wpAny_take (i := 40) (v := ?_) rfl (by kernel_rfl) (by kernel_rfl) (by kernel_rfl) (fun _ _ _ h => h) (Or.inl ⟨by kernel_rfl, ?_⟩) ?_
            rotate_left
            · intro w
              go_simp
              try with_reducible rfl
            go_simp
            refine merge3 (i := 41) (j := 42) (k := 43) (si := 56) (sj := 57) (sk := 58) (I := fun W => Aw w N W) (Ri := Rq ⟨#[47, 97, 47, 108, 47, 35, 116, 101, 120, 116, 91, 49, 93]⟩) (Rj := Rs [2, 5]) (Rk := Rs [2, 5]) rfl rfl rfl rfl rfl rfl (by decide) (by decide) (by decide) (by decide) (by decide) (by kernel_rfl) (by kernel_rfl) (by kernel_rfl) (by kernel_rfl) (by kernel_rfl) HA.out ?_ ?_ ?_ (fun q w1 w2 => Rq.keep) (fun q w1 w2 => Rs.keep) (fun q w1 w2 => Rs.keep) ?_
            · as_aux_lemma =>
                clear HA
                rintro a' (rfl | ⟨x, rfl⟩) W hI
                all_goals (refine onward_call (f := 18) (vs := #[.string ⟨#[47, 97, 47, 108, 47, 35, 116, 101, 120, 116, 91, 49, 93]⟩]) (by kernel_rfl) (by go_simp) (asked_on ⟨#[47, 97, 47, 108, 47, 35, 116, 101, 120, 116, 91, 49, 93]⟩ (by decide) okq6 hI))
            · as_aux_lemma =>
                clear HA
                rintro q a' (rfl | ⟨x, rfl⟩) W hI ⟨qo, qc, rfl, HQ⟩
                all_goals (refine onward_call (f := 11) (vs := #[.slice (some ⟨N, 0, none⟩) 6 6, .string ⟨#[120, 121, 122, 122]⟩, .agg #[.slice qo (qL ⟨#[47, 97, 47, 108, 47, 35, 116, 101, 120, 116, 91, 49, 93]⟩).length qc]]) (by kernel_rfl) (by go_simp) (find_on okq6 hI HQ fnd6))
            · as_aux_lemma =>
                clear HA
                rintro a' (rfl | ⟨x, rfl⟩ | ⟨x, y, rfl⟩) W hI
                all_goals (refine onward_value (v := .slice (some ⟨W.heap.size, 0, none⟩) 2 2) (w' := W.alloc (.cells #[.int .i64 2, .int .i64 5] 3)) (by kernel_rfl) (by go_simp) ((Below.refl _ _).alloc (Nat.le_refl _) _) (hI.next ((Below.refl _ _).alloc (Nat.le_refl _) _)) ⟨_, Owns.litA W [2, 5] _ _ rfl rfl (by decide)⟩)
            clear HA
            rintro q v x W hb hI ⟨qo, qc, rfl, -⟩ ⟨B1, hv⟩ ⟨B2, hx⟩
            clear hb
            go_simp
            refine all_one (i := 44) (by kernel_rfl) (Onward.at_ (I := fun W => Aw w N W) (R := fun v _ => v = .bool true) ?_ rfl ?_)
            · as_aux_lemma =>
                exact onward_call (f := 8) (vs := #[v, x]) (by kernel_rfl) (by go_simp) (ints_on hI hv hx (by decide))
            rintro v2 W2 hb hI2 rfl
            clear hb hI hv hx
            have HA := Lib.hid hI2
            clear hI2
            go_simp
            refine wpAny_take (i := 45) (v := ?_) rfl (by kernel_rfl) (by kernel_rfl) (by kernel_rfl) (fun _ _ _ h => h) (Or.inl ⟨by kernel_rfl, ?_⟩) ?_
            rotate_left
            · intro w
              go_simp
              try with_reducible rfl
            go_simp
            refine wpAny_take (i := 46) (v := ?_) rfl (by kernel_rfl) (by kernel_rfl) (by kernel_rfl) (fun _ _ _ h => h) (Or.inl ⟨by kernel_rfl, ?_⟩) ?_
            rotate_left
            · intro w
              go_simp
              try with_reducible rfl
            go_simp
            as_aux_lemma =>
              refine wpAny_take (i := 47) (v := ?_) rfl (by kernel_rfl) (by kernel_rfl) (by kernel_rfl) (fun _ _ _ h => h) (Or.inl ⟨by kernel_rfl, ?_⟩) ?_
              rotate_left
              · intro w
                go_simp
                try with_reducible rfl
              go_simp
              refine wpAny_take (i := 48) (v := ?_) rfl (by kernel_rfl) (by kernel_rfl) (by kernel_rfl) (fun _ _ _ h => h) (Or.inl ⟨by kernel_rfl, ?_⟩) ?_
              rotate_left
              · intro w
                go_simp
                try with_reducible rfl
              go_simp
              refine merge3 (i := 49) (j := 50) (k := 51) (si := 64) (sj := 65) (sk := 66) (I := fun W => Aw w N W) (Ri := Rq ⟨#[47, 97, 47, 108, 43, 42]⟩) (Rj := Rs [4]) (Rk := Rs [4]) rfl rfl rfl rfl rfl rfl (by decide) (by decide) (by decide) (by decide) (by decide) (by kernel_rfl) (by kernel_rfl) (by kernel_rfl) (by kernel_rfl) (by kernel_rfl) HA.out ?_ ?_ ?_ (fun q w1 w2 => Rq.keep) (fun q w1 w2 => Rs.keep) (fun q w1 w2 => Rs.keep) ?_
              · as_aux_lemma =>
                  clear HA
                  rintro a' (rfl | ⟨x, rfl⟩) W hI
                  all_goals (refine onward_call (f := 18) (vs := #[.string ⟨#[47, 97, 47, 108, 43, 42]⟩]) (by kernel_rfl) (by go_simp) (asked_on ⟨#[47, 97, 47, 108, 43, 42]⟩ (by decide) okq7 hI))
              · as_aux_lemma =>
                  clear HA
                  rintro q a' (rfl | ⟨x, rfl⟩) W hI ⟨qo, qc, rfl, HQ⟩
                  all_goals (refine onward_call (f := 11) (vs := #[.slice (some ⟨N, 0, none⟩) 6 6, .string ⟨#[120, 121, 122, 122]⟩, .agg #[.slice qo (qL ⟨#[47, 97, 47, 108, 43, 42]⟩).length qc]]) (by kernel_rfl) (by go_simp) (find_on okq7 hI HQ fnd7))
              · as_aux_lemma =>
                  clear HA
                  rintro a' (rfl | ⟨x, rfl⟩ | ⟨x, y, rfl⟩) W hI
                  all_goals (refine onward_value (v := .slice (some ⟨W.heap.size, 0, none⟩) 1 1) (w' := W.alloc (.cells #[.int .i64 4] 3)) (by kernel_rfl) (by go_simp) ((Below.refl _ _).alloc (Nat.le_refl _) _) (hI.next ((Below.refl _ _).alloc (Nat.le_refl _) _)) ⟨_, Owns.litA W [4] _ _ rfl rfl (by decide)⟩)
              clear HA
              rintro q v x W hb hI ⟨qo, qc, rfl, -⟩ ⟨B1, hv⟩ ⟨B2, hx⟩
              clear hb
              go_simp
              refine all_one (i := 52) (by kernel_rfl) (Onward.at_ (I := fun W => Aw w N W) (R := fun v _ => v = .bool true) ?_ rfl ?_)
              · as_aux_lemma =>
                  exact onward_call (f := 8) (vs := #[v, x]) (by kernel_rfl) (by go_simp) (ints_on hI hv hx (by decide))
              rintro v2 W2 hb hI2 rfl
              clear hb hI hv hx
              have HA := Lib.hid hI2
              clear hI2
              go_simp
              refine wpAny_take (i := 53) (v := ?_) rfl (by kernel_rfl) (by kernel_rfl) (by kernel_rfl) (fun _ _ _ h => h) (Or.inl ⟨by kernel_rfl, ?_⟩) ?_
              rotate_left
              · intro w
                go_simp
                try with_reducible rfl
              go_simp
              refine wpAny_take (i := 54) (v := ?_) rfl (by kernel_rfl) (by kernel_rfl) (by kernel_rfl) (fun _ _ _ h => h) (Or.inl ⟨by kernel_rfl, ?_⟩) ?_
              rotate_left
              · intro w
                go_simp
                try with_reducible rfl
              go_simp
              as_aux_lemma =>
                refine all_one (i := 55) (by kernel_rfl) (Onward.at_ (I := fun W => Aw w N W) (R := fun v _ => v = .agg #[.slice (some ⟨N + 1, 0, none⟩) 2 2]) ?_ rfl ?_)
                · as_aux_lemma =>
                    exact onward_value (v := .agg #[.slice (some ⟨N + 1, 0, none⟩) 2 2]) (by kernel_rfl) (by have hc := HA.out.cell; go_simp) (Below.refl _ _) HA.out rfl
                rintro v2 W2 hb hI rfl
                clear hb HA
                go_simp
                refine all_one (i := 56) (by kernel_rfl) (Onward.at_ (I := fun W => Aw w N W) (R := fun v _ => v = .bool true) ?_ rfl ?_)
                · as_aux_lemma =>
                    exact onward_call (f := 13) (vs := #[.agg #[.slice (some ⟨N + 1, 0, none⟩) 2 2], .string ⟨#[108]⟩]) (by kernel_rfl) (by go_simp) (known_on hI kn1)
                rintro v3 W3 hb hI3 rfl
                clear hb hI
                have HA := Lib.hid hI3
                clear hI3
                go_simp
                refine wpAny_take (i := 57) (v := ?_) rfl (by kernel_rfl) (by kernel_rfl) (by kernel_rfl) (fun _ _ _ h => h) (Or.inl ⟨by kernel_rfl, ?_⟩) ?_
                rotate_left
                · intro w
                  go_simp
                  try with_reducible rfl
                go_simp
                refine wpAny_take (i := 58) (v := ?_) rfl (by kernel_rfl) (by kernel_rfl) (by kernel_rfl) (fun _ _ _ h => h) (Or.inl ⟨by kernel_rfl, ?_⟩) ?_
                rotate_left
                · intro w
                  go_simp
                  try with_reducible rfl
                go_simp
                as_aux_lemma =>
                  refine all_one (i := 59) (by kernel_rfl) (Onward.at_ (I := fun W => Aw w N W) (R := fun v _ => v = .agg #[.slice (some ⟨N + 1, 0, none⟩) 2 2]) ?_ rfl ?_)
                  · as_aux_lemma =>
                      exact onward_value (v := .agg #[.slice (some ⟨N + 1, 0, none⟩) 2 2]) (by kernel_rfl) (by have hc := HA.out.cell; go_simp) (Below.refl _ _) HA.out rfl
                  rintro v2 W2 hb hI rfl
                  clear hb HA
                  go_simp
                  refine all_one (i := 60) (by kernel_rfl) (Onward.at_ (I := fun W => Aw w N W) (R := fun v _ => v = .bool false) ?_ rfl ?_)
                  · as_aux_lemma =>
                      exact onward_call (f := 13) (vs := #[.agg #[.slice (some ⟨N + 1, 0, none⟩) 2 2], .string ⟨#[120]⟩]) (by kernel_rfl) (by go_simp) (known_on hI kn2)
                  rintro v3 W3 hb hI3 rfl
                  clear hb hI
                  have HA := Lib.hid hI3
                  clear hI3
                  go_simp
                  refine wpAny_take (i := 61) (v := ?_) rfl (by kernel_rfl) (by kernel_rfl) (by kernel_rfl) (fun _ _ _ h => h) (Or.inl ⟨by kernel_rfl, ?_⟩) ?_
                  rotate_left
                  · intro w
                    go_simp
                    try with_reducible rfl
                  go_simp
                  refine wpAny_take (i := 62) (v := ?_) rfl (by kernel_rfl) (by kernel_rfl) (by kernel_rfl) (fun _ _ _ h => h) (Or.inl ⟨by kernel_rfl, ?_⟩) ?_
                  rotate_left
                  · intro w
                    go_simp
                    try with_reducible rfl
                  go_simp
                  refine wpAny_take (i := 63) (v := ?_) rfl (by kernel_rfl) (by kernel_rfl) (by kernel_rfl) (fun _ _ _ h => h) (Or.inl ⟨by kernel_rfl, ?_⟩) ?_
                  rotate_left
                  · intro w
                    go_simp
                    try with_reducible rfl
                  go_simp
                  as_aux_lemma =>
                    refine wpAny_take (i := 67) (v := ?_) rfl (by kernel_rfl) (by kernel_rfl) (by kernel_rfl) (fun _ _ _ h => h) (Or.inl ⟨by kernel_rfl, ?_⟩) ?_
                    rotate_left
                    · intro w
                      go_simp
                      try with_reducible rfl
                    go_simp
                    refine merge2 (i := 64) (k := 65) (si := 79) (sk := 80) (I := fun W => Aw w N W) (Ri := Rq ⟨#[47, 47, 97, 124, 47, 97, 47, 108]⟩) (Rk := fun v _ => v = .agg #[.slice (some ⟨N + 1, 0, none⟩) 2 2]) rfl rfl rfl rfl (by decide) (by decide) (by kernel_rfl) (by kernel_rfl) (by kernel_rfl) HA.out ?_ ?_ (fun q w1 w2 => Rq.keep) (fun q w1 w2 h _ => h) ?_
                    · as_aux_lemma =>
                        clear HA
                        rintro a' (rfl | ⟨x, rfl⟩) W hI
                        all_goals (refine onward_call (f := 18) (vs := #[.string ⟨#[47, 47, 97, 124, 47, 97, 47, 108]⟩]) (by kernel_rfl) (by go_simp) (asked_on ⟨#[47, 47, 97, 124, 47, 97, 47, 108]⟩ (by decide) okq8 hI))
                    · as_aux_lemma =>
                        clear HA
                        rintro a' (rfl | ⟨x, rfl⟩) W hI
                        all_goals (refine onward_value (v := .agg #[.slice (some ⟨N + 1, 0, none⟩) 2 2]) (by kernel_rfl) (by have hc := hI.cell; go_simp) (Below.refl _ _) hI rfl)
                    clear HA
                    rintro q x W hb hI ⟨qo, qc, rfl, HQ⟩ rfl
                    clear hb
                    go_simp
                    refine all_one (i := 66) (by kernel_rfl) (Onward.at_ (I := fun W => Aw w N W) (R := fun v _ => v = .agg #[.int .i64 0, .int .i64 0, .int .i64 0, .int .i64 0]) ?_ rfl ?_)
                    · as_aux_lemma =>
                        exact onward_call (f := 15) (vs := #[.agg #[.slice qo (qL ⟨#[47, 47, 97, 124, 47, 97, 47, 108]⟩).length qc], .agg #[.slice (some ⟨N + 1, 0, none⟩) 2 2]]) (by kernel_rfl) (by go_simp) (check_on okq8 hI HQ ck1)
                    rintro v3 W3 hb hI3 rfl
                    clear hb hI HQ
                    have HA := Lib.hid hI3
                    clear hI3
                    go_simp
                    refine wpAny_take (i := 68) (v := ?_) rfl (by kernel_rfl) (by kernel_rfl) (by kernel_rfl) (fun _ _ _ h => h) (Or.inl ⟨by kernel_rfl, ?_⟩) ?_
                    rotate_left
                    · intro w
                      go_simp
                      try with_reducible rfl
                    go_simp
                    refine wpAny_take (i := 69) (v := ?_) rfl (by kernel_rfl) (by kernel_rfl) (by kernel_rfl) (fun _ _ _ h => h) (Or.inl ⟨by kernel_rfl, ?_⟩) ?_
                    rotate_left
                    · intro w
                      go_simp
                      try with_reducible rfl
                    go_simp
                    refine wpAny_take (i := 70) (v := ?_) rfl (by kernel_rfl) (by kernel_rfl) (by kernel_rfl) (fun _ _ _ h => h) (Or.inl ⟨by kernel_rfl, ?_⟩) ?_
                    rotate_left
                    · intro w
                      go_simp
                      try with_reducible rfl
                    go_simp
                    as_aux_lemma =>
                      refine wpAny_take (i := 74) (v := ?_) rfl (by kernel_rfl) (by kernel_rfl) (by kernel_rfl) (fun _ _ _ h => h) (Or.inl ⟨by kernel_rfl, ?_⟩) ?_
                      rotate_left
                      · intro w
                        go_simp
                        try with_reducible rfl
                      go_simp
                      refine merge2 (i := 71) (k := 72) (si := 86) (sk := 87) (I := fun W => Aw w N W) (Ri := Rq ⟨#[47, 47, 97, 124, 47, 97, 47, 120]⟩) (Rk := fun v _ => v = .agg #[.slice (some ⟨N + 1, 0, none⟩) 2 2]) rfl rfl rfl rfl (by decide) (by decide) (by kernel_rfl) (by kernel_rfl) (by kernel_rfl) HA.out ?_ ?_ (fun q w1 w2 => Rq.keep) (fun q w1 w2 h _ => h) ?_
                      · as_aux_lemma =>
                          clear HA
                          rintro a' (rfl | ⟨x, rfl⟩) W hI
                          all_goals (refine onward_call (f := 18) (vs := #[.string ⟨#[47, 47, 97, 124, 47, 97, 47, 120]⟩]) (by kernel_rfl) (by go_simp) (asked_on ⟨#[47, 47, 97, 124, 47, 97, 47, 120]⟩ (by decide) okq9 hI))
                      · as_aux_lemma =>
                          clear HA
                          rintro a' (rfl | ⟨x, rfl⟩) W hI
                          all_goals (refine onward_value (v := .agg #[.slice (some ⟨N + 1, 0, none⟩) 2 2]) (by kernel_rfl) (by have hc := hI.cell; go_simp) (Below.refl _ _) hI rfl)
                      clear HA
                      rintro q x W hb hI ⟨qo, qc, rfl, HQ⟩ rfl
                      clear hb
                      go_simp
                      refine all_one (i := 73) (by kernel_rfl) (Onward.at_ (I := fun W => Aw w N W) (R := fun v _ => v = .agg #[.int .i64 5, .int .i64 0, .int .i64 1, .int .i64 1]) ?_ rfl ?_)
                      · as_aux_lemma =>
                          exact onward_call (f := 15) (vs := #[.agg #[.slice qo (qL ⟨#[47, 47, 97, 124, 47, 97, 47, 120]⟩).length qc], .agg #[.slice (some ⟨N + 1, 0, none⟩) 2 2]]) (by kernel_rfl) (by go_simp) (check_on okq9 hI HQ ck2)
                      rintro v3 W3 hb hI3 rfl
                      clear hb hI HQ
                      have HA := Lib.hid hI3
                      clear hI3
                      go_simp
                      refine wpAny_take (i := 75) (v := ?_) rfl (by kernel_rfl) (by kernel_rfl) (by kernel_rfl) (fun _ _ _ h => h) (Or.inl ⟨by kernel_rfl, ?_⟩) ?_
                      rotate_left
                      · intro w
                        go_simp
                        try with_reducible rfl
                      go_simp
                      refine wpAny_take (i := 76) (v := ?_) rfl (by kernel_rfl) (by kernel_rfl) (by kernel_rfl) (fun _ _ _ h => h) (Or.inl ⟨by kernel_rfl, ?_⟩) ?_
                      rotate_left
                      · intro w
                        go_simp
                        try with_reducible rfl
                      go_simp
                      refine wpAny_take (i := 77) (v := ?_) rfl (by kernel_rfl) (by kernel_rfl) (by kernel_rfl) (fun _ _ _ h => h) (Or.inl ⟨by kernel_rfl, ?_⟩) ?_
                      rotate_left
                      · intro w
                        go_simp
                        try with_reducible rfl
                      go_simp
                      as_aux_lemma =>
                        refine wpAny_take (i := 78) (v := ?_) rfl (by kernel_rfl) (by kernel_rfl) (by kernel_rfl) (fun _ _ _ h => h) (Or.inl ⟨by kernel_rfl, ?_⟩) ?_
                        rotate_left
                        · intro w
                          go_simp
                          try with_reducible rfl
                        go_simp
                        refine wpAny_take (i := 81) (v := ?_) rfl (by kernel_rfl) (by kernel_rfl) (by kernel_rfl) (fun _ _ _ h => h) (Or.inl ⟨by kernel_rfl, ?_⟩) ?_
                        rotate_left
                        · intro w
                          go_simp
                          try with_reducible rfl
                        go_simp
                        refine all_one (i := 79) (by kernel_rfl) (Onward.at_ (I := fun W => Aw w N W) (R := fun v _ => v = .agg #[.slice (some ⟨N + 1, 0, none⟩) 2 2]) ?_ rfl ?_)
                        · as_aux_lemma =>
                            exact onward_value (v := .agg #[.slice (some ⟨N + 1, 0, none⟩) 2 2]) (by kernel_rfl) (by have hc := HA.out.cell; go_simp) (Below.refl _ _) HA.out rfl
                        rintro v2 W2 hb hI rfl
                        clear hb HA
                        go_simp
                        refine all_one (i := 80) (by kernel_rfl) (Onward.at_ (I := fun W => Aw w N W) (R := fun v _ => v = .agg #[.int .i64 1, .int .i64 0, .int .i64 0, .int .i64 0]) ?_ rfl ?_)
                        · as_aux_lemma =>
                            exact onward_call (f := 15) (vs := #[.agg #[.slice none 0 0], .agg #[.slice (some ⟨N + 1, 0, none⟩) 2 2]]) (by kernel_rfl) (by go_simp) (check_none hI)
                        rintro v3 W3 hb hI3 rfl
                        clear hb hI
                        have HA := Lib.hid hI3
                        clear hI3
                        go_simp
                        refine wpAny_take (i := 82) (v := ?_) rfl (by kernel_rfl) (by kernel_rfl) (by kernel_rfl) (fun _ _ _ h => h) (Or.inl ⟨by kernel_rfl, ?_⟩) ?_
                        rotate_left
                        · intro w
                          go_simp
                          try with_reducible rfl
                        go_simp
                        refine wpAny_take (i := 83) (v := ?_) rfl (by kernel_rfl) (by kernel_rfl) (by kernel_rfl) (fun _ _ _ h => h) (Or.inl ⟨by kernel_rfl, ?_⟩) ?_
                        rotate_left
                        · intro w
                          go_simp
                          try with_reducible rfl
                        go_simp
                        refine wpAny_take (i := 84) (v := ?_) rfl (by kernel_rfl) (by kernel_rfl) (by kernel_rfl) (fun _ _ _ h => h) (Or.inl ⟨by kernel_rfl, ?_⟩) ?_
                        rotate_left
                        · intro w
                          go_simp
                          try with_reducible rfl
                        go_simp
                        as_aux_lemma =>
                          refine wpAny_take (i := 85) (v := ?_) rfl (by kernel_rfl) (by kernel_rfl) (by kernel_rfl) (fun _ _ _ h => h) (Or.inl ⟨by kernel_rfl, ?_⟩) ?_
                          rotate_left
                          · intro w
                            go_simp
                            try with_reducible rfl
                          go_simp
                          refine wpAny_take (i := 86) (v := ?_) rfl (by kernel_rfl) (by kernel_rfl) (by kernel_rfl) (fun _ _ _ h => h) (Or.inl ⟨by kernel_rfl, ?_⟩) ?_
                          rotate_left
                          · intro w
                            go_simp
                            try with_reducible rfl
                          go_simp
                          refine wpAny_take (i := 88) (v := ?_) rfl (by kernel_rfl) (by kernel_rfl) (by kernel_rfl) (fun _ _ _ h => h) (Or.inl ⟨by kernel_rfl, ?_⟩) ?_
                          rotate_left
                          · intro w
                            go_simp
                            try with_reducible rfl
                          go_simp
                          refine merge3 (i := 87) (j := 89) (k := 90) (si := 102) (sj := 104) (sk := 105) (I := fun W => Aw w N W) (Ri := Rs [-1, 0]) (Rj := Rs [0, 1, 4]) (Rk := Rs [0, 1, 4]) rfl rfl rfl rfl rfl rfl (by decide) (by decide) (by decide) (by decide) (by decide) (by kernel_rfl) (by kernel_rfl) (by kernel_rfl) (by kernel_rfl) (by kernel_rfl) HA.out ?_ ?_ ?_ (fun q w1 w2 => Rs.keep) (fun q w1 w2 => Rs.keep) (fun q w1 w2 => Rs.keep) ?_
                          · as_aux_lemma =>
                              clear HA
                              rintro a' (rfl | ⟨x, rfl⟩) W hI
                              all_goals (refine onward_value (v := .slice (some ⟨W.heap.size, 0, none⟩) 2 2) (w' := W.alloc (.cells #[.int .i64 (-1), .int .i64 0] 3)) (by kernel_rfl) (by go_simp) ((Below.refl _ _).alloc (Nat.le_refl _) _) (hI.next ((Below.refl _ _).alloc (Nat.le_refl _) _)) ⟨_, Owns.litA W [-1, 0] _ _ rfl rfl (by decide)⟩)
                          · as_aux_lemma =>
                              clear HA
                              rintro q a' (rfl | ⟨x, rfl⟩) W hI ⟨B1, hq⟩
                              all_goals (refine onward_call (f := 9) (vs := #[.slice (some ⟨N, 0, none⟩) 6 6, .string ⟨#[120, 121, 122, 122]⟩, q, .agg #[.int .i64 1, .int .i64 0, .string ⟨#[]⟩, .string ⟨#[]⟩, .string ⟨#[]⟩, .int .i64 0]]) (by kernel_rfl) (by go_simp) (step_on hI hq))
                          · as_aux_lemma =>
                              clear HA
                              rintro a' (rfl | ⟨x, rfl⟩ | ⟨x, y, rfl⟩) W hI
                              all_goals (refine onward_value (v := .slice (some ⟨W.heap.size, 0, none⟩) 3 3) (w' := W.alloc (.cells #[.int .i64 0, .int .i64 1, .int .i64 4] 3)) (by kernel_rfl) (by go_simp) ((Below.refl _ _).alloc (Nat.le_refl _) _) (hI.next ((Below.refl _ _).alloc (Nat.le_refl _) _)) ⟨_, Owns.litA W [0, 1, 4] _ _ rfl rfl (by decide)⟩)
                          clear HA
                          rintro q v x W hb hI ⟨B0, -⟩ ⟨B1, hv⟩ ⟨B2, hx⟩
                          clear hb
                          go_simp
                          refine all_one (i := 91) (by kernel_rfl) (Onward.at_ (I := fun W => Aw w N W) (R := fun v _ => v = .bool true) ?_ rfl ?_)
                          · as_aux_lemma =>
                              exact onward_call (f := 8) (vs := #[v, x]) (by kernel_rfl) (by go_simp) (ints_on hI hv hx (by decide))
                          rintro v2 W2 hb hI2 rfl
                          clear hb hI hv hx
                          have HA := Lib.hid hI2
                          clear hI2
                          go_simp
                          refine wpAny_take (i := 92) (v := ?_) rfl (by kernel_rfl) (by kernel_rfl) (by kernel_rfl) (fun _ _ _ h => h) (Or.inl ⟨by kernel_rfl, ?_⟩) ?_
                          rotate_left
                          · intro w
                            go_simp
                            try with_reducible rfl
                          go_simp
                          refine wpAny_take (i := 93) (v := ?_) rfl (by kernel_rfl) (by kernel_rfl) (by kernel_rfl) (fun _ _ _ h => h) (Or.inl ⟨by kernel_rfl, ?_⟩) ?_
                          rotate_left
                          · intro w
                            go_simp
                            try with_reducible rfl
                          go_simp
                          refine wpAny_done (by kernel_rfl) ?_ _
                          go_wp2
                          go_ret
                          exact ⟨rfl, by rw [HNN.out]; exact HA.out.1⟩
end Go.Proofs.Ytnopnjleibbakab