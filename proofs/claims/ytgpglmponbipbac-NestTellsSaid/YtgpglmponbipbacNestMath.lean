/- What Close does to the rows. -/
import Derived.Test.YtgpglmponbipbacNestRep
namespace Go.Proofs.Ytgpglmponbipbac
set_option linter.unusedVariables false
open Go.RowKit Go.Sort

theorem rowL_set : ∀ (L : List Nd) (t : Nat) (x : Nd) (to : Int), L[t]? = some x → (rowL L).set (t * 5 + 3) (.int .i64 to) = rowL (L.set t ⟨x.kd, x.nm, x.fr, to, x.up⟩)
  | y :: L, 0, x, to, h => by
    simp at h; subst h
    rfl
  | y :: L, t + 1, x, to, h => by
    have e : rowL (y :: L) = .int .i64 y.kd :: .string y.nm :: .int .i64 y.fr :: .int .i64 y.tt :: .int .i64 y.up :: rowL L := rfl
    have ih := rowL_set L t x to (by simpa using h)
    rw [e, show (t + 1) * 5 + 3 = t * 5 + 3 + 5 by omega]
    simp only [List.set_cons_succ]
    rw [ih]; rfl
theorem Ups.set {L : List Nd} {t : Nat} {x : Nd} {to : Int} (h : Ups L (t : Int)) (hx : L[t]? = some x) : Ups (L.set t ⟨x.kd, x.nm, x.fr, to, x.up⟩) x.up := by
  obtain ⟨h1, h2, h3⟩ := h
  have := h1 t x hx
  refine ⟨fun i y hy => ?_, this.1, by rw [List.length_set]; omega⟩
  rw [List.getElem?_set] at hy
  split at hy
  · rename_i e
    subst e
    split at hy
    · simp at hy; subst hy; exact this
    · cases hy
  · exact h1 i y hy
/-- The first m elements. -/
theorem Win.cut {S : Nat → Prop} {e : TypeId} {size n m cap : Nat} {ao : Option Addr} {w : World} {xs : List Value} (h : Win S e size w (.slice ao n cap) n xs) (hm : m ≤ n) : Win S e size w (.slice ao m cap) m (xs.take (m * size)) := by
  obtain ⟨h1, h2⟩ := h
  have hms := Nat.mul_le_mul_right size hm
  refine ⟨by rw [List.length_take, h1]; omega, ?_⟩
  rcases h2 with ⟨h, h0⟩ | ⟨g, off, cap', cur, h, hg, hh, hn, hc, hs, rfl⟩
  · simp only [Value.slice.injEq] at h
    obtain ⟨rfl, _, rfl⟩ := h
    obtain rfl : m = 0 := by omega
    exact .inl ⟨rfl, rfl⟩
  · simp only [Value.slice.injEq, true_and] at h
    obtain ⟨rfl, rfl⟩ := h
    exact .inr ⟨g, off, cap, cur, rfl, hg, hh, by omega, hc, hs, by rw [List.take_take, Nat.min_eq_left hms]⟩
theorem rowL_take (L : List Nd) (m : Nat) : (rowL L).take (m * 5) = rowL (L.take m) := by
  induction L generalizing m with
  | nil => simp [rowL]
  | cons x L ih =>
    cases m with
    | zero => simp [rowL]
    | succ m =>
      have e : rowL (x :: L) = x.row ++ rowL L := rfl
      have e2 : rowL ((x :: L).take (m + 1)) = x.row ++ rowL (L.take m) := rfl
      rw [e, e2, ← ih m, List.take_append, List.take_of_length_le (by simp [Nd.row]; omega)]
      congr 2
      simp [Nd.row]; omega
theorem Ups.cut {L : List Nd} {top : Int} {m : Nat} {t : Int} (h : Ups L top) (ht : -1 ≤ t ∧ t < (m : Int)) (hm : m ≤ L.length) : Ups (L.take m) t := by
  refine ⟨fun i x hx => ?_, ht.1, by rw [List.length_take]; omega⟩
  rw [List.getElem?_take] at hx
  split at hx
  · exact h.1 i x hx
  · cases hx
end Go.Proofs.Ytgpglmponbipbac
