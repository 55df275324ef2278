/- Whether two expressions are the same, and when they are written alike. Math alone. -/
import Derived.Test.YtonknapfndaalaaGo
import Derived.Test.YtonknapfndaalaaSmR
namespace Go.Proofs.Ytonknapfndaalaa
set_option linter.unusedVariables false
set_option maxRecDepth 1000000
open Go.RowKit Ex
theorem same_self : ∀ (n : Nat) (x : Ex), fit 90001 n x = true → sameX n x x = true
 | 0, x, h => by cases h
 | n + 1, x, h => by
  rw [sameX_succ, Bool.and_eq_true]
  refine ⟨by unfold hdrS; simp, allS_yes rfl fun j a b ha hb => ?_⟩
  rw [ha] at hb; cases hb
  exact same_self n a (fit_kid h ha)
theorem grt_fit : ∀ {n : Nat} {x : Ex}, grt n x = false → fit 90001 n x = true
 | 0, x, h => by cases h
 | n + 1, x, h => by
  unfold fit
  rw [Bool.and_eq_true, decide_eq_true_eq, List.all_eq_true]
  refine ⟨by have := (grt_len h).1; omega, fun y hy => ?_⟩
  obtain ⟨k, hk, e⟩ := List.getElem_of_mem hy
  exact grt_fit (grt_kid h (k := k) (by rw [List.getElem?_eq_getElem hk, e]))
theorem grt_txs : ∀ {n : Nat} {x : Ex}, grt n x = false → SetsOk n x → ∀ m, txs 100000 m x = true
 | 0, x, h, _, m => by cases h
 | n + 1, x, h, hS, 0 => rfl
 | n + 1, x, h, hS, m + 1 => by
  obtain ⟨⟨a, b, c, d⟩, hk⟩ := hS
  unfold P64 at a b c d
  unfold txs fitI
  rw [Bool.and_eq_true, Bool.and_eq_true, decide_eq_true_eq, List.all_eq_true]
  refine ⟨⟨by have := (grt_len h).2; omega, ?_⟩, fun y hy => ?_⟩
  ·
   rw [decide_eq_true (by omega), decide_eq_true (by omega), decide_eq_true (by omega), decide_eq_true (by omega)]; rfl
  ·
   obtain ⟨k, hk', e⟩ := List.getElem_of_mem hy
   have hy' : x.kids[k]? = some y := by rw [List.getElem?_eq_getElem hk', e]
   exact grt_txs (grt_kid h hy') (hk k y hy') m
/-- How much is written of what is no deeper than d. -/
def WB : Nat → Nat
 | 0 => 0
 | d + 1 => 8 * WB d + 2660
theorem wt_deep : ∀ (d n : Nat) (x : Ex), grt n x = false → deepX n x ≤ (d : Int) → wtX n x ≤ WB d
 | d, 0, x, h, _ => by cases h
 | 0, n + 1, x, h, hd => by have := deepX_one n x; omega
 | d + 1, n + 1, x, h, hd => by
  have hk : ∀ y ∈ x.kids, wtX n y ≤ WB d := fun y hy => by
   obtain ⟨k, hk', e⟩ := List.getElem_of_mem hy
   have := deep_kid (n := n) hy
   exact wt_deep d n y (grt_kid h (k := k) (by rw [List.getElem?_eq_getElem hk', e])) (by omega)
  have hs : ∀ (K : List Ex), (∀ y ∈ K, wtX n y ≤ WB d) → (K.map (wtX n)).sum ≤ K.length * WB d := fun K => by
   induction K with
   | nil => intro _; simp
   | cons y K ih =>
    intro g
    have h1 := g y (List.mem_cons_self ..)
    have h2 := ih (fun z hz => g z (List.mem_cons_of_mem _ hz))
    simp only [List.map_cons, List.sum_cons, List.length_cons, Nat.succ_mul]; omega
  have h1 := hs _ hk
  have h2 : x.kids.length * WB d ≤ 8 * WB d := Nat.mul_le_mul_right _ (grt_len h).1
  have h3 := (grt_len h).2
  show (x.kids.map (wtX n)).sum + 4 * x.text.size + 2420 ≤ 8 * WB d + 2660
  omega
theorem grt_fw {n : Nat} {x : Ex} (h : grt n x = false) (hS : SetsOk n x) : Fw n x := ⟨grt_fit h, grt_txs h hS⟩
theorem right_pr {n : Nat} {x : Ex} (h : grt n x = false) (hS : SetsOk n x) (hr : rightX n x = true) : PrOk n x := by
 unfold rightX at hr
 rw [Bool.and_eq_true, decide_eq_true_eq] at hr
 exact ⟨tame_grt h, hS, rm_wt n x (tame_grt h) (Nat.le_trans (wt_deep 12 n x h hr.1) (by decide))⟩
end Go.Proofs.Ytonknapfndaalaa
