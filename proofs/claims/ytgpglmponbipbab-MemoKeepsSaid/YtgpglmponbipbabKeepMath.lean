/- The order of MemoKeeps, in plain words. -/
import Derived.Test.YtgpglmponbipbabAwake20
namespace Go.Proofs.Ytgpglmponbipbab
set_option linter.unusedVariables false
open Go.RowKit Go.Sort

def Ek (f : Nat → Int) (o : Nat) : Mm := ⟨(o : Int) / 16, (o : Int) % 16, true, f o, 0, none, 0, []⟩
theorem ek_same {f : Nat → Int} {o q : Nat} : same ((q : Int) / 16) ((q : Int) % 16) (Ek f o) = decide (o = q) := by
  unfold same Ek
  rw [Bool.eq_iff_iff]
  simp only [Bool.and_eq_true, decide_eq_true_eq]
  omega
theorem find_ek (f : Nat → Int) (q : Nat) : ∀ O : List Nat, (O.map (Ek f)).find? (same ((q : Int) / 16) ((q : Int) % 16)) = if q ∈ O then some (Ek f q) else none
  | [] => rfl
  | o :: O => by
    rw [List.map_cons]
    by_cases h : o = q
    · subst h
      rw [List.find?_cons_of_pos (by rw [ek_same]; simp)]; simp
    · rw [List.find?_cons_of_neg (by rw [ek_same]; simpa using h), find_ek f q O]
      have : (q ∈ o :: O) = (q ∈ O) := by simp [Ne.symm h]
      simp only [this]
theorem has_ek (f : Nat → Int) (q : Nat) (O : List Nat) : hasL (O.map (Ek f)) ((q : Int) / 16) ((q : Int) % 16) = decide (q ∈ O) := by
  unfold hasL; rw [find_ek]; by_cases h : q ∈ O <;> simp [h]
theorem get_ek {f : Nat → Int} {q : Nat} {O : List Nat} (h : q ∈ O) : getL (O.map (Ek f)) ((q : Int) / 16) ((q : Int) % 16) = Ek f q := by
  unfold getL; rw [find_ek, if_pos h]; rfl
theorem get_ek_no {f : Nat → Int} {q : Nat} {O : List Nat} (h : q ∉ O) : getL (O.map (Ek f)) ((q : Int) / 16) ((q : Int) % 16) = zeroMm := by
  unfold getL; rw [find_ek, if_neg h]; rfl
def setF (f : Nat → Int) (k : Nat) (v : Int) : Nat → Int := fun o => if o = k then v else f o
theorem ek_off {f : Nat → Int} {k : Nat} {v : Int} {O : List Nat} (h : k ∉ O) : O.map (Ek (setF f k v)) = O.map (Ek f) := by
  apply List.map_congr_left
  intro o ho
  have : o ≠ k := fun e => h (e ▸ ho)
  unfold Ek setF; rw [if_neg this]
theorem ek_on {f : Nat → Int} {k : Nat} {v : Int} : Ek (setF f k v) k = ⟨(k : Int) / 16, (k : Int) % 16, true, v, 0, none, 0, []⟩ := by unfold Ek setF; rw [if_pos rfl]
def ordL (n : Int) (O : List Nat) (k : Nat) : List Nat := if k ∈ O then O else if (O.length : Int) < n then O ++ [k] else (O ++ [k]).tail
theorem ord_in {n : Int} {O : List Nat} {k : Nat} (h : k ∈ O) : ordL n O k = O := if_pos h
theorem ord_room {n : Int} {O : List Nat} {k : Nat} (h : k ∉ O) (h2 : (O.length : Int) < n) : ordL n O k = O ++ [k] := by unfold ordL; rw [if_neg h, if_pos h2]
theorem ord_full {n : Int} {O : List Nat} {k : Nat} (h : k ∉ O) (h2 : ¬ (O.length : Int) < n) : ordL n O k = (O ++ [k]).tail := by unfold ordL; rw [if_neg h, if_neg h2]
theorem put_ek {n : Int} {O : List Nat} {f : Nat → Int} {k : Nat} {v : Int} (hn : (O.length : Int) ≤ n) (h0 : 0 ≤ n) : putL n (O.map (Ek f)) ⟨(k : Int) / 16, (k : Int) % 16, true, v, 0, none, 0, []⟩ = (ordL n O k).map (Ek (setF f k v)) := by
  have hh := has_ek f k O
  by_cases h : k ∈ O
  · rw [ord_in h]
    unfold putL
    rw [if_pos (by show hasL _ _ _ = true; rw [hh]; simpa using h)]
    unfold repL
    rw [List.map_map]
    apply List.map_congr_left
    intro o ho
    show (if same ((k : Int) / 16) ((k : Int) % 16) (Ek f o) then _ else _) = _
    rw [ek_same]
    by_cases e : o = k
    · subst e; rw [if_pos (by simp), ek_on]
    · rw [if_neg (by simpa using e)]; unfold Ek setF; rw [if_neg e]
  · have hn' : hasL (O.map (Ek f)) ((k : Int) / 16) ((k : Int) % 16) = false := by rw [hh]; simpa using h
    by_cases h2 : (O.length : Int) < n
    · rw [ord_room h h2, putL_room hn' (by rw [List.length_map]; exact h2), List.map_append, ek_off h, List.map_cons, ek_on]; rfl
    · rw [ord_full h h2, putL_full hn' (by rw [List.length_map]; omega) (by rw [List.length_map]; exact h2), List.map_tail, List.map_append, ek_off h, List.map_cons, ek_on]; rfl
theorem ord_len {n : Int} {O : List Nat} {k : Nat} (hn : (O.length : Int) ≤ n) : ((ordL n O k).length : Int) ≤ n := by
  unfold ordL
  split
  · exact hn
  · split
    · simp; omega
    · simp; omega
theorem ord_mem {n : Int} {O : List Nat} {k : Nat} (hO : ∀ o ∈ O, o < 256) (hk : k < 256) : ∀ o ∈ ordL n O k, o < 256 := by
  intro o ho
  have h2 : ∀ o ∈ O ++ [k], o < 256 := fun o ho => by
    rcases List.mem_append.1 ho with h | h
    · exact hO o h
    · simp at h; omega
  unfold ordL at ho
  split at ho
  · exact hO o ho
  · split at ho
    · exact h2 o ho
    · exact h2 o (List.mem_of_mem_tail ho)

def endRow (f : Nat → Int) : List Value := (List.range 256).map fun j => .int .i64 (f j)
theorem endRow_get {f : Nat → Int} {j : Nat} (h : j < 256) : (endRow f)[j]? = some (.int .i64 (f j)) := by simp [endRow, h]
theorem endRow_set {f : Nat → Int} {k : Nat} {v : Int} (hk : k < 256) : (endRow f).set k (.int .i64 v) = endRow (setF f k v) := by
  apply List.ext_getElem?
  intro j
  by_cases hj : j < 256
  · rw [endRow_get hj, List.getElem?_set]
    by_cases e : k = j
    · subst e; simp [endRow, hk, setF]
    · rw [if_neg e, endRow_get hj]; unfold setF; rw [if_neg (by omega)]
  · rw [List.getElem?_eq_none (by simp [endRow]; omega), List.getElem?_eq_none (by simp [endRow]; omega)]
def ordRow (O : List Nat) : List Value := O.map fun (o : Nat) => Value.int .i64 (o : Int)
theorem ordRow_len (O : List Nat) : (ordRow O).length = O.length * 1 := by simp [ordRow]

/-- MemoKeeps' own things. -/
structure Kp (N : Nat) (n : Int) (w wr : World) (p ge k : Nat) (v : Value) (O : List Nat) (f : Nat → Int) (U T : Nat → Prop) : Prop where
  memo : MemoRep wr p U n (O.map (Ek f))
  ends : Own wr ge 39 (endRow f)
  win : Win T 3 1 wr v O.length (ordRow O)
  few : (O.length : Int) ≤ n
  mem : ∀ o ∈ O, o < 256
  ut : Dj U T
  ue : ¬ U ge
  te : ¬ T ge
  gu : ∀ g, U g → N ≤ g
  gt : ∀ g, T g → N ≤ g
  lt : ∀ g, T g → g < wr.heap.size
  ge0 : N ≤ ge
  bel : Below N w wr
  sz : N ≤ wr.heap.size
theorem Kp.below {N : Nat} {n : Int} {w wr w' : World} {p ge k : Nat} {v : Value} {O : List Nat} {f : Nat → Int} {U T : Nat → Prop} (h : Kp N n w wr p ge k v O f U T) (hb : Below wr.heap.size wr w') : Kp N n w w' p ge k v O f U T :=
  ⟨h.memo.below hb, h.ends.under hb h.ends.lt, h.win.below hb, h.few, h.mem, h.ut, h.ue, h.te, h.gu, h.gt, fun g hg => Nat.lt_of_lt_of_le (h.lt g hg) hb.size, h.ge0, h.bel.trans (hb.mono h.sz), Nat.le_trans h.sz hb.size⟩
end Go.Proofs.Ytgpglmponbipbab
