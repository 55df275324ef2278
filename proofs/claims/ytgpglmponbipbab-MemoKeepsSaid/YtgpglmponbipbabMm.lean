/- Memories, and the list that a memo is, in plain words. -/
import Derived.Test.YtgpglmponbipbabMemoFull
namespace Go.Proofs.Ytgpglmponbipbab
set_option linter.unusedVariables false
open Go.RowKit Go.Sort

structure Mm where
  ins : Int
  at_ : Int
  ok : Bool
  en : Int
  far : Int
  po : Option Addr
  pc : Nat
  part : List Nd
def Mm.val (x : Mm) : Value := .agg #[.int .i64 x.ins, .int .i64 x.at_, .bool x.ok, .int .i64 x.en, .int .i64 x.far, .slice x.po x.part.length x.pc]
def zeroMm : Mm := ⟨0, 0, false, 0, 0, none, 0, []⟩
/-- The value v reads as the memory x, its part among the blocks of R. -/
def Pay (R : Nat → Prop) (w : World) (v : Value) (x : Mm) : Prop := ∃ po pc, v = .agg #[.int .i64 x.ins, .int .i64 x.at_, .bool x.ok, .int .i64 x.en, .int .i64 x.far, .slice po x.part.length pc] ∧ HasS R w po x.part
theorem Pay.keep {R S : Nat → Prop} {w w' : World} {v : Value} {x : Mm} (h : Pay R w v x) (hb : But S w w') (hd : ∀ g, g < w.heap.size → R g → ¬ S g) : Pay R w' v x := by
  obtain ⟨po, pc, hv, hs⟩ := h
  exact ⟨po, pc, hv, hs.keep hb hd⟩
theorem Pay.mono {R S : Nat → Prop} {w : World} {v : Value} {x : Mm} (h : Pay R w v x) (hd : ∀ g, g < w.heap.size → R g → S g) : Pay S w v x := by
  obtain ⟨po, pc, hv, hs⟩ := h
  exact ⟨po, pc, hv, hs.mono hd⟩

def same (a b : Int) (x : Mm) : Bool := decide (x.ins = a) && decide (x.at_ = b)
theorem same_iff {a b : Int} {x : Mm} : same a b x = true ↔ x.ins = a ∧ x.at_ = b := by simp [same]
def getL (L : List Mm) (a b : Int) : Mm := (L.find? (same a b)).getD zeroMm
def hasL (L : List Mm) (a b : Int) : Bool := (L.find? (same a b)).isSome
def repL (L : List Mm) (x : Mm) : List Mm := L.map fun y => if same x.ins x.at_ y then x else y
/-- What a memo is behind a put. -/
def putL (most : Int) (L : List Mm) (x : Mm) : List Mm := if hasL L x.ins x.at_ then repL L x else if (L.length : Int) < most then L ++ [x] else if 1 ≤ most then L.tail ++ [x] else []

def Apart (L : List Mm) : Prop := L.Pairwise fun x y => ¬ (x.ins = y.ins ∧ x.at_ = y.at_)
theorem repL_len (L : List Mm) (x : Mm) : (repL L x).length = L.length := by simp [repL]
theorem repL_key {L : List Mm} {x : Mm} {i : Nat} {y : Mm} (h : (repL L x)[i]? = some y) : ∃ z, L[i]? = some z ∧ y.ins = z.ins ∧ y.at_ = z.at_ := by
  simp only [repL, List.getElem?_map, Option.map_eq_some_iff] at h
  obtain ⟨z, hz, rfl⟩ := h
  refine ⟨z, hz, ?_⟩
  split
  · rename_i hs
    have := same_iff.1 hs
    exact ⟨this.1.symm, this.2.symm⟩
  · exact ⟨rfl, rfl⟩
theorem repL_mem {L : List Mm} {x y : Mm} (h : y ∈ repL L x) : y = x ∨ y ∈ L := by
  simp only [repL, List.mem_map] at h
  obtain ⟨z, hz, rfl⟩ := h
  split
  · exact .inl rfl
  · exact .inr hz
theorem repL_apart {L : List Mm} (x : Mm) (h : Apart L) : Apart (repL L x) := by
  unfold Apart repL
  rw [List.pairwise_map]
  refine List.Pairwise.imp ?_ h
  intro y z hyz
  by_cases h1 : same x.ins x.at_ y <;> by_cases h2 : same x.ins x.at_ z <;> simp only [h1, h2, if_true]
  · have := same_iff.1 h1; have := same_iff.1 h2; omega
  · have := same_iff.1 h1; rw [same_iff] at h2; simp; omega
  · have := same_iff.1 h2; rw [same_iff] at h1; simp; omega
  · simpa using hyz
theorem find_rep {L : List Mm} {x : Mm} (h : hasL L x.ins x.at_ = true) (a b : Int) : (repL L x).find? (same a b) = if a = x.ins ∧ b = x.at_ then some x else L.find? (same a b) := by
  induction L with
  | nil => simp [hasL] at h
  | cons y L ih =>
    have e : repL (y :: L) x = (if same x.ins x.at_ y then x else y) :: repL L x := rfl
    rw [e]
    by_cases h1 : same x.ins x.at_ y = true
    · have hy := same_iff.1 h1
      rw [if_pos h1]
      by_cases h2 : a = x.ins ∧ b = x.at_
      · rw [if_pos h2, List.find?_cons_of_pos (by rw [same_iff]; omega)]
      · rw [if_neg h2, List.find?_cons_of_neg (by rw [same_iff]; omega), List.find?_cons_of_neg (by rw [same_iff]; omega)]
        by_cases h3 : hasL L x.ins x.at_ = true
        · rw [ih h3, if_neg h2]
        · have : repL L x = L := by
            unfold repL
            conv => rhs; rw [← List.map_id L]
            apply List.map_congr_left
            intro z hz
            have hn : L.find? (same x.ins x.at_) = none := by simpa [hasL] using h3
            have := List.find?_eq_none.1 hn z hz
            simp [this]
          rw [this]
    · rw [if_neg h1]
      have h3 : hasL L x.ins x.at_ = true := by
        unfold hasL at h ⊢
        rwa [List.find?_cons_of_neg h1] at h
      by_cases h4 : same a b y = true
      · rw [List.find?_cons_of_pos h4, List.find?_cons_of_pos h4, if_neg]
        have := same_iff.1 h4
        rw [same_iff] at h1
        omega
      · rw [List.find?_cons_of_neg h4, List.find?_cons_of_neg h4, ih h3]
theorem find_snoc {L : List Mm} {x : Mm} (h : hasL L x.ins x.at_ = false) (a b : Int) : (L ++ [x]).find? (same a b) = if a = x.ins ∧ b = x.at_ then some x else L.find? (same a b) := by
  rw [List.find?_append]
  by_cases h2 : a = x.ins ∧ b = x.at_
  · obtain ⟨rfl, rfl⟩ := h2
    have hn : L.find? (same x.ins x.at_) = none := by simpa [hasL] using h
    rw [hn, if_pos ⟨rfl, rfl⟩]
    simp [same]
  · rw [if_neg h2]
    have : [x].find? (same a b) = none := by
      rw [List.find?_cons_of_neg (by rw [same_iff]; omega)]; rfl
    rw [this]; simp
theorem find_tail {y : Mm} {L : List Mm} (h : Apart (y :: L)) (a b : Int) : L.find? (same a b) = if a = y.ins ∧ b = y.at_ then none else (y :: L).find? (same a b) := by
  by_cases h2 : a = y.ins ∧ b = y.at_
  · rw [if_pos h2]
    obtain ⟨rfl, rfl⟩ := h2
    rw [List.find?_eq_none]
    intro z hz hs
    have := (List.pairwise_cons.1 h).1 z hz
    have := same_iff.1 hs
    omega
  · rw [if_neg h2, List.find?_cons_of_neg (by rw [same_iff]; omega)]
theorem hasL_none {L : List Mm} {a b : Int} (h : hasL L a b = false) : L.find? (same a b) = none := by simpa [hasL] using h
theorem apart_snoc {L : List Mm} {x : Mm} (h : Apart L) (hx : hasL L x.ins x.at_ = false) : Apart (L ++ [x]) := by
  unfold Apart
  rw [List.pairwise_append]
  refine ⟨h, by simp, fun y hy z hz => ?_⟩
  have : z = x := by simpa using hz
  subst this
  have := List.find?_eq_none.1 (hasL_none hx) y hy
  rw [same_iff] at this
  exact this
theorem apart_tail {y : Mm} {L : List Mm} (h : Apart (y :: L)) : Apart L := (List.pairwise_cons.1 h).2

/-- What the slots of a map hold for a list of memories. -/
def Slots (R : Nat → Prop) (w : World) (f : Int → Int → Option Value) (L : List Mm) : Prop := ∀ a b, Wf a → Wf b → (L.find? (same a b) = none → f a b = none) ∧ ∀ x, L.find? (same a b) = some x → ∃ v, f a b = some v ∧ Pay R w v x
theorem Slots.keep {R S : Nat → Prop} {w w' : World} {f : Int → Int → Option Value} {L : List Mm} (h : Slots R w f L) (hb : But S w w') (hd : ∀ g, g < w.heap.size → R g → ¬ S g) : Slots R w' f L := fun a b ha hb' =>
  ⟨(h a b ha hb').1, fun x hx => by obtain ⟨v, hv, hp⟩ := (h a b ha hb').2 x hx; exact ⟨v, hv, hp.keep hb hd⟩⟩
theorem Slots.mono {R S : Nat → Prop} {w : World} {f : Int → Int → Option Value} {L : List Mm} (h : Slots R w f L) (hd : ∀ g, g < w.heap.size → R g → S g) : Slots S w f L := fun a b ha hb' =>
  ⟨(h a b ha hb').1, fun x hx => by obtain ⟨v, hv, hp⟩ := (h a b ha hb').2 x hx; exact ⟨v, hv, hp.mono hd⟩⟩
theorem Slots.some {R : Nat → Prop} {w : World} {f : Int → Int → Option Value} {L : List Mm} (h : Slots R w f L) {a b : Int} (ha : Wf a) (hb : Wf b) : (f a b).isSome = hasL L a b := by
  unfold hasL
  cases e : L.find? (same a b) with
  | none => rw [(h a b ha hb).1 e]; rfl
  | some x => obtain ⟨v, hv, _⟩ := (h a b ha hb).2 x e; rw [hv]; rfl
theorem Slots.put {R : Nat → Prop} {w : World} {f : Int → Int → Option Value} {L L' : List Mm} {x : Mm} {v : Value} (h : Slots R w f L) (hf : ∀ a b, L'.find? (same a b) = if a = x.ins ∧ b = x.at_ then Option.some x else L.find? (same a b)) (hv : Pay R w v x) : Slots R w (putF f x.ins x.at_ v) L' := fun a b ha hb => by
  rw [hf a b]
  unfold putF
  by_cases e : a = x.ins ∧ b = x.at_
  · rw [if_pos e, if_pos e]
    exact ⟨fun h => by simp at h, fun y hy => by simp at hy; subst hy; exact ⟨v, rfl, hv⟩⟩
  · rw [if_neg e, if_neg e]
    exact h a b ha hb
theorem Slots.del {R : Nat → Prop} {w : World} {f : Int → Int → Option Value} {L : List Mm} {y : Mm} (h : Slots R w f (y :: L)) (ha : Apart (y :: L)) : Slots R w (delF f y.ins y.at_) L := fun a b h1 h2 => by
  rw [find_tail ha a b]
  unfold delF
  by_cases e : a = y.ins ∧ b = y.at_
  · rw [if_pos e, if_pos e]
    exact ⟨fun _ => rfl, fun x hx => by simp at hx⟩
  · rw [if_neg e, if_neg e]
    exact h a b h1 h2

/-- The places in their line, from the eldest one on. -/
def Ring (most : Int) (e : Nat) (L : List Mm) (ks : List (Int × Int)) : Prop := ks.length = L.length ∧ (L.length : Int) ≤ max most 0 ∧ ((L.length : Int) < most → e = 0) ∧ (L ≠ [] → e < L.length) ∧ ∀ i x, L[i]? = some x → ks[(e + i) % L.length]? = some (x.ins, x.at_)
theorem Ring.rep {most : Int} {e : Nat} {L : List Mm} {ks : List (Int × Int)} (h : Ring most e L ks) (x : Mm) : Ring most e (repL L x) ks := by
  obtain ⟨h1, h2, h3, h4, h5⟩ := h
  refine ⟨by rw [repL_len]; exact h1, by rw [repL_len]; exact h2, by rw [repL_len]; exact h3, fun hn => by rw [repL_len]; exact h4 (by rintro rfl; exact hn rfl), fun i y hy => ?_⟩
  obtain ⟨z, hz, e1, e2⟩ := repL_key hy
  rw [repL_len, e1, e2]
  exact h5 i z hz
theorem Ring.room {most : Int} {e : Nat} {L : List Mm} {ks : List (Int × Int)} (h : Ring most e L ks) (x : Mm) (hr : (L.length : Int) < most) : Ring most e (L ++ [x]) (ks ++ [(x.ins, x.at_)]) := by
  obtain ⟨h1, h2, h3, h4, h5⟩ := h
  obtain rfl := h3 hr
  refine ⟨by simp [h1], by simp; omega, fun _ => rfl, fun _ => by simp, fun i y hy => ?_⟩
  have hi : i < (L ++ [x]).length := (List.getElem?_eq_some_iff.1 hy).1
  rw [Nat.zero_add, Nat.mod_eq_of_lt hi]
  simp at hi
  by_cases e : i < L.length
  · rw [List.getElem?_append_left e] at hy
    have := h5 i y hy
    rw [Nat.zero_add, Nat.mod_eq_of_lt e] at this
    rw [List.getElem?_append_left (by omega), this]
  · obtain rfl : i = L.length := by omega
    rw [List.getElem?_append_right (Nat.le_refl _)] at hy
    simp at hy
    subst hy
    rw [List.getElem?_append_right (by omega), h1]
    simp
theorem Ring.full {most : Int} {e : Nat} {y : Mm} {L : List Mm} {ks : List (Int × Int)} (h : Ring most e (y :: L) ks) (x : Mm) (hr : ¬ (((y :: L).length : Nat) : Int) < most) : Ring most ((e + 1) % (L.length + 1)) (L ++ [x]) (ks.set e (x.ins, x.at_)) := by
  obtain ⟨h1, h2, h3, h4, h5⟩ := h
  have he := h4 (by simp)
  simp only [List.length_cons] at h1 h2 h3 h5 hr he
  have hm := Nat.mod_lt (e + 1) (show L.length + 1 > 0 by omega)
  refine ⟨by simp [h1], by simp; omega, fun h => by simp at h; omega, fun _ => by simpa using hm, fun i z hz => ?_⟩
  have hi : i < (L ++ [x]).length := (List.getElem?_eq_some_iff.1 hz).1
  simp at hi
  have hl : (L ++ [x]).length = L.length + 1 := by simp
  rw [hl]
  have hmod : ((e + 1) % (L.length + 1) + i) % (L.length + 1) = (e + (i + 1)) % (L.length + 1) := by rw [Nat.mod_add_mod]; congr 1; omega
  rw [hmod]
  by_cases c : i < L.length
  · rw [List.getElem?_append_left c] at hz
    have := h5 (i + 1) z (by simpa using hz)
    rw [List.getElem?_set_ne, this]
    intro heq
    by_cases c2 : e + (i + 1) < L.length + 1
    · rw [Nat.mod_eq_of_lt c2] at heq; omega
    · rw [Nat.mod_eq_sub_mod (by omega), Nat.mod_eq_of_lt (by omega)] at heq; omega
  · obtain rfl : i = L.length := by omega
    rw [List.getElem?_append_right (Nat.le_refl _)] at hz
    simp at hz
    subst hz
    rw [show (e + (L.length + 1)) % (L.length + 1) = e by rw [Nat.add_mod_right, Nat.mod_eq_of_lt he]]
    rw [List.getElem?_set_self (by omega)]
end Go.Proofs.Ytgpglmponbipbab
