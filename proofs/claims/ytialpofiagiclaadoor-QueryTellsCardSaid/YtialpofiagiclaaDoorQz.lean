/- What a text is as a query: what it says, as the document's answer goes through it. What a text is as a query: the document's answer, sign by sign. What a text is as a query: the document's answer: axes, literals. What a text is as a query: the document's answer: numbers. -/
import Derived.Test.YtialpofiagiclaaDoorHh
import Derived.Test.YtialpofiagiclaaDoorWord
import Derived.Test.YtialpofiagiclaaDoorChecked
import Derived.Test.YtialpofiagiclaaDoorHa
import Derived.Test.YtialpofiagiclaaDoorHe
import Derived.BigQuiet
import Derived.StillTailTactics
import Derived.Lib.QuietBelow
import Derived.Deep.RegionLaw
import Derived.Deep.DeepCutAuto
namespace Go.Proofs.YtialpofiagiclaaDoor
set_option linter.unusedVariables false
set_option maxRecDepth 1000000
open Go.RowKit

/-- A step. -/
structure Hp where
  ax : Int
  kd : Int
  nm : ByteArray
  is : ByteArray
  has : ByteArray
  nth : Int
def hprow (h : Hp) : List Value := [.int .i64 h.ax, .int .i64 h.kd, .string h.nm, .string h.is, .string h.has, .int .i64 h.nth]
def hpv (h : Hp) : Value := .agg #[.int .i64 h.ax, .int .i64 h.kd, .string h.nm, .string h.is, .string h.has, .int .i64 h.nth]
/-- Does x come at k? -/
def tk (s : ByteArray) (k : Nat) (x : List UInt8) : Bool := x.isPrefixOf (s.data.toList.drop k)
theorem tk_size {s : ByteArray} {k : Nat} {x : List UInt8} (h : tk s k x = true) (hk : k ≤ s.size) : k + x.length ≤ s.size := by
  unfold tk at h
  have h1 := (List.isPrefixOf_iff_prefix.1 h).length_le
  simp at h1
  omega
theorem isPrefix_take {α : Type} [BEq α] [LawfulBEq α] : ∀ (x l : List α), x.isPrefixOf l = (decide (x.length ≤ l.length) && (l.take x.length == x))
  | [], l => by simp
  | a :: x, [] => by simp
  | a :: x, b :: l => by
    rw [List.isPrefixOf_cons_cons, isPrefix_take x l]
    simp only [List.length_cons, List.take_succ_cons, Nat.add_le_add_iff_right]
    show _ = (_ && ((b == a) && (List.take x.length l == x)))
    rw [show (a == b) = (b == a) from BEq.comm]
    cases (b == a) <;> simp
theorem tk_cut (s x : ByteArray) (k : Nat) (hk : k ≤ s.size) : tk s k x.data.toList = (decide (k + x.size ≤ s.size) && decide (s.extract k (k + x.size) = x)) := by
  unfold tk
  rw [isPrefix_take]
  have e1 : x.data.toList.length = x.size := by simp
  have e2 : (s.data.toList.drop k).length = s.size - k := by simp
  rw [e1, e2, show decide (x.size ≤ s.size - k) = decide (k + x.size ≤ s.size) from decide_eq_decide.2 (by omega)]
  congr 1
  apply Bool.eq_iff_iff.2
  rw [beq_iff_eq, decide_eq_true_eq]
  have e3 : (s.extract k (k + x.size)).data.toList = (s.data.toList.drop k).take x.size := by
    rw [ByteArray.data_extract, Array.toList_extract]
    simp
  constructor
  · intro h; apply ByteArray.ext; apply Array.toList_inj.1; rw [e3, h]
  · intro h; rw [← e3, h]
/-- The axis whose sign comes at k, and where it ends. -/
def axR (s : ByteArray) (k : Nat) : Int × Nat :=
  if tk s k [47, 47] = true then (2, k + 2) else if tk s k [47] = true then (1, k + 1) else if tk s k [94] = true then (3, k + 1) else if tk s k [43] = true then (4, k + 1) else (0, k)
def kwL : Nat → List UInt8
  | 1 => [35, 114, 117, 108, 101]
  | 2 => [35, 108, 97, 98, 101, 108]
  | 3 => [35, 115, 101, 97]
  | 4 => [35, 116, 101, 120, 116]
  | 5 => [35, 119, 97, 116, 101, 114]
  | _ => []
/-- The kind whose word comes at k: the first one from j on, of f. -/
def kwF (s : ByteArray) (k : Nat) : Nat → Nat → Nat
  | 0, _ => 0
  | f + 1, j => if tk s k (kwL j) = true then j else kwF s k f (j + 1)
def inW (s : ByteArray) (k : Nat) : Bool := wordB (⟨#[97]⟩ ++ s.extract k (k + 1))
/-- Where the name ends. -/
def nmF (s : ByteArray) : Nat → Nat → Nat
  | 0, k => k
  | f + 1, k => if k < s.size ∧ inW s k = true then nmF s f (k + 1) else k
theorem nmF_bd (s : ByteArray) : ∀ f k, k ≤ s.size → k ≤ nmF s f k ∧ nmF s f k ≤ s.size ∧ nmF s f k ≤ k + f
  | 0, k, h => ⟨Nat.le_refl _, h, Nat.le_refl _⟩
  | f + 1, k, h => by
    unfold nmF
    split
    · rename_i g
      have := nmF_bd s f (k + 1) (by omega)
      omega
    · omega
/-- What is asked for: by its kind, its name, neither. -/
def whR (s : ByteArray) (k : Nat) : Option (Int × ByteArray × Nat) :=
  if kwF s k 5 1 ≠ 0 then some ((kwF s k 5 1 : Nat), ⟨#[]⟩, k + (kwL (kwF s k 5 1)).length)
  else if tk s k [42] = true then some (0, ⟨#[]⟩, k + 1)
  else if wordB (s.extract k (nmF s 12 k)) = true then some (0, s.extract k (nmF s 12 k), nmF s 12 k) else none
/-- A literal behind a sign. -/
def litR (c : UInt8) (s : ByteArray) (k : Nat) : Except Nat (ByteArray × Nat) :=
  if tk s k [c] = true then (match txtO s ((k + 1 : Nat) : Int) with | some p => .ok p | none => .error (k + 1)) else .ok (⟨#[]⟩, k)
def digB (s : ByteArray) (k : Nat) : Bool := decide (48 ≤ byt s k) && decide (byt s k ≤ 57)
/-- Digits from k on, of a number that begins at b. -/
def dgF (s : ByteArray) (b : Nat) : Nat → Nat → Int → Int × Nat
  | 0, k, n => (n, k)
  | f + 1, k, n => if k < s.size ∧ digB s k = true ∧ byt s b ≠ 48 then dgF s b f (k + 1) (10 * n + (byt s k - 48)) else (n, k)
/-- A number in brackets. -/
def nthR (s : ByteArray) (k : Nat) : Except Nat (Int × Nat) :=
  if tk s k [91] = true then
    (if (dgF s (k + 1) 4 (k + 1) 0).1 = 0 ∨ tk s (dgF s (k + 1) 4 (k + 1) 0).2 [93] = false then .error (dgF s (k + 1) 4 (k + 1) 0).2 else .ok ((dgF s (k + 1) 4 (k + 1) 0).1, (dgF s (k + 1) 4 (k + 1) 0).2 + 1))
  else .ok (0, k)
/-- A step. -/
def hopR (s : ByteArray) (k : Nat) : Except Nat (Hp × Nat) :=
  if (axR s k).1 = 0 then .error k else
  match whR s (axR s k).2 with
  | none => .error (axR s k).2
  | some (kd, nm, k2) => match litR 61 s k2 with
    | .error e => .error e
    | .ok (is, k3) => match litR 126 s k3 with
      | .error e => .error e
      | .ok (has, k4) => match nthR s k4 with
        | .error e => .error e
        | .ok (n, k5) => .ok (⟨(axR s k).1, kd, nm, is, has, n⟩, k5)
/-- Paths. -/
def qF (s : ByteArray) : Nat → Nat → List (List Hp) → List Hp → Except (Int × Nat) (List (List Hp))
  | 0, _, _, _ => .error (0, 0)
  | f + 1, k, P, L =>
    if P.length = 8 ∨ L.length = 12 then .error (3, k) else
    match hopR s k with
    | .error e => .error (2, e)
    | .ok (h, m) => if m = s.size then .ok (P ++ [L ++ [h]]) else if tk s m [124] = true then qF s f (m + 1) (P ++ [L ++ [h]]) [] else qF s f m P (L ++ [h])
def qryO (s : ByteArray) : Except (Int × Nat) (List (List Hp)) := qF s (s.size + 1) 0 [] []
theorem txtF_bd {s : ByteArray} : ∀ f k out u m, txtF s f k out = some (u, m) → k < m ∧ m ≤ s.size ∧ u.size ≤ 40
  | 0, k, out, u, m => fun h => by cases h
  | f + 1, k, out, u, m => fun h => by
    rw [txtF.eq_2] at h
    split at h
    · split at h
      · split at h
        · cases h
        · rename_i g1 g2 g3
          injection h with h; injection h with h3 h4
          subst h3 h4
          exact ⟨by omega, by omega, by omega⟩
      · cases hr : readO s k spT with
        | none => rw [hr] at h; cases h
        | some p =>
          obtain ⟨v, n⟩ := p
          rw [hr] at h
          have := readO_bd hr
          have h2 := txtF_bd f n _ u m h
          exact ⟨by omega, h2.2⟩
    · cases h
theorem txtO_bd {s : ByteArray} {i : Nat} {u : ByteArray} {m : Nat} (h : txtO s (i : Int) = some (u, m)) : i < m ∧ m ≤ s.size ∧ u.size ≤ 40 := by
  unfold txtO at h
  split at h
  · have := txtF_bd _ _ _ _ _ h
    rw [Int.toNat_natCast] at this
    exact ⟨by omega, this.2⟩
  · cases h
theorem axR_bd (s : ByteArray) (k : Nat) (hk : k ≤ s.size) : k ≤ (axR s k).2 ∧ (axR s k).2 ≤ s.size ∧ ((axR s k).1 ≠ 0 → k < (axR s k).2) ∧ ((axR s k).1 = 0 → (axR s k).2 = k) ∧ 0 ≤ (axR s k).1 ∧ (axR s k).1 ≤ 4 := by
  unfold axR
  split
  · have := tk_size ‹_› hk; simp at this ⊢; omega
  · split
    · have := tk_size ‹_› hk; simp at this ⊢; omega
    · split
      · have := tk_size ‹_› hk; simp at this ⊢; omega
      · split
        · have := tk_size ‹_› hk; simp at this ⊢; omega
        · simp; omega
theorem kwF_tk (s : ByteArray) (k : Nat) : ∀ f j, kwF s k f j ≠ 0 → tk s k (kwL (kwF s k f j)) = true ∧ j ≤ kwF s k f j ∧ kwF s k f j < j + f
  | 0, j, h => absurd rfl h
  | f + 1, j, h => by
    unfold kwF at h ⊢
    split
    · exact ⟨‹_›, by omega, by omega⟩
    · rename_i g
      rw [if_neg g] at h
      have := kwF_tk s k f (j + 1) h
      exact ⟨this.1, by omega, by omega⟩
theorem whR_bd {s : ByteArray} {k : Nat} (hk : k ≤ s.size) {kd : Int} {nm : ByteArray} {m : Nat} (h : whR s k = some (kd, nm, m)) : k ≤ m ∧ m ≤ s.size ∧ nm.size ≤ 12 ∧ 0 ≤ kd ∧ kd ≤ 5 := by
  unfold whR at h
  split at h
  · rename_i g
    have h1 := kwF_tk s k 5 1 g
    have h2 := tk_size h1.1 hk
    injection h with h; injection h with h3 h4; injection h4 with h5 h6
    subst h3 h5 h6
    exact ⟨by omega, by omega, by decide, by omega, by omega⟩
  · split at h
    · have h2 := tk_size ‹_› hk
      injection h with h; injection h with h3 h4; injection h4 with h5 h6
      subst h3 h5 h6
      simp at h2
      exact ⟨by omega, by omega, by decide, by omega, by omega⟩
    · split at h
      · have h2 := nmF_bd s 12 k hk
        injection h with h; injection h with h3 h4; injection h4 with h5 h6
        subst h3 h5 h6
        exact ⟨by omega, by omega, by rw [ByteArray.size_extract]; omega, by omega, by omega⟩
      · cases h
theorem litR_bd {c : UInt8} {s : ByteArray} {k : Nat} (hk : k ≤ s.size) : (∀ u m, litR c s k = .ok (u, m) → k ≤ m ∧ m ≤ s.size ∧ u.size ≤ 40) ∧ ∀ e, litR c s k = .error e → k ≤ e ∧ e ≤ s.size := by
  unfold litR
  by_cases h : tk s k [c] = true
  · rw [if_pos h]
    have h2 := tk_size h hk
    simp at h2
    cases ht : txtO s ((k + 1 : Nat) : Int) with
    | none => exact ⟨fun u m h => (by cases h), fun e h => by injection h with h; omega⟩
    | some p =>
      obtain ⟨u, m⟩ := p
      have := txtO_bd ht
      exact ⟨fun u m h => by injection h with h; injection h with h3 h4; subst h3 h4; omega, fun e h => by cases h⟩
  · rw [if_neg h]
    exact ⟨fun u m h => by injection h with h; injection h with h3 h4; subst h3 h4; exact ⟨by omega, by omega, by decide⟩, fun e h => by cases h⟩
theorem dgF_bd (s : ByteArray) (b : Nat) : ∀ f k n, k ≤ s.size → 0 ≤ n → k ≤ (dgF s b f k n).2 ∧ (dgF s b f k n).2 ≤ s.size ∧ 0 ≤ (dgF s b f k n).1
  | 0, k, n, h, hn => ⟨Nat.le_refl _, h, hn⟩
  | f + 1, k, n, h, hn => by
    unfold dgF
    split
    · rename_i g
      obtain ⟨g1, g2, g3⟩ := g
      unfold digB at g2
      rw [Bool.and_eq_true, decide_eq_true_eq, decide_eq_true_eq] at g2
      have := dgF_bd s b f (k + 1) (10 * n + (byt s k - 48)) (by omega) (by omega)
      omega
    · exact ⟨Nat.le_refl _, h, hn⟩
theorem nthR_bd {s : ByteArray} {k : Nat} (hk : k ≤ s.size) : (∀ n m, nthR s k = .ok (n, m) → k ≤ m ∧ m ≤ s.size ∧ 0 ≤ n) ∧ ∀ e, nthR s k = .error e → k ≤ e ∧ e ≤ s.size := by
  unfold nthR
  by_cases h : tk s k [91] = true
  · rw [if_pos h]
    have h2 := tk_size h hk
    simp at h2
    have h3 := dgF_bd s (k + 1) 4 (k + 1) 0 h2 (by omega)
    by_cases h4 : (dgF s (k + 1) 4 (k + 1) 0).1 = 0 ∨ tk s (dgF s (k + 1) 4 (k + 1) 0).2 [93] = false
    · rw [if_pos h4]
      exact ⟨fun n m h => (by cases h), fun e h => by injection h with h; omega⟩
    · rw [if_neg h4]
      have h5 := tk_size (x := [93]) (s := s) (k := (dgF s (k + 1) 4 (k + 1) 0).2) (by cases hx : tk s (dgF s (k + 1) 4 (k + 1) 0).2 [93] with | true => rfl | false => exact absurd (.inr hx) h4) h3.2.1
      simp at h5
      exact ⟨fun n m h => by injection h with h; injection h with h6 h7; omega, fun e h => by cases h⟩
  · rw [if_neg h]
    exact ⟨fun n m h => by injection h with h; injection h with h6 h7; omega, fun e h => by cases h⟩
theorem hopR_bd {s : ByteArray} {k : Nat} (hk : k ≤ s.size) : (∀ h m, hopR s k = .ok (h, m) → k < m ∧ m ≤ s.size) ∧ ∀ e, hopR s k = .error e → k ≤ e ∧ e ≤ s.size := by
  have ha := axR_bd s k hk
  unfold hopR
  by_cases h0 : (axR s k).1 = 0
  · rw [if_pos h0]
    exact ⟨fun h m e => (by cases e), fun e h => by injection h with h; omega⟩
  · rw [if_neg h0]
    have h1 := ha.2.2.1 h0
    cases hw : whR s (axR s k).2 with
    | none => exact ⟨fun h m e => (by cases e), fun e h => by injection h with h; omega⟩
    | some p =>
      obtain ⟨kd, nm, k2⟩ := p
      have h2 := whR_bd ha.2.1 hw
      have l1 := litR_bd (c := 61) h2.2.1
      cases h3 : litR 61 s k2 with
      | error e => 
        have := l1.2 e h3
        exact ⟨fun h m e => (by simp only [h3] at e; cases e), fun e h => by simp only [h3] at h; injection h with h; omega⟩
      | ok p =>
        obtain ⟨is, k3⟩ := p
        have h4 := l1.1 is k3 h3
        have l2 := litR_bd (c := 126) h4.2.1
        cases h5 : litR 126 s k3 with
        | error e =>
          have := l2.2 e h5
          exact ⟨fun h m e => (by simp only [h3, h5] at e; cases e), fun e h => by simp only [h3, h5] at h; injection h with h; omega⟩
        | ok p =>
          obtain ⟨has, k4⟩ := p
          have h6 := l2.1 has k4 h5
          have l3 := nthR_bd h6.2.1
          cases h7 : nthR s k4 with
          | error e =>
            have := l3.2 e h7
            exact ⟨fun h m e => (by simp only [h3, h5, h7] at e; cases e), fun e h => by simp only [h3, h5, h7] at h; injection h with h; omega⟩
          | ok p =>
            obtain ⟨n, k5⟩ := p
            have h8 := l3.1 n k5 h7
            exact ⟨fun h m e => by simp only [h3, h5, h7] at e; injection e with e; injection e with e1 e2; omega, fun e h => by simp only [h3, h5, h7] at h; cases h⟩
end Go.Proofs.YtialpofiagiclaaDoor

namespace Go.Proofs.YtialpofiagiclaaDoor
set_option linter.unusedVariables false
set_option maxRecDepth 1000000
open Go.RowKit Go.Sort

def Cur (w : World) (g : Nat) (s : ByteArray) (k : Nat) (b : Bool) : Prop := Own w g 48 [.string s, .int .i64 (k : Int), .bool b]
theorem Cur.at_ {w : World} {g k : Nat} {s : ByteArray} {b : Bool} (h : Cur w g s k b) : w.cell? ⟨g, 0, none⟩ = some (.string s) ∧ w.cell? ⟨g, 1, none⟩ = some (.int .i64 (k : Int)) ∧ w.cell? ⟨g, 2, none⟩ = some (.bool b) ∧ g < w.heap.size ∧
    w.frozen? ⟨g, 1, none⟩ = false ∧ w.frozen? ⟨g, 2, none⟩ = false := ⟨h.cell 0, h.cell 1, h.cell 2, h.lt, h.thaw 1, h.thaw 2⟩
theorem Cur.go {w : World} {g k : Nat} {s : ByteArray} {b : Bool} (h : Cur w g s k b) (m : Nat) : Cur (w.setCell ⟨g, 1, none⟩ (.int .i64 (m : Int))) g s m b := h.put 1 _
theorem Cur.bad {w : World} {g k : Nat} {s : ByteArray} {b : Bool} (h : Cur w g s k b) (c : Bool) : Cur (w.setCell ⟨g, 2, none⟩ (.bool c)) g s k c := h.put 2 _
def tkN (s : ByteArray) (k : Nat) (x : List UInt8) : Nat := if tk s k x = true then k + x.length else k
theorem toList_ne {q x : ByteArray} (h : ¬ q = x) : (q.toList == x.toList) = false := by
  rw [ByteArray.toList_eq, ByteArray.toList_eq]
  exact beq_eq_false_iff_ne.2 fun e => h (ByteArray.ext (Array.ext' e))
theorem ret_int2 {a b : Bool} (h : a = b) : Ending.returned (.bool a) = .returned (.bool b) := by rw [h]

set_option maxRecDepth 100000 in
set_option maxHeartbeats 1600000 in
theorem take_any (s x : ByteArray) (hs : s.size ≤ 1000000) (hx : x.size ≤ 100) (g k : Nat) (hk : k ≤ s.size) (b : Bool) (w : World) (hc : Cur w g s k b) :
    Calls Tryd.prog 22 #[.pointer (some ⟨g, 0, none⟩), .string x] w fun e w' => e = .returned (.bool (tk s k x.data.toList)) ∧ Cur w' g s (tkN s k x.data.toList) b ∧ But (fun j => j = g) w w' := by
  have HT := Lib.hid (tk_cut s x k hk)
  have HN := Lib.hid (show tkN s k x.data.toList = if tk s k x.data.toList = true then k + x.size else k by unfold tkN; simp)
  have HC := Lib.hid hc
  obtain ⟨c0, c1, c2, hg, f1, f2⟩ := hc.at_
  clear hc
  generalize tk s k x.data.toList = t at *
  generalize tkN s k x.data.toList = m at *
  have hw : IntKind.i64.wrap ((k : Int) + x.size) = (k : Int) + x.size := by rw [IntKind.wrap_i64]; omega
  by_cases h1 : k + x.size ≤ s.size
  · have h1' : (k : Int) + x.size ≤ s.size := by omega
    obtain ⟨q, hq⟩ : ∃ q, s.extract k (k + x.size) = q := ⟨_, rfl⟩
    have h9 : ((k : Int) + x.size).toNat = k + x.size := by omega
    by_cases h2 : q = x
    · have ht : t = true := by rw [HT.out, decide_eq_true h1, hq, decide_eq_true h2]; rfl
      subst ht
      subst h2
      have HE := Lib.hid (show m = k + q.size by rw [HN.out, if_pos rfl])
      clear h1 HT HN
      go_enter Tryd.func22, Tryd.ntmps22
      go_wp2_with fail
      go_quiet (fail)
      go_wp2
      go_ret
      refine ⟨rfl, ?_, ((But.refl (fun j => j = g) w).drewN nq).setCell (p := ⟨g, 1, none⟩) (fun _ => rfl) _⟩
      rw [show ((k : Int) + q.size) = (m : Int) by rw [HE.out]; omega]
      exact Cur.go (w := w.drewN nq) HC.out m
    · have ht : t = false := by rw [HT.out, hq, decide_eq_false h2, Bool.and_false]
      have hqx := toList_ne h2
      subst ht
      clear h1 HT
      have e : m = k := by rw [HN.out, if_neg (by decide)]
      subst e
      clear HN
      go_enter Tryd.func22, Tryd.ntmps22
      go_wp2_with fail
      go_quiet (fail)
      go_wp2
      go_ret
      exact ⟨rfl, HC.out.on_drewN _, (But.refl _ w).drewN nq⟩
  · have ht : t = false := by rw [HT.out, decide_eq_false h1]; rfl
    subst ht
    have e : m = k := by rw [HN.out, if_neg (by decide)]
    subst e
    have h1' : decide ((m : Int) + x.size ≤ s.size) = false := decide_eq_false (by omega)
    clear h1 HT HN
    go_enter Tryd.func22, Tryd.ntmps22
    go_wp2_with fail
    go_quiet (fail)
    go_wp2
    go_ret
    exact ⟨rfl, HC.out.on_drewN _, (But.refl _ w).drewN nq⟩
end Go.Proofs.YtialpofiagiclaaDoor

namespace Go.Proofs.YtialpofiagiclaaDoor
set_option linter.unusedVariables false
set_option maxRecDepth 1000000
open Go.RowKit Go.Sort

theorem take_yes (s x : ByteArray) (hs : s.size ≤ 1000000) (hx : x.size ≤ 100) (g k : Nat) (hk : k ≤ s.size) (b : Bool) (w : World) (hc : Cur w g s k b) (ht : tk s k x.data.toList = true) :
    Calls Tryd.prog 22 #[.pointer (some ⟨g, 0, none⟩), .string x] w fun e w' => e = .returned (.bool true) ∧ Cur w' g s (k + x.data.toList.length) b ∧ But (fun j => j = g) w w' := by
  have h := take_any s x hs hx g k hk b w hc
  unfold tkN at h
  rw [ht, if_pos rfl] at h
  exact h
theorem take_no (s x : ByteArray) (hs : s.size ≤ 1000000) (hx : x.size ≤ 100) (g k : Nat) (hk : k ≤ s.size) (b : Bool) (w : World) (hc : Cur w g s k b) (ht : tk s k x.data.toList = false) :
    Calls Tryd.prog 22 #[.pointer (some ⟨g, 0, none⟩), .string x] w fun e w' => e = .returned (.bool false) ∧ Cur w' g s k b ∧ But (fun j => j = g) w w' := by
  have h := take_any s x hs hx g k hk b w hc
  unfold tkN at h
  rw [ht, if_neg (by decide)] at h
  exact h
theorem But.two {S : Nat → Prop} {a b c : World} (h : But S a b) (k : But S b c) : But S a c := h.trans k fun _ _ h => h

set_option maxRecDepth 100000 in
set_option maxHeartbeats 1600000 in
theorem axis_any (s : ByteArray) (hs : s.size ≤ 1000000) (g k : Nat) (hk : k ≤ s.size) (b : Bool) (w : World) (hc : Cur w g s k b) :
    Calls Tryd.prog 18 #[.pointer (some ⟨g, 0, none⟩)] w fun e w' => e = .returned (.int .i64 (axR s k).1) ∧ Cur w' g s (axR s k).2 b ∧ But (fun j => j = g) w w' := by
  have HC := Lib.hid hc
  have HS := Lib.hid hs
  have HA := Lib.hid (show axR s k = if tk s k [47, 47] = true then (2, k + 2) else if tk s k [47] = true then (1, k + 1) else if tk s k [94] = true then (3, k + 1) else if tk s k [43] = true then (4, k + 1) else (0, k) from rfl)
  generalize axR s k = A at *
  clear hc hs
  cases h1 : tk s k [47, 47] with
  | true =>
    have HE := Lib.hid (show A = (2, k + 2) by rw [HA.out, if_pos h1])
    go_enter Tryd.func18, Tryd.ntmps18
    go_wp2_with fail
    refine (take_yes s ⟨#[47, 47]⟩ HS.out (by decide) g k hk b _ HC.out h1).mono ?_
    rintro e w1 ⟨rfl, hc1, hb1⟩
    go_wp2
    go_ret
    rw [HE.out]; exact ⟨rfl, hc1, hb1⟩
  | false =>
    cases h2 : tk s k [47] with
    | true =>
      have HE := Lib.hid (show A = (1, k + 1) by rw [HA.out, if_neg (by rw [h1]; decide), if_pos h2])
      go_enter Tryd.func18, Tryd.ntmps18
      go_wp2_with fail
      refine (take_no s ⟨#[47, 47]⟩ HS.out (by decide) g k hk b _ HC.out h1).mono ?_
      rintro e w1 ⟨rfl, hc1, hb1⟩
      go_wp2_with fail
      refine (take_yes s ⟨#[47]⟩ HS.out (by decide) g k hk b _ hc1 h2).mono ?_
      rintro e w2 ⟨rfl, hc2, hb2⟩
      have HX := Lib.hid (And.intro hc2 (hb1.two hb2))
      clear hc1 hb1 hc2 hb2
      go_wp2
      go_ret
      rw [HE.out]; exact ⟨rfl, HX.out⟩
    | false =>
      cases h3 : tk s k [94] with
      | true =>
        have HE := Lib.hid (show A = (3, k + 1) by rw [HA.out, if_neg (by rw [h1]; decide), if_neg (by rw [h2]; decide), if_pos h3])
        go_enter Tryd.func18, Tryd.ntmps18
        go_wp2_with fail
        refine (take_no s ⟨#[47, 47]⟩ HS.out (by decide) g k hk b _ HC.out h1).mono ?_
        rintro e w1 ⟨rfl, hc1, hb1⟩
        go_wp2_with fail
        refine (take_no s ⟨#[47]⟩ HS.out (by decide) g k hk b _ hc1 h2).mono ?_
        rintro e w2 ⟨rfl, hc2, hb2⟩
        have HX := Lib.hid (And.intro hc2 (hb1.two hb2))
        clear hc1 hb1 hc2 hb2
        go_wp2_with fail
        refine (take_yes s ⟨#[94]⟩ HS.out (by decide) g k hk b _ HX.out.1 h3).mono ?_
        rintro e w3 ⟨rfl, hc3, hb3⟩
        have HY := Lib.hid (And.intro hc3 (HX.out.2.two hb3))
        clear hc3 hb3
        go_wp2
        go_ret
        rw [HE.out]; exact ⟨rfl, HY.out⟩
      | false =>
        cases h4 : tk s k [43] with
        | true =>
          have HE := Lib.hid (show A = (4, k + 1) by rw [HA.out, if_neg (by rw [h1]; decide), if_neg (by rw [h2]; decide), if_neg (by rw [h3]; decide), if_pos h4])
          go_enter Tryd.func18, Tryd.ntmps18
          go_wp2_with fail
          refine (take_no s ⟨#[47, 47]⟩ HS.out (by decide) g k hk b _ HC.out h1).mono ?_
          rintro e w1 ⟨rfl, hc1, hb1⟩
          go_wp2_with fail
          refine (take_no s ⟨#[47]⟩ HS.out (by decide) g k hk b _ hc1 h2).mono ?_
          rintro e w2 ⟨rfl, hc2, hb2⟩
          have HX := Lib.hid (And.intro hc2 (hb1.two hb2))
          clear hc1 hb1 hc2 hb2
          go_wp2_with fail
          refine (take_no s ⟨#[94]⟩ HS.out (by decide) g k hk b _ HX.out.1 h3).mono ?_
          rintro e w3 ⟨rfl, hc3, hb3⟩
          have HY := Lib.hid (And.intro hc3 (HX.out.2.two hb3))
          clear hc3 hb3
          go_wp2_with fail
          refine (take_yes s ⟨#[43]⟩ HS.out (by decide) g k hk b _ HY.out.1 h4).mono ?_
          rintro e w4 ⟨rfl, hc4, hb4⟩
          have HZ := Lib.hid (And.intro hc4 (HY.out.2.two hb4))
          clear hc4 hb4
          go_wp2
          go_ret
          rw [HE.out]; exact ⟨rfl, HZ.out⟩
        | false =>
          have HE := Lib.hid (show A = (0, k) by rw [HA.out, if_neg (by rw [h1]; decide), if_neg (by rw [h2]; decide), if_neg (by rw [h3]; decide), if_neg (by rw [h4]; decide)])
          go_enter Tryd.func18, Tryd.ntmps18
          go_wp2_with fail
          refine (take_no s ⟨#[47, 47]⟩ HS.out (by decide) g k hk b _ HC.out h1).mono ?_
          rintro e w1 ⟨rfl, hc1, hb1⟩
          go_wp2_with fail
          refine (take_no s ⟨#[47]⟩ HS.out (by decide) g k hk b _ hc1 h2).mono ?_
          rintro e w2 ⟨rfl, hc2, hb2⟩
          have HX := Lib.hid (And.intro hc2 (hb1.two hb2))
          clear hc1 hb1 hc2 hb2
          go_wp2_with fail
          refine (take_no s ⟨#[94]⟩ HS.out (by decide) g k hk b _ HX.out.1 h3).mono ?_
          rintro e w3 ⟨rfl, hc3, hb3⟩
          have HY := Lib.hid (And.intro hc3 (HX.out.2.two hb3))
          clear hc3 hb3
          go_wp2_with fail
          refine (take_no s ⟨#[43]⟩ HS.out (by decide) g k hk b _ HY.out.1 h4).mono ?_
          rintro e w4 ⟨rfl, hc4, hb4⟩
          have HZ := Lib.hid (And.intro hc4 (HY.out.2.two hb4))
          clear hc4 hb4
          go_wp2
          go_ret
          rw [HE.out]; exact ⟨rfl, HZ.out⟩

/-- Where a literal ends, and whether it was bad. -/
def litV : Except Nat (ByteArray × Nat) → ByteArray | .ok p => p.1 | .error _ => ⟨#[]⟩
def litK : Except Nat (ByteArray × Nat) → Nat | .ok p => p.2 | .error e => e
def litX : Except Nat (ByteArray × Nat) → Bool | .ok _ => false | .error _ => true
set_option maxRecDepth 100000 in
set_option maxHeartbeats 1600000 in
theorem lit_bad (s x : ByteArray) (g k : Nat) (w : World) (hc : Cur w g s k true) :
    Calls Tryd.prog 20 #[.pointer (some ⟨g, 0, none⟩), .string x] w fun e w' => e = .returned (.string ⟨#[]⟩) ∧ Cur w' g s k true ∧ But (fun j => j = g) w w' := by
  have HC := Lib.hid hc
  obtain ⟨c0, c1, c2, hg, f1, f2⟩ := hc.at_
  clear hc
  go_enter Tryd.func20, Tryd.ntmps20
  go_wp2
  go_ret
  exact ⟨rfl, HC.out, But.refl _ _⟩
set_option maxRecDepth 100000 in
set_option maxHeartbeats 1600000 in
theorem lit_any (c : UInt8) (s : ByteArray) (hs : s.size ≤ 1000000) (g k : Nat) (hk : k ≤ s.size) (w : World) (hc : Cur w g s k false) :
    Calls Tryd.prog 20 #[.pointer (some ⟨g, 0, none⟩), .string ⟨#[c]⟩] w fun e w' => e = .returned (.string (litV (litR c s k))) ∧ Cur w' g s (litK (litR c s k)) (litX (litR c s k)) ∧ But (fun j => j = g) w w' := by
  have HC := Lib.hid hc
  have HS := Lib.hid hs
  have HL := Lib.hid (show litR c s k = if tk s k [c] = true then (match txtO s ((k + 1 : Nat) : Int) with | some p => .ok p | none => .error (k + 1)) else .ok (⟨#[]⟩, k) from rfl)
  generalize litR c s k = l at *
  obtain ⟨c0, c1, c2, hg, f1, f2⟩ := hc.at_
  clear hc
  cases h1 : tk s k [c] with
  | false =>
    have HE := Lib.hid (show l = .ok (⟨#[]⟩, k) by rw [HL.out, if_neg (by rw [h1]; decide)])
    clear HL
    go_enter Tryd.func20, Tryd.ntmps20
    go_wp2_with fail
    refine (take_no s ⟨#[c]⟩ HS.out (by show 1 ≤ 100; omega) g k hk false _ HC.out h1).mono ?_
    rintro e w1 ⟨rfl, hc1, hb1⟩
    go_wp2
    go_ret
    rw [HE.out]; exact ⟨rfl, hc1, hb1⟩
  | true =>
    obtain ⟨j, hj⟩ : ∃ j, k + 1 = j := ⟨_, rfl⟩
    rw [hj] at HL
    have HR := Lib.hid (fun W => rreadtext_any s HS.out (j : Int) W)
    cases ht : txtO s (j : Int) with
    | none =>
      have HE := Lib.hid (show l = .error j by rw [HL.out, if_pos h1, ht])
      rw [ht] at HR
      unfold txtT at HR
      clear ht
      clear HL c0 c1 c2 hg f1 f2
      go_enter Tryd.func20, Tryd.ntmps20
      obtain ⟨c0, c1, c2, hg, f1, f2⟩ := HC.out.at_
      go_wp2_with fail
      clear c0 c1 c2 hg f1 f2
      refine (take_yes s ⟨#[c]⟩ HS.out (by show 1 ≤ 100; omega) g k hk false _ HC.out h1).mono ?_
      rintro e w1 ⟨rfl, hc1, hb1⟩
      have HC1 := Lib.hid (show Cur w1 g s j false by rw [← hj]; exact hc1)
      have HB1 := Lib.hid hb1
      clear hc1 hb1 hj
      obtain ⟨c0, c1, c2, hg, f1, f2⟩ := HC1.out.at_
      have CR := Lib.hid (fun (dq : Nat) (os : Array Obj) => HR.out (grow (redrawn w1 dq) os))
      go_wp2_with fail
      have c0' := cell_regrown c0
      have c1' := cell_regrown c1
      refine wp_region_quiet_below (by kernel_rfl) (by kernel_rfl) ?_
      repeat (go_big_quiet_step (first | (go_at_call 37; with_reducible exact Calls.regrown_of (CR.out _ _))))
      refine wpQuiet_nil ?_
      intro _ hw'
      obtain ⟨⟨dq, osq⟩, hw''⟩ := hw'
      subst hw''
      have HC2 := Lib.hid (HC1.out.under (below_regrown w1 dq osq) HC1.out.lt)
      have HB2 := Lib.hid (HB1.out.then_below (below_regrown w1 dq osq))
      clear c0 c1 c2 hg f1 f2 c0' c1'
      generalize grow (redrawn w1 dq) osq = w2 at *
      obtain ⟨c0, c1, c2, hg, f1, f2⟩ := (show Cur w2 g s j false from HC2.out).at_
      go_wp2
      go_ret
      rw [HE.out]; exact ⟨rfl, Cur.bad HC2.out true, HB2.out.setCell (p := ⟨g, 2, none⟩) (fun _ => rfl) _⟩
    | some p =>
      obtain ⟨u, m⟩ := p
      have HE := Lib.hid (show l = .ok (u, m) by rw [HL.out, if_pos h1, ht])
      rw [ht] at HR
      unfold txtT at HR
      clear ht
      clear HL c0 c1 c2 hg f1 f2
      go_enter Tryd.func20, Tryd.ntmps20
      obtain ⟨c0, c1, c2, hg, f1, f2⟩ := HC.out.at_
      go_wp2_with fail
      clear c0 c1 c2 hg f1 f2
      refine (take_yes s ⟨#[c]⟩ HS.out (by show 1 ≤ 100; omega) g k hk false _ HC.out h1).mono ?_
      rintro e w1 ⟨rfl, hc1, hb1⟩
      have HC1 := Lib.hid (show Cur w1 g s j false by rw [← hj]; exact hc1)
      have HB1 := Lib.hid hb1
      clear hc1 hb1 hj
      obtain ⟨c0, c1, c2, hg, f1, f2⟩ := HC1.out.at_
      have CR := Lib.hid (fun (dq : Nat) (os : Array Obj) => HR.out (grow (redrawn w1 dq) os))
      go_wp2_with fail
      have c0' := cell_regrown c0
      have c1' := cell_regrown c1
      refine wp_region_quiet_below (by kernel_rfl) (by kernel_rfl) ?_
      repeat (go_big_quiet_step (first | (go_at_call 37; with_reducible exact Calls.regrown_of (CR.out _ _))))
      refine wpQuiet_nil ?_
      intro _ hw'
      obtain ⟨⟨dq, osq⟩, hw''⟩ := hw'
      subst hw''
      have HC2 := Lib.hid (HC1.out.under (below_regrown w1 dq osq) HC1.out.lt)
      have HB2 := Lib.hid (HB1.out.then_below (below_regrown w1 dq osq))
      clear c0 c1 c2 hg f1 f2 c0' c1'
      generalize grow (redrawn w1 dq) osq = w2 at *
      obtain ⟨c0, c1, c2, hg, f1, f2⟩ := (show Cur w2 g s j false from HC2.out).at_
      go_wp2
      go_ret
      rw [HE.out]; exact ⟨rfl, Cur.go HC2.out m, HB2.out.setCell (p := ⟨g, 1, none⟩) (fun _ => rfl) _⟩
end Go.Proofs.YtialpofiagiclaaDoor

namespace Go.Proofs.YtialpofiagiclaaDoor
set_option linter.unusedVariables false
set_option maxRecDepth 1000000
open Go.RowKit Go.Sort

def nthV : Except Nat (Int × Nat) → Int → Prop | .ok p, n => n = p.1 | .error _, _ => True
def nthK : Except Nat (Int × Nat) → Nat | .ok p => p.2 | .error e => e
def nthX : Except Nat (Int × Nat) → Bool | .ok _ => false | .error _ => true
def goB (s : ByteArray) (b k i : Nat) : Bool := decide (k < s.size) && decide (i < 4) && decide (48 ≤ byt s k) && decide (byt s k ≤ 57) && decide (byt s b ≠ 48)
set_option maxRecDepth 100000 in
set_option maxHeartbeats 1600000 in
theorem nth_bad (s : ByteArray) (g k : Nat) (w : World) (hc : Cur w g s k true) :
    Calls Tryd.prog 21 #[.pointer (some ⟨g, 0, none⟩)] w fun e w' => e = .returned (.int .i64 0) ∧ Cur w' g s k true ∧ But (fun j => j = g) w w' := by
  have HC := Lib.hid hc
  obtain ⟨c0, c1, c2, hg, f1, f2⟩ := hc.at_
  clear hc
  go_enter Tryd.func21, Tryd.ntmps21
  go_wp2
  go_ret
  exact ⟨rfl, HC.out, But.refl _ _⟩
theorem dg_more {s : ByteArray} {b f k : Nat} {n : Int} (h : goB s b k (4 - f) = true) (hf : 0 < f) (hf4 : f ≤ 4) : dgF s b f k n = dgF s b (f - 1) (k + 1) (10 * n + (byt s k - 48)) := by
  obtain ⟨f, rfl⟩ : ∃ q, f = q + 1 := ⟨f - 1, by omega⟩
  unfold goB at h
  simp only [Bool.and_eq_true, decide_eq_true_eq] at h
  conv => lhs; unfold dgF
  rw [if_pos ⟨h.1.1.1.1, by unfold digB; simp only [Bool.and_eq_true, decide_eq_true_eq]; exact ⟨h.1.1.2, h.1.2⟩, h.2⟩]; rfl
theorem dg_stop {s : ByteArray} {b f k : Nat} {n : Int} (h : goB s b k (4 - f) = false) (hf4 : f ≤ 4) : dgF s b f k n = (n, k) := by
  cases f with
  | zero => rfl
  | succ f =>
    unfold dgF
    rw [if_neg]
    intro ⟨h1, h2, h3⟩
    unfold digB at h2
    simp only [Bool.and_eq_true, decide_eq_true_eq] at h2
    unfold goB at h
    rw [decide_eq_true h1, decide_eq_true (show 4 - (f + 1) < 4 by omega), decide_eq_true h2.1, decide_eq_true h2.2, decide_eq_true h3] at h
    cases h
set_option maxRecDepth 1000000 in
set_option maxHeartbeats 3200000 in
theorem nth_any (s : ByteArray) (hs : s.size ≤ 1000000) (g k : Nat) (hk : k ≤ s.size) (w : World) (hc : Cur w g s k false) :
    Calls Tryd.prog 21 #[.pointer (some ⟨g, 0, none⟩)] w fun e w' => (∃ n, e = .returned (.int .i64 n) ∧ nthV (nthR s k) n) ∧ Cur w' g s (nthK (nthR s k)) (nthX (nthR s k)) ∧ But (fun j => j = g) w w' := by
  have HC := Lib.hid hc
  have HS := Lib.hid hs
  have HN := Lib.hid (show nthR s k = if tk s k [91] = true then
    (if (dgF s (k + 1) 4 (k + 1) 0).1 = 0 ∨ tk s (dgF s (k + 1) 4 (k + 1) 0).2 [93] = false then .error (dgF s (k + 1) 4 (k + 1) 0).2 else .ok ((dgF s (k + 1) 4 (k + 1) 0).1, (dgF s (k + 1) 4 (k + 1) 0).2 + 1))
  else .ok (0, k) from rfl)
  generalize nthR s k = l at *
  obtain ⟨c0, c1, c2, hg, f1, f2⟩ := hc.at_
  clear hc
  cases h1 : tk s k [91] with
  | false =>
    have HE := Lib.hid (show l = .ok (0, k) by rw [HN.out, if_neg (by rw [h1]; decide)])
    clear HN
    go_enter Tryd.func21, Tryd.ntmps21
    go_wp2_with fail
    refine (take_no s ⟨#[91]⟩ HS.out (by decide) g k hk false _ HC.out h1).mono ?_
    rintro e w1 ⟨rfl, hc1, hb1⟩
    go_wp2
    go_ret
    rw [HE.out]; exact ⟨⟨0, rfl, rfl⟩, hc1, hb1⟩
  | true =>
    rw [if_pos h1] at HN
    have hk1 := tk_size h1 hk
    simp at hk1
    obtain ⟨j, hj⟩ : ∃ j, k + 1 = j := ⟨_, rfl⟩
    rw [hj] at HN hk1
    have HBD := Lib.hid (dgF_bd s j 4 j 0 hk1 (by omega))
    clear c0 c1 c2 hg f1 f2
    go_enter Tryd.func21, Tryd.ntmps21
    obtain ⟨c0, c1, c2, hg, f1, f2⟩ := HC.out.at_
    go_wp2_with fail
    clear c0 c1 c2 hg f1 f2
    refine (take_yes s ⟨#[91]⟩ HS.out (by decide) g k hk false _ HC.out h1).mono ?_
    rintro e w1 ⟨rfl, hc1, hb1⟩
    have HC1 := Lib.hid (show Cur w1 g s j false by rw [← hj]; exact hc1)
    have HB1 := Lib.hid hb1
    clear hc1 hb1 hj h1 hk HC
    obtain ⟨c0, c1, c2, hg, f1, f2⟩ := HC1.out.at_
    go_wp2_with fail
    go_quiet (fail)
    have HC2 := Lib.hid (show Cur (w1.drewN nq) g s j false from HC1.out.on_drewN nq)
    have HB2 := Lib.hid (HB1.out.drewN nq)
    clear c0 c1 c2 hg f1 f2 HC1 HB1
    generalize w1.drewN nq = w2 at *
    go_wp2_with fail
    go_loopw [3] (fun b3 wr => ∃ (i f : Nat) (n : Int), f + i = 4 ∧ b3 = .int .i64 n ∧ 0 ≤ n ∧ n < 10 ^ i ∧ j + i ≤ s.size ∧ Hid (Cur wr g s (j + i) false) ∧ Hid (dgF s j f (j + i) n = dgF s j 4 j 0) ∧ Hid (But (fun q => q = g) w wr))
      (fun _ wr => j + 4 - (intOf ((wr.cell? ⟨g, 1, none⟩).getD (.bool false))).toNat)
    case atStart => exact ⟨0, 4, 0, rfl, rfl, by omega, by decide, by omega, HC2, Lib.hid rfl, HB2⟩
    case round =>
      obtain ⟨i, f, n, hfi, rfl, hn0, hn1, hji, HCR, HD, HBR⟩ := hrel
      clear HC2 HB2
      have hi4 : i ≤ 4 := by omega
      have hnb : n ≤ 10000 := by
        have h5 : i = 0 ∨ i = 1 ∨ i = 2 ∨ i = 3 ∨ i = 4 := by omega
        rcases h5 with rfl | rfl | rfl | rfl | rfl <;> simp at hn1 <;> omega
      obtain ⟨B, hB⟩ : ∃ B, goB s j (j + i) i = B := ⟨_, rfl⟩
      have HGB := Lib.hid hB
      obtain ⟨q, hq⟩ : ∃ q, j + i = q := ⟨_, rfl⟩
      rw [hq] at hB hji HCR HD HGB
      have HQ1 := Lib.hid HCR.out.at_.2.1
      obtain ⟨c0, c1, c2, hg, f1, f2⟩ := HCR.out.at_
      go_upto_region 4 with fail
      clear hB
      go_cut [69] (fun c wx => c = .bool B ∧ ∃ n, wx = wr.drewN n)
      case first =>
        by_cases a1 : q < s.size
        · have d1 : decide (q < s.size) = true := decide_eq_true a1
          have hjs : j < s.size := by omega
          by_cases a2 : i < 4
          · have d2 : decide ((q : Int) < (j : Int) + 4) = true := decide_eq_true (by omega)
            obtain ⟨d, hd⟩ : ∃ d : Int, (s[q].toNat : Int) = d := ⟨_, rfl⟩
            have hbd : byt s q = d := by rw [byt_get a1, hd]
            have HBD2 := Lib.hid hbd
            clear hbd
            by_cases a3 : 48 ≤ d
            · by_cases a4 : d ≤ 57
              · obtain ⟨z, hz⟩ : ∃ z : Int, (s[j].toNat : Int) = z := ⟨_, rfl⟩
                have HBZ := Lib.hid (show byt s j = z by rw [byt_get hjs, hz])
                by_cases a5 : z = 48
                · have d5 : (z == 48) = true := beq_iff_eq.2 a5
                  have HF := Lib.hid (show B = false by rw [← HGB.out]; unfold goB; rw [decide_eq_true a1, decide_eq_true a2, HBD2.out, decide_eq_true a3, decide_eq_true a4, HBZ.out, a5]; rfl)
                  go_quiet (fail)
                  go_wp2_with fail
                  go_meet
                  exact ⟨by rw [HF.out], nq, rfl⟩
                · have d5 : (z == 48) = false := beq_eq_false_iff_ne.2 a5
                  have d6 : (z != 48) = true := by unfold bne; rw [d5]; rfl
                  have HF := Lib.hid (show B = true by rw [← HGB.out]; unfold goB; rw [decide_eq_true a1, decide_eq_true a2, HBD2.out, decide_eq_true a3, decide_eq_true a4, HBZ.out, decide_eq_true a5]; rfl)
                  go_quiet (fail)
                  go_wp2_with fail
                  go_meet
                  exact ⟨by rw [HF.out], nq, rfl⟩
              · have d4 : decide (d ≤ 57) = false := decide_eq_false a4
                have HF := Lib.hid (show B = false by rw [← HGB.out]; unfold goB; rw [decide_eq_true a1, decide_eq_true a2, HBD2.out, decide_eq_true a3, decide_eq_false a4]; rfl)
                go_quiet (fail)
                go_wp2_with fail
                go_meet
                exact ⟨by rw [HF.out], nq, rfl⟩
            · have d3 : decide (48 ≤ d) = false := decide_eq_false a3
              have HF := Lib.hid (show B = false by rw [← HGB.out]; unfold goB; rw [decide_eq_true a1, decide_eq_true a2, HBD2.out, decide_eq_false a3]; rfl)
              go_quiet (fail)
              go_wp2_with fail
              go_meet
              exact ⟨by rw [HF.out], nq, rfl⟩
          · have d2 : decide ((q : Int) < (j : Int) + 4) = false := decide_eq_false (by omega)
            have HF := Lib.hid (show B = false by rw [← HGB.out]; unfold goB; rw [decide_eq_true a1, decide_eq_false a2]; rfl)
            go_quiet (fail)
            go_wp2_with fail
            go_meet
            exact ⟨by rw [HF.out], nq, rfl⟩
        · have d1 : decide (q < s.size) = false := decide_eq_false a1
          have HF := Lib.hid (show B = false by rw [← HGB.out]; unfold goB; rw [decide_eq_false a1]; rfl)
          go_quiet (fail)
          go_wp2_with fail
          go_meet
          exact ⟨by rw [HF.out], nq, rfl⟩
      case rest =>
        obtain ⟨rfl, nr, rfl⟩ := hcut
        have HC3 := Lib.hid (show Cur (wr.drewN nr) g s q false from HCR.out.on_drewN nr)
        have HB3 := Lib.hid (HBR.out.drewN nr)
        clear HCR HBR c0 c1 c2 hg f1 f2
        generalize wr.drewN nr = w3 at *
        obtain ⟨c0, c1, c2, hg, f1, f2⟩ := (show Cur w3 g s q false from HC3.out).at_
        cases B with
        | true =>
          have hG := HGB.out
          unfold goB at hG
          simp only [Bool.and_eq_true, decide_eq_true_eq] at hG
          obtain ⟨⟨⟨⟨a1, a2⟩, a3⟩, a4⟩, a5⟩ := hG
          have HMORE := Lib.hid (show dgF s j f q n = dgF s j (f - 1) (q + 1) (10 * n + (byt s q - 48)) from dg_more (by rw [show 4 - f = i by omega]; exact HGB.out) (by omega) (by omega))
          obtain ⟨d, hd⟩ : ∃ d : Int, (s[q].toNat : Int) = d := ⟨_, rfl⟩
          rw [byt_get a1, hd] at a3 a4 HMORE
          have v1 : IntKind.i64.wrap (10 * n) = 10 * n := by rw [IntKind.wrap_i64]; omega
          have v2 : IntKind.u8.wrap (d - 48) = d - 48 := by rw [IntKind.wrap_u8]; omega
          have v3 : IntKind.i64.wrap (d - 48) = d - 48 := by rw [IntKind.wrap_i64]; omega
          have v4 : IntKind.i64.wrap (10 * n + (d - 48)) = 10 * n + (d - 48) := by rw [IntKind.wrap_i64]; omega
          have v5 : IntKind.i64.wrap ((q : Int) + 1) = (q : Int) + 1 := by rw [IntKind.wrap_i64]; omega
          have hpw : 10 * n + (d - 48) < 10 ^ (i + 1) := by rw [Int.pow_succ]; omega
          clear a5
          go_wp2_with fail
          go_quiet (fail)
          have HC4 := Lib.hid (show Cur ((w3.drewN nq).setCell ⟨g, 1, none⟩ (.int .i64 ((q : Int) + 1))) g s (q + 1) false from Cur.go (w := w3.drewN nq) HC3.out (q + 1))
          have HB4 := Lib.hid ((HB3.out.drewN nq).setCell (p := ⟨g, 1, none⟩) (fun _ => rfl) (.int .i64 ((q : Int) + 1)))
          go_wp2
          go_roundw
          case rel => exact ⟨i + 1, f - 1, _, by omega, rfl, by omega, hpw, by omega, by rw [show j + (i + 1) = q + 1 by omega]; exact HC4, Lib.hid (by rw [show j + (i + 1) = q + 1 by omega, ← HMORE.out]; exact HD.out), HB4⟩
          case measure => rw [HC4.out.at_.2.1, HQ1.out]; simp [intOf]; omega
        | false =>
          have HST := Lib.hid (show dgF s j 4 j 0 = (n, q) by rw [← HD.out]; exact dg_stop (by rw [show 4 - f = i by omega]; exact HGB.out) (by omega))
          rw [HST.out] at HN
          simp only at HN
          by_cases hz : n = 0
          · subst hz
            have HE := Lib.hid (show l = .error q by rw [HN.out, if_pos (.inl rfl)])
            clear HN HST HBD
            go_wp2
            go_ret
            rw [HE.out]; exact ⟨⟨0, rfl, trivial⟩, Cur.bad HC3.out true, HB3.out.setCell (p := ⟨g, 2, none⟩) (fun _ => rfl) _⟩
          · have hz1 : (n == 0) = false := beq_eq_false_iff_ne.2 hz
            cases ht : tk s q [93] with
            | false =>
              have HE := Lib.hid (show l = .error q by rw [HN.out, if_pos (.inr ht)])
              clear HN HST HBD
              clear c0 c1 c2 hg f1 f2
              go_wp2_with fail
              refine (take_no s ⟨#[93]⟩ HS.out (by decide) g q hji false _ HC3.out ht).mono ?_
              rintro e w4 ⟨rfl, hc4, hb4⟩
              have HC4 := Lib.hid hc4
              have HB4 := Lib.hid (HB3.out.two hb4)
              clear hc4 hb4
              obtain ⟨c0, c1, c2, hg, f1, f2⟩ := HC4.out.at_
              go_wp2
              go_ret
              rw [HE.out]; exact ⟨⟨n, rfl, trivial⟩, Cur.bad HC4.out true, HB4.out.setCell (p := ⟨g, 2, none⟩) (fun _ => rfl) _⟩
            | true =>
              have HE := Lib.hid (show l = .ok (n, q + 1) by rw [HN.out, if_neg (fun h => by rcases h with h | h; exact hz h; rw [ht] at h; cases h)])
              clear HN HST HBD
              clear c0 c1 c2 hg f1 f2
              go_wp2_with fail
              refine (take_yes s ⟨#[93]⟩ HS.out (by decide) g q hji false _ HC3.out ht).mono ?_
              rintro e w4 ⟨rfl, hc4, hb4⟩
              have HC4 := Lib.hid hc4
              have HB4 := Lib.hid (HB3.out.two hb4)
              clear hc4 hb4
              go_wp2
              go_ret
              rw [HE.out]; exact ⟨⟨n, rfl, rfl⟩, HC4.out, HB4.out⟩
end Go.Proofs.YtialpofiagiclaaDoor
