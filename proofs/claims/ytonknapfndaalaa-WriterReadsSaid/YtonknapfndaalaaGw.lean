/- How many bytes a class, a literal are written with, by how many they are told in. Math alone. What is read may be; with how many bytes it is written, by its tokens. Math alone. What is read of a text may be, and is written with no more than nine bytes for each of its own. Math alone. -/
import Derived.Test.YtonknapfndaalaaGj
import Derived.Test.YtonknapfndaalaaGo
import Derived.Test.YtonknapfndaalaaGv
namespace Go.Proofs.Ytonknapfndaalaa
set_option linter.unusedVariables false
set_option maxRecDepth 1000000
open Go.RowKit Ex
end Go.Proofs.Ytonknapfndaalaa

namespace Go.Proofs.Ytonknapfndaalaa
set_option linter.unusedVariables false
set_option maxRecDepth 1000000
open Go.RowKit Ex
/-- What may be, at each of its levels. -/
def wfs : Nat → Ex → Bool
 | 0, _ => true
 | n + 1, x => ownX x && x.kids.all (wfs n)
def OkX (x : Ex) : Prop := ∀ n, wfs n x = true
theorem OkX.list {o : Int} {t : ByteArray} {a b c d : Int} {K : List Ex} (h : ownX (.mk o t a b c d K) = true) (hK : ∀ y ∈ K, OkX y) : OkX (.mk o t a b c d K) := fun n => by
 cases n with
 | zero => rfl
 | succ n => unfold wfs; rw [h, Bool.true_and]; exact List.all_eq_true.2 fun y hy => hK y hy n
def fit9 : Nat → Ex → Prop
 | 0, _ => False
 | n + 1, x => ∀ y ∈ x.kids, fit9 n y
theorem OkX.all {x : Ex} (h : OkX x) : ∀ n, fit9 n x → allX n x = true := fun n => by
 induction n generalizing x with
 | zero => intro g; exact g.elim
 | succ n ih =>
  intro g
  have h1 := h (n + 1)
  unfold wfs at h1
  rw [Bool.and_eq_true] at h1
  rw [allX_succ, h1.1, Bool.true_and]
  exact List.all_eq_true.2 fun y hy => ih (fun m => by
   have h2 := h (m + 1)
   unfold wfs at h2
   rw [Bool.and_eq_true] at h2
   exact List.all_eq_true.1 h2.2 y hy) (g y hy)
/-- How many bytes a token is written with, and two more. -/
def cost (t : Tok) : Nat := (if t.kd = 2 then (textS t.tx).data.toList.length else if t.kd = 3 then (classS (inS t.st)).data.toList.length else t.tx.size) + 2
section
variable {L : List Tok}
/-- The cost of the tokens ahead of k. -/
def cu (L : List Tok) : Nat → Nat
 | 0 => 0
 | k + 1 => cu L k + cost (tkA L k)
/-- What is read: it may be, and with what it is written within something that binds so closely. -/
def Bdc (L : List Tok) (lv : Int) (x : Ex) (k m : Nat) : Prop := OkX x ∧ ∀ n, (prX n x).length + (if cloX x.op < lv then 2 else 0) + 1 + cu L k ≤ cu L m
def Rbc (L : List Tok) (lv : Int) (r : Rs) (k : Nat) : Prop := ∀ x m, r = .ok (x, m) → Bdc L lv x k m
theorem Rbc.err {lv : Int} {k : Nat} (e : Int × Int) : Rbc L lv (.error e) k := fun x m h => by cases h
theorem Rbc.ok {lv : Int} {k m : Nat} {x : Ex} (h : Bdc L lv x k m) : Rbc L lv (.ok (x, m)) k := fun y n e => by
 obtain ⟨rfl, rfl⟩ : x = y ∧ m = n := by simpa using e
 exact h
theorem kd_len {n : Nat} {o : Int} {y : Ex} : (kdX (prX n) o y).length ≤ (prX n y).length + (if cloX y.op < cloX o + 1 then 2 else 0) := by
 unfold kdX parX
 by_cases g : cloX y.op ≤ cloX o
 ·
  rw [decide_eq_true g, if_pos rfl, if_pos (by omega)]; simp
 ·
  rw [decide_eq_false g, if_neg (by decide), if_neg (by omega)]; exact Nat.le_refl _
/-- An operation with one part. -/
theorem Bdc.one {o : Int} {t : ByteArray} {y : Ex} {k j i m : Nat} (ho : o = 6 ∨ o = 7 ∨ o = 8 ∨ o = 9 ∨ o = 10 ∨ o = 12 ∨ o = 13) (hx : ownX (.mk o t 0 0 0 0 [y]) = true) (hy : Bdc L (cloX o + 1) y j i)
  (hc : (beW o t).length + (afW o).length + cu L k + cu L i ≤ cu L m + cu L j) : Bdc L (cloX o) (.mk o t 0 0 0 0 [y]) k m := by
 refine ⟨OkX.list hx (fun z hz => by rw [List.mem_singleton.1 hz]; exact hy.1), fun n => ?_⟩
 show _ + (if cloX o < cloX o then 2 else 0) + 1 + _ ≤ _
 rw [if_neg (by omega)]
 cases n with
 | zero => have := hy.2 0; show 0 + 0 + 1 + _ ≤ _; omega
 | succ n =>
  rw [prX_one n o t y ho, List.length_append, List.length_append]
  have h1 := kd_len (n := n) (o := o) (y := y)
  have h2 := hy.2 n
  omega
theorem ownX_one {o : Int} {t : ByteArray} {y : Ex} (h : textB o t = true) (ho : o = 6 ∨ o = 7 ∨ o = 8 ∨ o = 9 ∨ o = 10 ∨ o = 12 ∨ o = 13) : ownX (.mk o t 0 0 0 0 [y]) = true := by
 show (textB o t && kidsB o 1 && !((o == 2) == zB 0 0 0 0)) = true
 rw [h]
 rcases ho with rfl | rfl | rfl | rfl | rfl | rfl | rfl <;> rfl
theorem Rbc.kid {o : Int} {t : ByteArray} {k j : Nat} {r : Rs} (ho : o = 9 ∨ o = 10 ∨ o = 12) (ht : textB o t = true) (h : Rbc L 3 r j) (hc : (beW o t).length + cu L k ≤ cu L j) : Rbc L 2 (mapX (fun e => .mk o t 0 0 0 0 [e]) r) k := by
 cases r with
 | error e => exact Rbc.err e
 | ok p =>
  obtain ⟨x, m⟩ := p
  refine Rbc.ok ?_
  have h1 := h x m rfl
  rcases ho with rfl | rfl | rfl
  ·
   exact Bdc.one (o := 9) (by decide) (ownX_one ht (by decide)) h1 (by rw [show (afW 9).length = 0 from rfl]; omega)
  ·
   exact Bdc.one (o := 10) (by decide) (ownX_one ht (by decide)) h1 (by rw [show (afW 10).length = 0 from rfl]; omega)
  ·
   exact Bdc.one (o := 12) (by decide) (ownX_one ht (by decide)) h1 (by rw [show (afW 12).length = 0 from rfl]; omega)
end
end Go.Proofs.Ytonknapfndaalaa

namespace Go.Proofs.Ytonknapfndaalaa
set_option linter.unusedVariables false
set_option maxRecDepth 1000000
open Go.RowKit Ex
end Go.Proofs.Ytonknapfndaalaa
