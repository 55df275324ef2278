/- How many bytes a class, a literal are written with, by how many they are told in. Math alone. What is read may be; with how many bytes it is written, by its tokens. Math alone. What is read of a text may be, and is written with no more than nine bytes for each of its own. Math alone. -/
import Derived.Test.YtonknapfndaalaaGj
import Derived.Test.YtonknapfndaalaaGo
import Derived.Test.YtonknapfndaalaaGv
namespace Go.Proofs.Ytonknapfndaalaa
set_option linter.unusedVariables false
set_option maxRecDepth 1000000
open Go.RowKit Ex
/-- How many rows a set has below n. -/
def stc (h : Nat → Bool) : Nat → Nat
 | 0 => 0
 | n + 1 => stc h n + (if (h n && !(decide (0 < n) && h (n - 1))) = true then 1 else 0)
theorem stc_mono (h : Nat → Bool) : ∀ {n m : Nat}, n ≤ m → stc h n ≤ stc h m
 | n, 0, hm => by rw [show n = 0 by omega]; exact Nat.le_refl _
 | n, m + 1, hm => by
  by_cases e : n = m + 1
  ·
   rw [e]; exact Nat.le_refl _
  ·
   exact Nat.le_trans (stc_mono h (show n ≤ m by omega)) (Nat.le_add_right _ _)
theorem stc_or {h g : Nat → Bool} {lo hi : Nat} (hg : ∀ b, b < 256 → g b = (h b || (decide (lo ≤ b) && decide (b < hi + 1)))) : ∀ n, n ≤ 256 → stc g n ≤ stc h n + (if lo < n then 1 else 0)
 | 0, _ => Nat.le_refl _
 | n + 1, hn => by
  have ih := stc_or hg n (by omega)
  unfold stc
  have e1 := hg n (by omega)
  have e2 := hg (n - 1) (by omega)
  by_cases hs : (g n && !(decide (0 < n) && g (n - 1))) = true
  ·
   rw [if_pos hs]
   by_cases hl : lo = n
   ·
    subst hl
    rw [if_neg (by omega)] at ih
    rw [if_pos (show lo < lo + 1 by omega)]
    omega
   ·
    have hs2 : (h n && !(decide (0 < n) && h (n - 1))) = true := by
     rw [e1, e2] at hs
     by_cases a1 : lo ≤ n <;> by_cases a2 : n < hi + 1 <;> by_cases a3 : 0 < n <;> by_cases a4 : lo ≤ n - 1 <;> by_cases a5 : n - 1 < hi + 1 <;> (try omega) <;> simp [a1, a2, a3, a4, a5] at hs ⊢ <;> revert hs <;> cases h n <;> cases h (n - 1) <;> simp
    rw [if_pos hs2]
    have hm : (if lo < n then 1 else 0) ≤ (if lo < n + 1 then 1 else 0) := by split <;> split <;> omega
    omega
  ·
   rw [if_neg hs]
   have hm : (if lo < n then 1 else 0) ≤ (if lo < n + 1 then 1 else 0) := by split <;> split <;> omega
   omega
/-- A set and its complement: rows of either come by turns. -/
theorem stc_not {h g : Nat → Bool} (hg : ∀ b, b < 256 → g b = !h b) : ∀ n, n ≤ 256 → 1 ≤ n → stc g n + (if h (n - 1) = true then 1 else 0) = stc h n + (if h 0 = true then 0 else 1)
 | 0, _, h1 => by omega
 | 1, _, _ => by
  have e0 := hg 0 (by omega)
  simp only [stc, e0]
  cases h 0 <;> simp
 | n + 2, hn, _ => by
  have ih := stc_not hg (n + 1) (by omega) (by omega)
  have e1 := hg (n + 1) (by omega)
  have e2 := hg n (by omega)
  rw [show stc g (n + 2) = stc g (n + 1) + (if (g (n + 1) && !(decide (0 < n + 1) && g (n + 1 - 1))) = true then 1 else 0) from rfl, show stc h (n + 2) = stc h (n + 1) + (if (h (n + 1) && !(decide (0 < n + 1) && h (n + 1 - 1))) = true then 1 else 0) from rfl]
  rw [show n + 1 - 1 = n from rfl] at ih ⊢
  rw [show n + 2 - 1 = n + 1 from rfl, e1, e2]
  revert ih
  cases h n <;> cases h (n + 1) <;> simp <;> omega
theorem runTo_max (h : Nat → Bool) : ∀ f k, 255 ≤ f + k → k ≤ 255 → runTo h f k < 255 → h (runTo h f k + 1) = false
 | 0, k, hf, hk, h2 => by unfold runTo at h2; omega
 | f + 1, k, hf, hk, h2 => by
  unfold runTo at h2 ⊢
  split at h2
  ·
   rename_i g
   rw [if_pos g]
   exact runTo_max h f (k + 1) (by omega) (by omega) h2
  ·
   rename_i g
   rw [if_neg g]
   cases hq : h (k + 1)
   ·
    rfl
   ·
    exact absurd ⟨h2, hq⟩ g
/-- The rows from a byte on, by how many rows there are. -/
theorem clsF_stc (h : Nat → Bool) : ∀ f low, low ≤ 256 → (0 < low → low < 256 → h low = true → h (low - 1) = false) → (clsF h f low).length + 9 * stc h low ≤ 9 * stc h 256
 | 0, low, h1, _ => by
  have := stc_mono h h1
  rw [show clsF h 0 low = [] from rfl, List.length_nil]; omega
 | f + 1, low, h1, h0 => by
  by_cases h2 : low < 256
  ·
   cases h3 : h low
   ·
    rw [clsF_out h2 h3]
    have ih := clsF_stc h f (low + 1) (by omega) (fun _ _ _ => by rw [Nat.add_sub_cancel]; exact h3)
    have : stc h low ≤ stc h (low + 1) := stc_mono h (by omega)
    omega
   ·
    rw [clsF_in h2 h3, List.length_append]
    have hr := rowS_len low (runTo h 255 low)
    have hge := runTo_ge h 255 low
    have hle := runTo_le h 255 low (by omega)
    have ih := clsF_stc h f (runTo h 255 low + 1) (by omega) (fun _ a b => by
     have := runTo_max h 255 low (by omega) (by omega) (by omega)
     rw [this] at b; cases b)
    have hs : stc h (low + 1) = stc h low + 1 := by
     show stc h low + (if _ then 1 else 0) = _
     rw [if_pos]
     rw [h3]
     by_cases g : 0 < low
     ·
      rw [h0 g h2 h3]; simp
     ·
      rw [decide_eq_false g]; rfl
    have hm : stc h (low + 1) ≤ stc h (runTo h 255 low + 1) := stc_mono h (by omega)
    omega
  ·
   have hm := stc_mono h h1
   have hc : (clsF h (f + 1) low).length = 0 := by rw [clsF_end h (f + 1) h2]; rfl
   generalize stc h 256 = z at hm ⊢
   omega
theorem rwsF_stc {s : ByteArray} : ∀ f k x y m, fits x → rwsF s f k x = some (y, m) → stc (inS y) 256 + k ≤ stc (inS x) 256 + m
 | 0, k, x, y, m, hx, h => by cases h
 | f + 1, k, x, y, m, hx, h => by
  rw [rwsF.eq_2] at h
  cases hr : rowO s k with
  | none => rw [hr] at h; cases h
  | some p =>
   obtain ⟨⟨lo, hi⟩, n⟩ := p
   rw [hr] at h
   simp only at h
   have hb := rowO_bd hr
   have h1 := stc_or (h := inS x) (g := inS (orR x lo hi)) (lo := lo) (hi := hi) (fun b hb' => inS_orR x hb' (by omega)) 256 (Nat.le_refl _)
   rw [if_pos hb.2.2.2.1] at h1
   split at h
   ·
    obtain ⟨h2, h3⟩ : orR x lo hi = y ∧ n = m := by simpa using h
    subst h2 h3
    generalize stc (inS (orR x lo hi)) 256 = z1 at *
    generalize stc (inS x) 256 = z2 at *
    omega
   ·
    have := rwsF_stc f n _ y m (orR_fits hx lo hi) h
    generalize stc (inS (orR x lo hi)) 256 = z1 at *
    generalize stc (inS x) 256 = z2 at *
    generalize stc (inS y) 256 = z3 at *
    omega
theorem inS_notR {x : Set4} {b : Nat} (hb : b < 256) (hx : fits x) : inS (notR x) b = !inS x b := inSet_not _ _ _ _ _ hb hx.1 hx.2.1 hx.2.2.1 hx.2.2.2
theorem stc_zero : stc (inS set0) 256 = 0 := by decide +kernel
/-- A class is written with no more than nine bytes for each of its own. -/
theorem cls_cost {s : ByteArray} {i m : Nat} {x : Set4} (h : clsO s (i : Int) = some (x, m)) : i < m ∧ (classS (inS x)).data.toList.length + 2 ≤ 9 * (m - i) := by
 unfold clsO at h
 have hlen : (classS (inS x)).data.toList.length ≤ 9 * stc (inS x) 256 + 2 := by
  rw [cls_data, List.length_cons, List.length_append]
  have := clsF_stc (inS x) 257 0 (by omega) (fun g => by omega)
  rw [show stc (inS x) 0 = 0 from rfl] at this
  generalize stc (inS x) 256 = z at *
  simp only [List.length_cons, List.length_nil]; omega
 split at h
 ·
  generalize standB s ((i : Int) + 1) 94 = o at h
  cases hr : rwsF s (s.size + 1) ((i : Int).toNat + 1 + (if o = true then 1 else 0)) set0 with
  | none => rw [hr] at h; cases h
  | some p =>
   obtain ⟨y, n⟩ := p
   rw [hr] at h
   have h1 := rwsF_fits _ _ _ _ _ fits0 hr
   have h2 := rwsF_stc _ _ _ _ _ fits0 hr
   rw [Int.toNat_natCast] at h1 h2
   rw [stc_zero] at h2
   simp only [endR] at h
   split at h
   ·
    cases h
   ·
    obtain ⟨h3, h4⟩ : finR o y = x ∧ n + 1 = m := by simpa using h
    subst h3 h4
    cases o
    ·
     have h5 : stc (inS (finR false y)) 256 = stc (inS y) 256 := rfl
     rw [if_neg (by decide)] at h1 h2
     rw [h5] at hlen
     generalize stc (inS y) 256 = z at *
     omega
    ·
     have h5 := stc_not (h := inS y) (g := inS (finR true y)) (fun b hb => inS_notR hb h1.1) 256 (Nat.le_refl _) (by omega)
     rw [if_pos rfl] at h1 h2
     generalize stc (inS (finR true y)) 256 = z1 at *
     generalize stc (inS y) 256 = z2 at *
     split at h5 <;> split at h5 <;> omega
 ·
  cases h
/-- A literal of n bytes is told in n bytes at least, and its quotes. -/
theorem sign_cost {s : ByteArray} {a m : Nat} {u : ByteArray} (h : signO s a = some (u, m)) : u.size ≤ 4 ∧ a + 2 ≤ m := by
 have h1 := signO_bd h
 refine ⟨h1.2.2, ?_⟩
 unfold signO at h
 split at h
 ·
  rename_i g
  obtain ⟨-, rfl⟩ : _ ∧ a + hexN s a 6 + 1 = m := by simpa using h
  omega
 ·
  cases h
theorem one_szq (c : Int) : (strOfNums [c]).size = 1 := rfl
theorem esc_cost {s : ByteArray} {k m : Nat} {sp u : ByteArray} (h : escO s k sp = some (u, m)) : u.size + k ≤ m := by
 unfold escO at h
 split at h
 ·
  split at h
  ·
   obtain ⟨rfl, rfl⟩ : (⟨#[10]⟩ : ByteArray) = u ∧ k + 1 = m := by simpa using h
   show 1 + k ≤ _; omega
  ·
   split at h
   ·
    obtain ⟨rfl, rfl⟩ : (⟨#[9]⟩ : ByteArray) = u ∧ k + 1 = m := by simpa using h
    show 1 + k ≤ _; omega
   ·
    split at h
    ·
     obtain ⟨rfl, rfl⟩ : strOfNums [byt s k] = u ∧ k + 1 = m := by simpa using h
     rw [one_szq]; omega
    ·
     split at h
     ·
      split at h
      ·
       obtain ⟨rfl, rfl⟩ : strOfNums [valN s (k + 1) 2] = u ∧ k + 3 = m := by simpa using h
       rw [one_szq]; omega
      ·
       cases h
     ·
      split at h
      ·
       have := sign_cost h; omega
      ·
       cases h
 ·
  cases h
theorem read_cost {s : ByteArray} {k m : Nat} {sp u : ByteArray} (h : readO s k sp = some (u, m)) : u.size + k ≤ m := by
 unfold readO at h
 split at h
 ·
  split at h
  ·
   obtain ⟨rfl, rfl⟩ : strOfNums [byt s k] = u ∧ k + 1 = m := by simpa using h
   rw [one_szq]; omega
  ·
   split at h
   ·
    have := esc_cost h; omega
   ·
    cases h
 ·
  cases h
theorem txtF_cost {s : ByteArray} : ∀ f k out u m, txtF s f k out = some (u, m) → u.size + k + 1 ≤ out.size + m
 | 0, k, out, u, m => fun h => by cases h
 | f + 1, k, out, u, m => fun h => by
  rw [txtF.eq_2] at h
  split at h
  ·
   split at h
   ·
    split at h
    ·
     cases h
    ·
     obtain ⟨rfl, rfl⟩ : out = u ∧ k + 1 = m := by simpa using h
     omega
   ·
    cases hr : readO s k spT with
    | none => rw [hr] at h; cases h
    | some p =>
     obtain ⟨v, n⟩ := p
     rw [hr] at h
     have h1 := read_cost hr
     have h2 := txtF_cost f n _ u m h
     rw [ByteArray.size_append] at h2
     omega
  ·
   cases h
theorem txt_cost {s : ByteArray} {i m : Nat} {u : ByteArray} (h : txtO s (i : Int) = some (u, m)) : u.size + 2 + i ≤ m := by
 unfold txtO at h
 split at h
 ·
  have := txtF_cost _ _ _ _ _ h
  rw [Int.toNat_natCast] at this
  have e : (⟨#[]⟩ : ByteArray).size = 0 := rfl
  omega
 ·
  cases h
end Go.Proofs.Ytonknapfndaalaa

namespace Go.Proofs.Ytonknapfndaalaa
set_option linter.unusedVariables false
set_option maxRecDepth 1000000
open Go.RowKit Ex
/-- What may be, at each of its levels. -/
def wfs : Nat → Ex → Bool
 | 0, _ => true
 | n + 1, x => ownX x && x.kids.all (wfs n)
def OkX (x : Ex) : Prop := ∀ n, wfs n x = true
theorem OkX.list {o : Int} {t : ByteArray} {a b c d : Int} {K : List Ex} (h : ownX (.mk o t a b c d K) = true) (hK : ∀ y ∈ K, OkX y) : OkX (.mk o t a b c d K) := fun n => by
 cases n with
 | zero => rfl
 | succ n => unfold wfs; rw [h, Bool.true_and]; exact List.all_eq_true.2 fun y hy => hK y hy n
def fit9 : Nat → Ex → Prop
 | 0, _ => False
 | n + 1, x => ∀ y ∈ x.kids, fit9 n y
theorem OkX.all {x : Ex} (h : OkX x) : ∀ n, fit9 n x → allX n x = true := fun n => by
 induction n generalizing x with
 | zero => intro g; exact g.elim
 | succ n ih =>
  intro g
  have h1 := h (n + 1)
  unfold wfs at h1
  rw [Bool.and_eq_true] at h1
  rw [allX_succ, h1.1, Bool.true_and]
  exact List.all_eq_true.2 fun y hy => ih (fun m => by
   have h2 := h (m + 1)
   unfold wfs at h2
   rw [Bool.and_eq_true] at h2
   exact List.all_eq_true.1 h2.2 y hy) (g y hy)
/-- How many bytes a token is written with, and two more. -/
def cost (t : Tok) : Nat := (if t.kd = 2 then (textS t.tx).data.toList.length else if t.kd = 3 then (classS (inS t.st)).data.toList.length else t.tx.size) + 2
section
variable {L : List Tok}
/-- The cost of the tokens ahead of k. -/
def cu (L : List Tok) : Nat → Nat
 | 0 => 0
 | k + 1 => cu L k + cost (tkA L k)
theorem cu_sg {k : Nat} {s : List UInt8} (h : isS L k s = true) : cu L (k + 1) = cu L k + s.length + 2 := by
 unfold isS at h
 rw [Bool.and_eq_true, beq_iff_eq, beq_iff_eq] at h
 show cu L k + cost (tkA L k) = _
 unfold cost
 rw [h.1, if_neg (by decide), if_neg (by decide), ← h.2, size_list]; omega
/-- A token that may be. -/
def OkT (t : Tok) : Prop := (t.kd = 2 → 1 ≤ t.tx.size ∧ t.tx.size ≤ 40) ∧ (t.kd = 3 → fits t.st ∧ t.st ≠ set0)
theorem okT_at (hL : ∀ t ∈ L, OkT t) (k : Nat) : OkT (tkA L k) := by
 unfold tkA
 rw [List.getD_eq_getElem?_getD]
 cases h : L[k]? with
 | none => exact ⟨fun g => absurd g (by decide), fun g => absurd g (by decide)⟩
 | some t => exact hL t (List.mem_of_getElem? h)
/-- What is read: it may be, and with what it is written within something that binds so closely. -/
def Bdc (L : List Tok) (lv : Int) (x : Ex) (k m : Nat) : Prop := OkX x ∧ ∀ n, (prX n x).length + (if cloX x.op < lv then 2 else 0) + 1 + cu L k ≤ cu L m
def Rbc (L : List Tok) (lv : Int) (r : Rs) (k : Nat) : Prop := ∀ x m, r = .ok (x, m) → Bdc L lv x k m
theorem Rbc.err {lv : Int} {k : Nat} (e : Int × Int) : Rbc L lv (.error e) k := fun x m h => by cases h
theorem Rbc.ok {lv : Int} {k m : Nat} {x : Ex} (h : Bdc L lv x k m) : Rbc L lv (.ok (x, m)) k := fun y n e => by
 obtain ⟨rfl, rfl⟩ : x = y ∧ m = n := by simpa using e
 exact h
theorem Bdc.less {lv lw : Int} {x : Ex} {k m : Nat} (h : Bdc L lv x k m) (hl : lw ≤ lv) : Bdc L lw x k m := ⟨h.1, fun n => by
 have := h.2 n
 by_cases g : cloX x.op < lw
 ·
  rw [if_pos (show cloX x.op < lv by omega)] at this; rw [if_pos g]; exact this
 ·
  rw [if_neg g]; split at this <;> omega⟩
theorem Bdc.leaf {x : Ex} {k m : Nat} (hx : ownX x = true) (hk : x.kids = []) (h4 : cloX x.op = 4) (hn : ∀ n, (prX (n + 1) x).length + 1 + cu L k ≤ cu L m) : Bdc L 4 x k m := by
 refine ⟨?_, fun n => ?_⟩
 ·
  obtain ⟨o, t, a, b, c, d, K⟩ := x
  obtain rfl : K = [] := hk
  exact OkX.list hx (fun y hy => absurd hy List.not_mem_nil)
 ·
  rw [if_neg (by omega)]
  cases n with
  | zero => have := hn 0; show 0 + 0 + 1 + _ ≤ _; omega
  | succ n => have := hn n; omega
theorem kd_len {n : Nat} {o : Int} {y : Ex} : (kdX (prX n) o y).length ≤ (prX n y).length + (if cloX y.op < cloX o + 1 then 2 else 0) := by
 unfold kdX parX
 by_cases g : cloX y.op ≤ cloX o
 ·
  rw [decide_eq_true g, if_pos rfl, if_pos (by omega)]; simp
 ·
  rw [decide_eq_false g, if_neg (by decide), if_neg (by omega)]; exact Nat.le_refl _
theorem kd_ge {n : Nat} {o : Int} {y : Ex} : (prX n y).length + (if cloX y.op < cloX o then 2 else 0) ≤ (kdX (prX n) o y).length := by
 unfold kdX parX
 by_cases g : cloX y.op ≤ cloX o
 ·
  rw [decide_eq_true g, if_pos rfl, List.length_cons, List.length_append]; simp only [List.length_cons, List.length_nil]; split <;> omega
 ·
  rw [decide_eq_false g, if_neg (show ¬ cloX y.op < cloX o by omega), if_neg (show ¬ (false = true) by decide)]; exact Nat.le_refl _
/-- An operation with one part. -/
theorem Bdc.one {o : Int} {t : ByteArray} {y : Ex} {k j i m : Nat} (ho : o = 6 ∨ o = 7 ∨ o = 8 ∨ o = 9 ∨ o = 10 ∨ o = 12 ∨ o = 13) (hx : ownX (.mk o t 0 0 0 0 [y]) = true) (hy : Bdc L (cloX o + 1) y j i)
  (hc : (beW o t).length + (afW o).length + cu L k + cu L i ≤ cu L m + cu L j) : Bdc L (cloX o) (.mk o t 0 0 0 0 [y]) k m := by
 refine ⟨OkX.list hx (fun z hz => by rw [List.mem_singleton.1 hz]; exact hy.1), fun n => ?_⟩
 show _ + (if cloX o < cloX o then 2 else 0) + 1 + _ ≤ _
 rw [if_neg (by omega)]
 cases n with
 | zero => have := hy.2 0; show 0 + 0 + 1 + _ ≤ _; omega
 | succ n =>
  rw [prX_one n o t y ho, List.length_append, List.length_append]
  have h1 := kd_len (n := n) (o := o) (y := y)
  have h2 := hy.2 n
  omega
theorem ownX_leaf {o : Int} {t : ByteArray} (h : textB o t = true) (ho : o = 1 ∨ o = 3 ∨ o = 11) : ownX (leafX o t) = true := by
 show (textB o t && kidsB o 0 && !((o == 2) == zB 0 0 0 0)) = true
 rw [h]
 rcases ho with rfl | rfl | rfl <;> rfl
theorem ownX_one {o : Int} {t : ByteArray} {y : Ex} (h : textB o t = true) (ho : o = 6 ∨ o = 7 ∨ o = 8 ∨ o = 9 ∨ o = 10 ∨ o = 12 ∨ o = 13) : ownX (.mk o t 0 0 0 0 [y]) = true := by
 show (textB o t && kidsB o 1 && !((o == 2) == zB 0 0 0 0)) = true
 rw [h]
 rcases ho with rfl | rfl | rfl | rfl | rfl | rfl | rfl <;> rfl
theorem text_nil {o : Int} (h : o ≠ 1 ∧ o ≠ 11 ∧ o ≠ 12) : textB o ⟨#[]⟩ = true := by
 unfold textB
 rw [if_neg h.1, if_neg h.2.1, if_neg h.2.2, isEmpty_size]; rfl
theorem no58 {t : ByteArray} (h : wordB t = true) : ∀ x ∈ t.data.toList, x ≠ 58 := fun x hx e => by
 obtain ⟨-, c, l, e1, -, hl⟩ := word_bytes h
 rw [e1] at hx
 have := hl x hx
 rw [e] at this
 exact absurd this (by decide)
theorem text_word {t : ByteArray} (h : wordB t = true) : textB 11 t = true := by
 have hg : ¬ 0 ≤ Lib.index t.data.toList [58, 58] := fun g => by
  obtain ⟨i, hi⟩ : ∃ i : Nat, Lib.index t.data.toList [58, 58] = (i : Int) := ⟨_, (Int.toNat_of_nonneg g).symm⟩
  obtain ⟨r, hr⟩ := List.isPrefixOf_iff_prefix.1 (index_at hi)
  have h1 : (58 : UInt8) ∈ t.data.toList.drop i := by rw [← hr]; simp
  exact no58 h 58 (List.mem_of_mem_drop h1) rfl
 have hc : (cutS t).2.2 = false := by unfold cutS Lib.cut; rw [if_neg hg]
 rw [textB_11]
 unfold splitB
 rw [hc, if_neg (by decide)]
 exact h
theorem text_ref {t u : ByteArray} (h : wordB t = true) (g : wordB u = true) : textB 11 (t ++ (⟨#[58, 58]⟩ : ByteArray) ++ u) = true := by
 have hd : (t ++ (⟨#[58, 58]⟩ : ByteArray) ++ u).data.toList = t.data.toList ++ (58 :: 58 :: u.data.toList) := by
  rw [ByteArray.data_append, ByteArray.data_append]
  simp only [Array.toList_append]
  simp
 have hi : Lib.index (t ++ (⟨#[58, 58]⟩ : ByteArray) ++ u).data.toList [58, 58] = (t.data.toList.length : Int) := by
  rw [hd]
  refine Lib.index_first (by rw [List.length_append]; omega) ?_ (fun j hj => ?_)
  ·
   unfold Lib.occAt
   rw [List.drop_left]; rfl
  ·
   unfold Lib.occAt
   rw [List.drop_append_of_le_length (by omega), List.drop_eq_getElem_cons hj, List.cons_append]
   have := no58 h _ (List.getElem_mem hj)
   show ((58 : UInt8) == _ && _) = false
   rw [beq_eq_false_iff_ne.2 (fun e => this e.symm)]; rfl
 have hc : cutS (t ++ (⟨#[58, 58]⟩ : ByteArray) ++ u) = (t.data.toList, u.data.toList, true) := by
  unfold cutS Lib.cut
  rw [hi, if_pos (Int.natCast_nonneg _), Int.toNat_natCast, hd, List.take_left]
  show (t.data.toList, (t.data.toList ++ (58 :: 58 :: u.data.toList)).drop (t.data.toList.length + 2), true) = _
  rw [← List.drop_drop, List.drop_left]; rfl
 rw [textB_11]
 unfold splitB
 rw [hc, if_pos rfl]
 show (wordB (ofL t.data.toList) && wordB (ofL u.data.toList)) = true
 rw [ofL_self, ofL_self, h, g]; rfl
theorem refO_cs (k : Nat) (hkd : (tkA L k).kd = 1) : Rbc L 4 (refO L k) k := by
 have hcost : cu L (k + 1) = cu L k + (tkA L k).tx.size + 2 := by
  show cu L k + cost (tkA L k) = _
  unfold cost; rw [hkd, if_neg (by decide), if_neg (by decide)]; omega
 unfold refO
 split
 ·
  rename_i h1
  split
  ·
   rename_i h58
   split
   ·
    rename_i h2
    rw [Bool.and_eq_true, beq_iff_eq] at h2
    have c2 := cu_sg h58
    have c3 : cu L (k + 3) = cu L (k + 2) + (tkA L (k + 2)).tx.size + 2 := by
     show cu L (k + 2) + cost (tkA L (k + 2)) = _
     unfold cost; rw [h2.1, if_neg (by decide), if_neg (by decide)]; omega
    have hsz : ((tkA L k).tx ++ (⟨#[58, 58]⟩ : ByteArray) ++ (tkA L (k + 2)).tx).size = (tkA L k).tx.size + 2 + (tkA L (k + 2)).tx.size := by
     rw [ByteArray.size_append, ByteArray.size_append]; rfl
    refine Rbc.ok (Bdc.leaf (ownX_leaf (text_ref h1 h2.2) (by decide)) rfl rfl fun n => ?_)
    have e : prX (n + 1) (leafX 11 ((tkA L k).tx ++ (⟨#[58, 58]⟩ : ByteArray) ++ (tkA L (k + 2)).tx)) = ((tkA L k).tx ++ (⟨#[58, 58]⟩ : ByteArray) ++ (tkA L (k + 2)).tx).data.toList := by simp [prX, leafX, Ex.op, Ex.text]
    rw [e, size_list, hsz]
    simp only [List.length_cons, List.length_nil] at c2
    rw [show k + 1 + 1 = k + 2 from rfl] at c2
    omega
   ·
    exact Rbc.err _
  ·
   refine Rbc.ok (Bdc.leaf (ownX_leaf (text_word h1) (by decide)) rfl rfl fun n => ?_)
   have e : prX (n + 1) (leafX 11 (tkA L k).tx) = (tkA L k).tx.data.toList := by simp [prX, leafX, Ex.op, Ex.text]
   rw [e, size_list]
   omega
 ·
  exact Rbc.err _
theorem primO_cs (hL : ∀ t ∈ L, OkT t) {X : Nat → Rs} {big : Bool} (hX : ∀ j, Rbc L 0 (X j) j) (k : Nat) : Rbc L 4 (primO L X big k) k := by
 have hk := okT_at hL k
 unfold primO
 split
 ·
  rename_i h2
  refine Rbc.ok (Bdc.leaf (ownX_leaf ?_ (by decide)) rfl rfl fun n => ?_)
  ·
   have := hk.1 h2
   unfold textB
   rw [if_pos rfl, isEmpty_size, decide_eq_false (by omega), decide_eq_true (by omega)]; rfl
  ·
   have e : prX (n + 1) (leafX 1 (tkA L k).tx) = (textS (tkA L k).tx).data.toList := by simp [prX, leafX, Ex.op, Ex.text]
   rw [e]
   show _ ≤ cu L k + cost (tkA L k)
   unfold cost; rw [if_pos h2]; omega
 split
 ·
  rename_i h2 h3
  have hs := hk.2 h3
  refine Rbc.ok (Bdc.leaf ?_ rfl rfl fun n => ?_)
  ·
   show (textB 2 ⟨#[]⟩ && kidsB 2 0 && !(((2 : Int) == 2) == zB ((tkA L k).st.1 : Int) ((tkA L k).st.2.1 : Int) ((tkA L k).st.2.2.1 : Int) ((tkA L k).st.2.2.2 : Int))) = true
   rw [text_nil (by decide), show kidsB 2 0 = true from rfl]
   cases hz : zB ((tkA L k).st.1 : Int) ((tkA L k).st.2.1 : Int) ((tkA L k).st.2.2.1 : Int) ((tkA L k).st.2.2.2 : Int)
   ·
    rfl
   ·
    exfalso
    obtain ⟨z1, z2, z3, z4⟩ := z_of hz
    apply hs.2
    generalize (tkA L k).st = st at *
    obtain ⟨a, b, c, d⟩ := st
    simp only [Int.natCast_eq_zero] at z1 z2 z3 z4
    subst z1 z2 z3 z4; rfl
  ·
   have e : prX (n + 1) (.mk 2 ⟨#[]⟩ ((tkA L k).st.1 : Int) ((tkA L k).st.2.1 : Int) ((tkA L k).st.2.2.1 : Int) ((tkA L k).st.2.2.2 : Int) []) = (classS (inS (tkA L k).st)).data.toList := by simp [prX, Ex.op]; rfl
   rw [e]
   show _ ≤ cu L k + cost (tkA L k)
   unfold cost; rw [if_neg h2, if_pos h3]; omega
 split
 ·
  rename_i h1
  exact refO_cs k h1
 split
 ·
  rename_i h46
  have c1 := cu_sg h46
  refine Rbc.ok (Bdc.leaf (ownX_leaf (text_nil (by decide)) (by decide)) rfl rfl fun n => ?_)
  have e : prX (n + 1) (leafX 3 ⟨#[]⟩) = [46] := by simp [prX, leafX, Ex.op]
  rw [e, c1]; simp only [List.length_cons, List.length_nil]; omega
 split
 ·
  rename_i h40
  have c1 := cu_sg h40
  split
  ·
   exact Rbc.err _
  ·
   cases hx : X (k + 1) with
   | error e => exact Rbc.err e
   | ok p =>
    obtain ⟨x, m⟩ := p
    show Rbc L 4 (if isS L m [41] = true then _ else _) k
    split
    ·
     rename_i h41
     have c2 := cu_sg h41
     have h := hX _ _ _ hx
     refine Rbc.ok ⟨h.1, fun n => ?_⟩
     have := h.2 n
     have hp := (clo_one (o := x.op)).2
     rw [if_neg (by omega)] at this
     simp only [List.length_cons, List.length_nil] at c1 c2
     split <;> omega
    ·
     exact Rbc.err _
 ·
  exact Rbc.err _
theorem sufO_cs (hL : ∀ t ∈ L, OkT t) {X : Nat → Rs} {big : Bool} (hX : ∀ j, Rbc L 0 (X j) j) (k : Nat) : Rbc L 3 (sufO L X big k) k := by
 unfold sufO
 cases hp : primO L X big k with
 | error e => exact Rbc.err e
 | ok p =>
  obtain ⟨x, m⟩ := p
  have h1 := primO_cs hL hX k x m hp
  show Rbc L 3 (if isS L m [42] = true then _ else if isS L m [43] = true then _ else if isS L m [63] = true then _ else _) k
  split
  ·
   rename_i h
   have c := cu_sg h
   refine Rbc.ok (Bdc.one (o := 6) (by decide) (ownX_one (text_nil (by decide)) (by decide)) h1 ?_)
   simp only [List.length_cons, List.length_nil] at c
   rw [show (beW 6 ⟨#[]⟩).length = 0 from rfl, show (afW 6).length = 1 from rfl]; omega
  split
  ·
   rename_i h
   have c := cu_sg h
   refine Rbc.ok (Bdc.one (o := 7) (by decide) (ownX_one (text_nil (by decide)) (by decide)) h1 ?_)
   simp only [List.length_cons, List.length_nil] at c
   rw [show (beW 7 ⟨#[]⟩).length = 0 from rfl, show (afW 7).length = 1 from rfl]; omega
  split
  ·
   rename_i h
   have c := cu_sg h
   refine Rbc.ok (Bdc.one (o := 8) (by decide) (ownX_one (text_nil (by decide)) (by decide)) h1 ?_)
   simp only [List.length_cons, List.length_nil] at c
   rw [show (beW 8 ⟨#[]⟩).length = 0 from rfl, show (afW 8).length = 1 from rfl]; omega
  ·
   exact Rbc.ok (h1.less (by decide))
theorem Rbc.kid {o : Int} {t : ByteArray} {k j : Nat} {r : Rs} (ho : o = 9 ∨ o = 10 ∨ o = 12) (ht : textB o t = true) (h : Rbc L 3 r j) (hc : (beW o t).length + cu L k ≤ cu L j) : Rbc L 2 (mapX (fun e => .mk o t 0 0 0 0 [e]) r) k := by
 cases r with
 | error e => exact Rbc.err e
 | ok p =>
  obtain ⟨x, m⟩ := p
  refine Rbc.ok ?_
  have h1 := h x m rfl
  rcases ho with rfl | rfl | rfl
  ·
   exact Bdc.one (o := 9) (by decide) (ownX_one ht (by decide)) h1 (by rw [show (afW 9).length = 0 from rfl]; omega)
  ·
   exact Bdc.one (o := 10) (by decide) (ownX_one ht (by decide)) h1 (by rw [show (afW 10).length = 0 from rfl]; omega)
  ·
   exact Bdc.one (o := 12) (by decide) (ownX_one ht (by decide)) h1 (by rw [show (afW 12).length = 0 from rfl]; omega)
theorem preO_cs (hL : ∀ t ∈ L, OkT t) {X : Nat → Rs} {big : Bool} (hX : ∀ j, Rbc L 0 (X j) j) (k : Nat) : Rbc L 2 (preO L X big k) k := by
 have hS := sufO_cs (big := big) hL hX
 unfold preO
 split
 ·
  rename_i h
  have c := cu_sg h
  simp only [List.length_cons, List.length_nil] at c
  exact Rbc.kid (o := 9) (by decide) (text_nil (by decide)) (hS (k + 1)) (by rw [show (beW 9 ⟨#[]⟩).length = 1 from rfl]; omega)
 split
 ·
  rename_i h
  have c := cu_sg h
  simp only [List.length_cons, List.length_nil] at c
  exact Rbc.kid (o := 10) (by decide) (text_nil (by decide)) (hS (k + 1)) (by rw [show (beW 10 ⟨#[]⟩).length = 1 from rfl]; omega)
 split
 ·
  rename_i h
  have c := cu_sg h
  simp only [List.length_cons, List.length_nil] at c
  cases hp : sufO L X big (k + 1) with
  | error e => exact Rbc.err e
  | ok p =>
   obtain ⟨x, m⟩ := p
   have h1 := hS (k + 1) x m hp
   show Rbc L 2 (if isS L m [126] = true then _ else _) k
   split
   ·
    rename_i h2
    have c2 := cu_sg h2
    simp only [List.length_cons, List.length_nil] at c2
    exact Rbc.ok (Bdc.one (o := 13) (by decide) (ownX_one (text_nil (by decide)) (by decide)) h1 (by rw [show (beW 13 ⟨#[]⟩).length = 1 from rfl, show (afW 13).length = 1 from rfl]; omega))
   ·
    exact Rbc.err _
 split
 ·
  rename_i h
  simp only [Bool.and_eq_true, beq_iff_eq] at h
  have c2 := cu_sg h.2
  simp only [List.length_cons, List.length_nil] at c2
  have c1 : cu L (k + 1) = cu L k + (tkA L k).tx.size + 2 := by
   show cu L k + cost (tkA L k) = _
   unfold cost; rw [h.1.1, if_neg (by decide), if_neg (by decide)]; omega
  split
  ·
   rename_i hw
   exact Rbc.kid (o := 12) (by decide) hw (hS (k + 2)) (by
    rw [show (beW 12 (tkA L k).tx).length = (tkA L k).tx.size + 1 by show ((tkA L k).tx.data.toList ++ [58]).length = _; rw [List.length_append, size_list]; rfl]
    rw [show k + 1 + 1 = k + 2 from rfl] at c2
    omega)
  ·
   exact Rbc.err _
 ·
  exact fun x m e => (hS k x m e).less (by decide)
/-- What parts of a row, or a choice, are written with, and one more each. -/
def sumK (o : Int) (n : Nat) (K : List Ex) : Nat := (K.map (fun y => (kdX (prX n) o y).length + 1)).sum
theorem lsL_cs {o : Int} {e k0 : Nat} {c : Nat → Bool} {nx : Nat → Rs} (hn : ∀ j x m, c j = true → nx j = .ok (x, m) → OkX x ∧ ∀ n, (kdX (prX n) o x).length + 1 + e + cu L j ≤ cu L m) :
  ∀ (f : Nat) (A K : List Ex) (k m : Nat), (∀ x ∈ A, OkX x) → 1 ≤ A.length → (∀ n, sumK o n A + e * (A.length - 1) + cu L k0 ≤ cu L k) → lsL c nx f A k = .ok (K, m) →
  (∀ x ∈ K, OkX x) ∧ 1 ≤ K.length ∧ ∀ n, sumK o n K + e * (K.length - 1) + cu L k0 ≤ cu L m
 | 0, A, K, k, m, hx, h1, hs, h => by
  simp [lsL] at h
  obtain ⟨rfl, rfl⟩ := h
  exact ⟨hx, h1, hs⟩
 | f + 1, A, K, k, m, hx, h1, hs, h => by
  unfold lsL at h
  split at h
  ·
   rename_i hc
   cases hq : nx k with
   | error e => simp [hq] at h
   | ok p =>
    obtain ⟨x, n1⟩ := p
    simp only [hq] at h
    obtain ⟨g1, g2⟩ := hn k x n1 hc hq
    refine lsL_cs hn f _ K n1 m (fun y hy => ?_) (by simp) (fun n => ?_) h
    ·
     rw [List.mem_append, List.mem_singleton] at hy
     rcases hy with hy | rfl
     ·
      exact hx y hy
     ·
      exact g1
    ·
     have e1 := hs n
     have e2 := g2 n
     obtain ⟨a, ha⟩ : ∃ a, A.length = a + 1 := ⟨A.length - 1, by omega⟩
     have e3 : sumK o n (A ++ [x]) = sumK o n A + ((kdX (prX n) o x).length + 1) := by unfold sumK; simp
     rw [e3, List.length_append, ha, List.length_cons, List.length_nil]
     rw [ha, Nat.add_sub_cancel] at e1
     rw [show a + 1 + (0 + 1) - 1 = a + 1 by omega, Nat.mul_succ]
     omega
  ·
   simp at h
   obtain ⟨rfl, rfl⟩ := h
   exact ⟨hx, h1, hs⟩
theorem tail_len (s : List UInt8) : ∀ (r : List (List UInt8)), (Lib.joinTail s r).length = (r.map (fun y => y.length + s.length)).sum
 | [] => rfl
 | y :: r => by
  have ih := tail_len s r
  unfold Lib.joinTail at ih ⊢
  simp only [List.map_cons, List.flatten_cons, List.length_append, List.sum_cons, ih]; omega
theorem row_len {o : Int} (ho : o = 4 ∨ o = 5) (n : Nat) (y : Ex) (K : List Ex) : (prX (n + 1) (.mk o ⟨#[]⟩ 0 0 0 0 (y :: K))).length + 1 = sumK o n (y :: K) + ((sepX o).length - 1) * K.length := by
 rw [prX_row n o y K ho, List.length_append, tail_len]
 have h1 : 1 ≤ (sepX o).length := by rcases ho with rfl | rfl <;> decide
 have key : ∀ (K : List Ex), ((K.map (kdX (prX n) o)).map (fun y => y.length + (sepX o).length)).sum = sumK o n K + ((sepX o).length - 1) * K.length := fun K => by
  induction K with
  | nil => rfl
  | cons z K ih =>
   unfold sumK at ih ⊢
   simp only [List.map_cons, List.sum_cons, List.length_cons, ih, Nat.mul_succ]; omega
 rw [key]
 unfold sumK
 simp only [List.map_cons, List.sum_cons]; omega
theorem lsO_cs {o : Int} {e k0 n0 : Nat} {c : Nat → Bool} {nx : Nat → Rs} {r : Rs} (ho : o = 4 ∨ o = 5) (he : (sepX o).length ≤ e + 1) (hn : ∀ j x m, c j = true → nx j = .ok (x, m) → Bdc L (cloX o + 1) x (j + (if o = 5 then 1 else 0)) m) (hce : ∀ j, c j = true → cu L j + e ≤ cu L (j + (if o = 5 then 1 else 0))) (hr : Rbc L (cloX o + 1) r k0) :
  Rbc L (cloX o) (endX o (lsO c n0 nx r)) k0 := by
 cases r with
 | error er => exact Rbc.err er
 | ok p =>
  obtain ⟨x, m⟩ := p
  have h0 := hr x m rfl
  show Rbc L (cloX o) (endX o (lsL c nx n0 [x] m)) k0
  cases hl : lsL c nx n0 [x] m with
  | error er => exact Rbc.err er
  | ok p =>
   obtain ⟨K, m2⟩ := p
   obtain ⟨g1, g2, g3⟩ := lsL_cs (L := L) (o := o) (e := e) (k0 := k0) (fun j y m' hc hq => by
     have h1 := hn j y m' hc hq
     have h2 := hce j hc
     refine ⟨h1.1, fun n => ?_⟩
     have h3 := h1.2 n
     have h4 := kd_len (n := n) (o := o) (y := y)
     omega) n0 [x] K m m2 (fun y hy => by rw [List.mem_singleton.1 hy]; exact h0.1) (by simp) (fun n => by
     have h3 := h0.2 n
     have h4 := kd_len (n := n) (o := o) (y := x)
     unfold sumK
     simp only [List.map_cons, List.map_nil, List.sum_cons, List.sum_nil, List.length_cons, List.length_nil]
     rw [show 0 + 1 - 1 = 0 from rfl, Nat.mul_zero]
     omega) hl
   refine Rbc.ok ?_
   by_cases e1 : K.length = 1
   ·
    obtain ⟨y, rfl⟩ := List.length_eq_one_iff.1 e1
    refine ⟨g1 y (List.mem_singleton.2 rfl), fun n => ?_⟩
    have h5 := g3 n
    have h6 := kd_ge (n := n) (o := o) (y := y)
    unfold sumK at h5
    simp only [List.map_cons, List.map_nil, List.sum_cons, List.sum_nil, List.length_cons, List.length_nil] at h5
    show (prX n y).length + (if cloX y.op < cloX o then 2 else 0) + 1 + _ ≤ _
    omega
   ·
    rw [oneX_many e1]
    match K, g1, g2, g3, e1 with
    | y :: z :: K, g1, _, g3, _ =>
     refine ⟨OkX.list ?_ g1, fun n => ?_⟩
     ·
      show (textB o ⟨#[]⟩ && kidsB o (K.length + 2) && !((o == 2) == zB 0 0 0 0)) = true
      rcases ho with rfl | rfl
      ·
       rw [text_nil (by decide), show kidsB 4 (K.length + 2) = true by unfold kidsB; rw [if_neg (by decide), if_pos (by decide)]; exact decide_eq_true (by omega)]; rfl
      ·
       rw [text_nil (by decide), show kidsB 5 (K.length + 2) = true by unfold kidsB; rw [if_neg (by decide), if_pos (by decide)]; exact decide_eq_true (by omega)]; rfl
     ·
      show _ + (if cloX o < cloX o then 2 else 0) + 1 + _ ≤ _
      rw [if_neg (by omega)]
      have h3 := g3 (n - 1)
      cases n with
      | zero => have := g3 0; unfold sumK at this; simp only [List.map_cons, List.sum_cons] at this; show 0 + 0 + 1 + _ ≤ _; omega
      | succ n =>
       have h4 := row_len ho n y (z :: K)
       have h5 := g3 n
       have h6 : ((sepX o).length - 1) * (z :: K).length ≤ e * ((y :: z :: K).length - 1) := by
        rw [List.length_cons (a := y), Nat.add_sub_cancel]
        exact Nat.mul_le_mul_right _ (by omega)
       omega
theorem exO_cs (hL : ∀ t ∈ L, OkT t) : ∀ d k, Rbc L 0 (exO L d k) k := by
 have step : ∀ (X : Nat → Rs) (b : Bool) (k : Nat), (∀ j, Rbc L 0 (X j) j) → Rbc L 0 (chO L (seqO L (preO L X b)) k) k := fun X b k hX => by
  have hp := preO_cs (big := b) hL hX
  have hs : ∀ j, Rbc L 1 (seqO L (preO L X b) j) j := fun j => by
   rw [seqO_ls]
   exact lsO_cs (o := 4) (e := 0) (by decide) (by decide) (fun i x m _ hq => hp i x m hq) (fun i _ => Nat.le_refl _) (hp j)
  rw [chO_ls]
  refine lsO_cs (o := 5) (e := 3) (by decide) (by decide) (fun i x m _ hq => hs (i + 1) x m hq) (fun i hc => ?_) (hs k)
  have := cu_sg hc
  rw [if_pos rfl, this]; simp only [List.length_cons, List.length_nil]; omega
 intro d
 induction d with
 | zero => exact fun k => step _ _ k fun j => Rbc.err _
 | succ d ih => exact fun k => step _ _ k ih
end
end Go.Proofs.Ytonknapfndaalaa

namespace Go.Proofs.Ytonknapfndaalaa
set_option linter.unusedVariables false
set_option maxRecDepth 1000000
open Go.RowKit Ex
/-- A token may be, and is written with no more than nine bytes for each of its own. -/
theorem tk_cost {s : ByteArray} {p m : Nat} {t : Tok} (hp : p < s.size) (h : tkO s p = some (t, m)) : OkT t ∧ cost t + 9 * p ≤ 9 * m := by
 unfold tkO at h
 split at h
 ·
  rename_i hl
  split at h
  ·
   rename_i h12
   obtain ⟨rfl, rfl⟩ : (⟨1, s.extract p (p + nmO s p), set0, p⟩ : Tok) = t ∧ p + nmO s p = m := by simpa using h
   refine ⟨⟨fun g => absurd g (by decide : (1 : Nat) ≠ 2), fun g => absurd g (by decide : (1 : Nat) ≠ 3)⟩, ?_⟩
   have hn : 1 ≤ nmO s p := by
    unfold nmO
    obtain ⟨f, hf⟩ : ∃ f, s.size = f + 1 := ⟨s.size - 1, by omega⟩
    rw [hf]
    unfold runB
    rw [if_pos ⟨hp, by unfold innB; rw [hl]; rfl⟩]; omega
   have hs : (s.extract p (p + nmO s p)).size ≤ nmO s p := by rw [ByteArray.size_extract]; omega
   show (s.extract p (p + nmO s p)).size + 2 + 9 * p ≤ _
   omega
  ·
   cases h
 split at h
 ·
  cases hq : txtO s (p : Int) with
  | none => rw [hq] at h; cases h
  | some q =>
   obtain ⟨u, n⟩ := q
   rw [hq] at h
   obtain ⟨rfl, rfl⟩ : (⟨2, u, set0, p⟩ : Tok) = t ∧ n = m := by simpa [txtK] using h
   have h1 := txtO_res hq
   have h2 := txt_cost hq
   have h3 := textS_len u
   refine ⟨⟨fun _ => ⟨h1.2.2.2.1, h1.2.2.2.2⟩, fun g => absurd g (by decide : (2 : Nat) ≠ 3)⟩, ?_⟩
   show (textS u).data.toList.length + 2 + 9 * p ≤ _
   omega
 split at h
 ·
  cases hq : clsO s (p : Int) with
  | none => rw [hq] at h; cases h
  | some q =>
   obtain ⟨x, n⟩ := q
   rw [hq] at h
   obtain ⟨rfl, rfl⟩ : (⟨3, ⟨#[]⟩, x, p⟩ : Tok) = t ∧ n = m := by simpa [clsK] using h
   have h1 := clsO_res hq
   have h2 := cls_cost hq
   refine ⟨⟨fun g => absurd g (by decide : (3 : Nat) ≠ 2), fun _ => ⟨h1.2.2.2.1, h1.2.2.2.2⟩⟩, ?_⟩
   show (classS (inS x)).data.toList.length + 2 + 9 * p ≤ _
   omega
 split at h
 ·
  cases h
 ·
  rename_i hg
  obtain ⟨rfl, rfl⟩ : (⟨4, s.extract p (p + sgO s p), set0, p⟩ : Tok) = t ∧ p + sgO s p = m := by simpa using h
  refine ⟨⟨fun g => absurd g (by decide : (4 : Nat) ≠ 2), fun g => absurd g (by decide : (4 : Nat) ≠ 3)⟩, ?_⟩
  have hs : (s.extract p (p + sgO s p)).size ≤ sgO s p := by rw [ByteArray.size_extract]; omega
  show (s.extract p (p + sgO s p)).size + 2 + 9 * p ≤ _
  omega
def costs (L : List Tok) : Nat := (L.map cost).sum
theorem skF_le {s : ByteArray} : ∀ f k, k ≤ skF s f k
 | 0, k => Nat.le_refl _
 | f + 1, k => by
  unfold skF
  split
  ·
   split
   ·
    have := skF_le (s := s) f (k + 1); omega
   ·
    split
    ·
     have := skF_le (s := s) f (k + ntO s k); omega
    ·
     exact Nat.le_refl _
  ·
   exact Nat.le_refl _
/-- The tokens of a text: each may be; together they are written with no more than nine bytes for each of the text's. -/
theorem all_cost {s : ByteArray} : ∀ (f k : Nat) (L : List Tok), k ≤ s.size → allF s f k = .ok L → (∀ t ∈ L, OkT t) ∧ costs L + 9 * k ≤ 9 * s.size + 2
 | 0, k, L, hk, h => by cases h
 | f + 1, k, L, hk, h => by
  rw [allF.eq_2] at h
  cases hn : nextO s k with
  | none => rw [hn] at h; cases h
  | some p =>
   obtain ⟨t, m⟩ := p
   rw [hn] at h
   simp only at h
   have hb := nextO_bd hn
   split at h
   ·
    rename_i h0
    obtain rfl : [t] = L := by simpa using h
    have ht := (hb.2.2 h0).2
    subst ht
    refine ⟨fun u hu => ?_, ?_⟩
    ·
     rw [List.mem_singleton.1 hu]
     exact ⟨fun g => absurd g (by decide : (0 : Nat) ≠ 2), fun g => absurd g (by decide : (0 : Nat) ≠ 3)⟩
    ·
     show 0 + 2 + 0 + 9 * k ≤ _; omega
   ·
    rename_i h0
    have h1 := hb.2.1 h0
    have hlt : skO s k < s.size := by omega
    have ht : tkO s (skO s k) = some (t, m) := by
     unfold nextO at hn
     rw [if_neg (by omega)] at hn
     exact hn
    have h2 := tk_cost hlt ht
    have h3 : k ≤ skO s k := skF_le _ _
    cases hr : allF s f m with
    | error e => rw [hr] at h; cases h
    | ok M =>
     rw [hr] at h
     obtain rfl : t :: M = L := by simpa using h
     obtain ⟨g1, g2⟩ := all_cost f m M hb.1 hr
     refine ⟨fun u hu => ?_, ?_⟩
     ·
      rcases List.mem_cons.1 hu with rfl | hu
      ·
       exact h2.1
      ·
       exact g1 u hu
     ·
      have e : costs (t :: M) = cost t + costs M := by unfold costs; simp
      rw [e]
      omega
theorem cu_le (L : List Tok) : ∀ (m : Nat), m ≤ L.length → cu L m ≤ costs L := by
 have key : ∀ (L M : List Tok) (m : Nat), m ≤ L.length → cu (L ++ M) m = costs (L.take m) := fun L M m => by
  induction m with
  | zero => intro _; rfl
  | succ m ih =>
   intro hm
   have h1 := ih (by omega)
   show cu (L ++ M) m + cost (tkA (L ++ M) m) = _
   rw [h1]
   have h2 : tkA (L ++ M) m = L[m]'(by omega) := by
    unfold tkA
    rw [List.getD_eq_getElem?_getD, List.getElem?_append_left (by omega), List.getElem?_eq_getElem (by omega)]; rfl
   rw [h2, List.take_succ_eq_append_getElem (by omega)]
   unfold costs
   rw [List.map_append, List.sum_append]
   simp only [List.map_cons, List.map_nil, List.sum_cons, List.sum_nil, Nat.add_zero]
 intro m hm
 have h1 := key L [] m hm
 rw [List.append_nil] at h1
 rw [h1]
 unfold costs
 have h2 : (L.map cost).sum = ((L.take m).map cost).sum + ((L.drop m).map cost).sum := by rw [← List.sum_append, ← List.map_append, List.take_append_drop]
 omega
/-- What is read of a text: it may be, and is written with no more than nine bytes for each of the text's. -/
theorem rd_cost {s : ByteArray} {L : List Tok} {d m : Nat} {x : Ex} (hL : allO s = .ok L) (hx : exO L d 0 = .ok (x, m)) (hm : m ≤ L.length) : OkX x ∧ ∀ n, (prX n x).length ≤ 9 * s.size + 1 := by
 obtain ⟨h1, h2⟩ := all_cost _ _ _ (Nat.zero_le _) hL
 obtain ⟨h3, h4⟩ := exO_cs h1 d 0 x m hx
 refine ⟨h3, fun n => ?_⟩
 have h5 := h4 n
 have h6 := cu_le L m hm
 rw [show cu L 0 = 0 from rfl] at h5
 omega
end Go.Proofs.Ytonknapfndaalaa
