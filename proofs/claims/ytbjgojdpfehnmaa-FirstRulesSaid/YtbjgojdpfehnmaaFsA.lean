/- First bytes: sets over a grammar's nodes, by rule. Math alone. -/
import Derived.Test.YtbjgojdpfehnmaaGdC
namespace Go.Proofs.Ytbjgojdpfehnmaa
set_option linter.unusedVariables false
open Go.RowKit Go.Sort
def orS (x y : Set4) : Set4 := (x.1 ||| y.1, x.2.1 ||| y.2.1, x.2.2.1 ||| y.2.2.1, x.2.2.2 ||| y.2.2.2)
def fullS : Set4 := (18446744073709551615, 18446744073709551615, 18446744073709551615, 18446744073709551615)
def litS (t : ByteArray) : Set4 := (withW 0 (byt t 0).toNat 0, withW 0 (byt t 0).toNat 1, withW 0 (byt t 0).toNat 2, withW 0 (byt t 0).toNat 3)
def nodS (x : Nj) : Set4 := (x.s0.toNat, x.s1.toNat, x.s2.toNat, x.s3.toNat)
/-- The sets of some nodes together; of a row up to the first one that takes something. -/
def orL (cut : Bool) (NU : Nat → Bool) (M : Nat → Set4) : List Nat → Set4 → Set4
 | [], s => s
 | k :: r, s => if (cut && !NU k) = true then orS s (M k) else orL cut NU M r (orS s (M k))
/-- The rule of the first bytes. -/
def begB (gr : Gj) (NU : Nat → Bool) (M : Nat → Set4) (n : Nat) : Set4 := match gr.ns[n]? with
 | none => set0
 | some x => if x.op = 1 then litS x.tx else if x.op = 2 then nodS x else if x.op = 3 ∨ x.op = 13 then fullS else if x.op = 9 ∨ x.op = 10 then set0 else if x.op = 11 then M (bodyG gr n) else orL (x.op == 4) NU M x.ks set0
def setS (M : Nat → Set4) (n : Nat) (s : Set4) : Nat → Set4 := fun j => if j = n then s else M j
def passS (R : (Nat → Set4) → Nat → Set4) : Nat → Nat → (Nat → Set4) → Bool → (Nat → Set4) × Bool
 | 0, _, M, z => (M, z)
 | k + 1, n, M, z => if R M n = M n then passS R k (n + 1) M z else passS R k (n + 1) (setS M n (R M n)) true
def leastS (R : (Nat → Set4) → Nat → Set4) (N : Nat) : Nat → (Nat → Set4) → (Nat → Set4)
 | 0, M => M
 | f + 1, M => match passS R N 0 M false with
  | (M', true) => leastS R N f M'
  | (M', false) => M'
def firG (gr : Gj) : Nat → Set4 := leastS (begB gr (nulG gr)) gr.ns.length (256 * gr.ns.length + 1) (fun _ => set0)
def leS (x y : Set4) : Prop := orS x y = y
theorem leS.refl (x : Set4) : leS x x := by unfold leS orS; simp
theorem or_tri {a b c : Nat} (h1 : a ||| b = b) (h2 : b ||| c = c) : a ||| c = c := by rw [← h2, ← Nat.or_assoc, h1]
theorem leS.words {x y : Set4} (h : leS x y) : x.1 ||| y.1 = y.1 ∧ x.2.1 ||| y.2.1 = y.2.1 ∧ x.2.2.1 ||| y.2.2.1 = y.2.2.1 ∧ x.2.2.2 ||| y.2.2.2 = y.2.2.2 := by
 unfold leS orS at h
 have h1 := congrArg (·.1) h
 have h2 := congrArg (·.2.1) h
 have h3 := congrArg (·.2.2.1) h
 have h4 := congrArg (·.2.2.2) h
 exact ⟨h1, h2, h3, h4⟩
theorem leS.of {x y : Set4} (h1 : x.1 ||| y.1 = y.1) (h2 : x.2.1 ||| y.2.1 = y.2.1) (h3 : x.2.2.1 ||| y.2.2.1 = y.2.2.1) (h4 : x.2.2.2 ||| y.2.2.2 = y.2.2.2) : leS x y := by
 unfold leS orS
 rw [h1, h2, h3, h4]
theorem leS.trans {x y z : Set4} (h1 : leS x y) (h2 : leS y z) : leS x z := by
 obtain ⟨a1, a2, a3, a4⟩ := h1.words
 obtain ⟨b1, b2, b3, b4⟩ := h2.words
 exact leS.of (or_tri a1 b1) (or_tri a2 b2) (or_tri a3 b3) (or_tri a4 b4)
theorem or_mid {a b c d : Nat} (h1 : a ||| c = c) (h2 : b ||| d = d) : (a ||| b) ||| (c ||| d) = c ||| d := by
 rw [Nat.or_assoc, ← Nat.or_assoc b c d, Nat.or_comm b c, Nat.or_assoc c b d, h2, ← Nat.or_assoc, h1]
theorem leS.or {x y x' y' : Set4} (h1 : leS x x') (h2 : leS y y') : leS (orS x y) (orS x' y') := by
 obtain ⟨a1, a2, a3, a4⟩ := h1.words
 obtain ⟨b1, b2, b3, b4⟩ := h2.words
 exact leS.of (or_mid a1 b1) (or_mid a2 b2) (or_mid a3 b3) (or_mid a4 b4)
theorem leS.left (x y : Set4) : leS x (orS x y) := leS.of (by show x.1 ||| (x.1 ||| y.1) = _; rw [← Nat.or_assoc, Nat.or_self]; rfl) (by show x.2.1 ||| (x.2.1 ||| y.2.1) = _; rw [← Nat.or_assoc, Nat.or_self]; rfl) (by show x.2.2.1 ||| (x.2.2.1 ||| y.2.2.1) = _; rw [← Nat.or_assoc, Nat.or_self]; rfl) (by show x.2.2.2 ||| (x.2.2.2 ||| y.2.2.2) = _; rw [← Nat.or_assoc, Nat.or_self]; rfl)
theorem orS_comm (x y : Set4) : orS x y = orS y x := by unfold orS; rw [Nat.or_comm x.1, Nat.or_comm x.2.1, Nat.or_comm x.2.2.1, Nat.or_comm x.2.2.2]
theorem leS.right (x y : Set4) : leS y (orS x y) := by rw [orS_comm]; exact leS.left y x
theorem leS.anti {x y : Set4} (h1 : leS x y) (h2 : leS y x) : x = y := by
 unfold leS at h1 h2
 rw [← h2, orS_comm, h1]
theorem orS_fits {x y : Set4} (hx : fits x) (hy : fits y) : fits (orS x y) := ⟨or_lt hx.1 hy.1, or_lt hx.2.1 hy.2.1, or_lt hx.2.2.1 hy.2.2.1, or_lt hx.2.2.2 hy.2.2.2⟩
theorem set0_le (x : Set4) : leS set0 x := leS.of (Nat.zero_or _) (Nat.zero_or _) (Nat.zero_or _) (Nat.zero_or _)
theorem orS_zero (x : Set4) : orS set0 x = x := set0_le x
theorem fullS_fits : fits fullS := ⟨by decide, by decide, by decide, by decide⟩
theorem litS_fits (t : ByteArray) : fits (litS t) := ⟨withW_lt (by decide), withW_lt (by decide), withW_lt (by decide), withW_lt (by decide)⟩
theorem orL_ge {cut : Bool} {NU : Nat → Bool} {M : Nat → Set4} : ∀ (L : List Nat) (s : Set4), leS s (orL cut NU M L s)
 | [], s => leS.refl s
 | k :: r, s => by
  unfold orL
  split
  ·
   exact leS.left _ _
  ·
   exact (leS.left s (M k)).trans (orL_ge r _)
theorem orL_head {cut : Bool} {NU : Nat → Bool} {M : Nat → Set4} (k : Nat) (r : List Nat) (s : Set4) : leS (M k) (orL cut NU M (k :: r) s) := by
 unfold orL
 split
 ·
  exact leS.right _ _
 ·
  exact (leS.right s (M k)).trans (orL_ge r _)
theorem orL_mono {cut : Bool} {NU : Nat → Bool} {M M' : Nat → Set4} (h : ∀ j, leS (M j) (M' j)) : ∀ (L : List Nat) (s s' : Set4), leS s s' → leS (orL cut NU M L s) (orL cut NU M' L s')
 | [], s, s', hs => hs
 | k :: r, s, s', hs => by
  unfold orL
  split
  ·
   exact hs.or (h k)
  ·
   exact orL_mono h r _ _ (hs.or (h k))
theorem orL_all {cut : Bool} {NU : Nat → Bool} {M : Nat → Set4} : ∀ (L : List Nat) (s : Set4), leS (orL cut NU M L s) (orL false NU M L s)
 | [], s => leS.refl s
 | k :: r, s => by
  have e : orL false NU M (k :: r) s = orL false NU M r (orS s (M k)) := by
   rw [orL]
   exact if_neg (by simp)
  rw [e, orL]
  split
  ·
   exact orL_ge r _
  ·
   exact orL_all r _
theorem orL_fits {cut : Bool} {NU : Nat → Bool} {M : Nat → Set4} (h : ∀ j, fits (M j)) : ∀ (L : List Nat) (s : Set4), fits s → fits (orL cut NU M L s)
 | [], s, hs => hs
 | k :: r, s, hs => by
  unfold orL
  split
  ·
   exact orS_fits hs (h k)
  ·
   exact orL_fits h r _ (orS_fits hs (h k))
/-- Sets of a grammar's nodes are sets. -/
def SetG (gr : Gj) : Prop := ∀ x ∈ gr.ns, fitI x.s0 x.s1 x.s2 x.s3 = true
theorem nodS_fits {x : Nj} (h : fitI x.s0 x.s1 x.s2 x.s3 = true) : fits (nodS x) ∧ x.s0 = ((nodS x).1 : Int) ∧ x.s1 = ((nodS x).2.1 : Int) ∧ x.s2 = ((nodS x).2.2.1 : Int) ∧ x.s3 = ((nodS x).2.2.2 : Int) := by
 obtain ⟨y, hy, h0, h1, h2, h3⟩ := fitI_out h
 have e : nodS x = y := by unfold nodS; rw [h0, h1, h2, h3]; simp
 rw [e]
 exact ⟨hy, h0, h1, h2, h3⟩
theorem begB_fits {gr : Gj} (hg : SetG gr) {NU : Nat → Bool} {M : Nat → Set4} (h : ∀ j, fits (M j)) (n : Nat) : fits (begB gr NU M n) := by
 unfold begB
 cases hx : gr.ns[n]? with
 | none => exact fits0
 | some x =>
  show fits (if x.op = 1 then litS x.tx else if x.op = 2 then nodS x else if x.op = 3 ∨ x.op = 13 then fullS else if x.op = 9 ∨ x.op = 10 then set0 else if x.op = 11 then M (bodyG gr n) else orL (x.op == 4) NU M x.ks set0)
  repeat' split
  ·
   exact litS_fits _
  ·
   exact (nodS_fits (hg x (List.mem_of_getElem? hx))).1
  ·
   exact fullS_fits
  ·
   exact fits0
  ·
   exact h _
  ·
   exact orL_fits h _ _ fits0
theorem begB_mono (gr : Gj) (NU : Nat → Bool) {M M' : Nat → Set4} (h : ∀ j, leS (M j) (M' j)) (n : Nat) : leS (begB gr NU M n) (begB gr NU M' n) := by
 unfold begB
 cases hx : gr.ns[n]? with
 | none => exact leS.refl _
 | some x =>
  show leS (if x.op = 1 then litS x.tx else if x.op = 2 then nodS x else if x.op = 3 ∨ x.op = 13 then fullS else if x.op = 9 ∨ x.op = 10 then set0 else if x.op = 11 then M (bodyG gr n) else orL (x.op == 4) NU M x.ks set0) (if x.op = 1 then litS x.tx else if x.op = 2 then nodS x else if x.op = 3 ∨ x.op = 13 then fullS else if x.op = 9 ∨ x.op = 10 then set0 else if x.op = 11 then M' (bodyG gr n) else orL (x.op == 4) NU M' x.ks set0)
  repeat' split
  all_goals first | exact leS.refl _ | exact h _ | exact orL_mono h _ _ _ (leS.refl _)
/-- Below what the rule says. -/
def InvS (R : (Nat → Set4) → Nat → Set4) (M : Nat → Set4) : Prop := (∀ n, leS (M n) (R M n)) ∧ ∀ n, fits (M n)
structure Rul (R : (Nat → Set4) → Nat → Set4) : Prop where
 mono : ∀ {M M' : Nat → Set4}, (∀ j, leS (M j) (M' j)) → ∀ n, leS (R M n) (R M' n)
 fit : ∀ {M : Nat → Set4}, (∀ j, fits (M j)) → ∀ n, fits (R M n)
theorem begB_rul {gr : Gj} (hg : SetG gr) (NU : Nat → Bool) : Rul (begB gr NU) := ⟨fun h n => begB_mono gr NU h n, fun h n => begB_fits hg h n⟩
theorem InvS.set {R : (Nat → Set4) → Nat → Set4} (hR : Rul R) {M : Nat → Set4} (h : InvS R M) (n : Nat) : InvS R (setS M n (R M n)) := by
 have hle : ∀ j, leS (M j) (setS M n (R M n) j) := fun j => by
  unfold setS
  split
  ·
   next e => rw [e]; exact h.1 n
  ·
   exact leS.refl _
 refine ⟨fun j => ?_, fun j => ?_⟩
 ·
  have hm := hR.mono hle j
  by_cases e : j = n
  ·
   subst e
   have e2 : setS M j (R M j) j = R M j := by unfold setS; rw [if_pos rfl]
   rw [e2]
   exact hm
  ·
   have e2 : setS M n (R M n) j = M j := by unfold setS; rw [if_neg e]
   rw [e2]
   exact (h.1 j).trans hm
 ·
  unfold setS
  split
  ·
   exact hR.fit h.2 n
  ·
   exact h.2 j
theorem passS_inv {R : (Nat → Set4) → Nat → Set4} (hR : Rul R) : ∀ (k n : Nat) (M : Nat → Set4) (z : Bool), InvS R M → InvS R (passS R k n M z).1
 | 0, n, M, z, h => h
 | k + 1, n, M, z, h => by
  unfold passS
  split
  ·
   exact passS_inv hR k (n + 1) M z h
  ·
   exact passS_inv hR k (n + 1) _ true (h.set hR n)
def cardS (x : Set4) : Nat := card x.1 x.2.1 x.2.2.1 x.2.2.2
theorem cnt_lt {p q : Nat → Bool} : ∀ (n : Nat), (∀ b, b < n → p b = true → q b = true) → cnt p n ≤ cnt q n ∧ ((∃ b, b < n ∧ p b = false ∧ q b = true) → cnt p n < cnt q n)
 | 0, h => ⟨Nat.le_refl _, fun ⟨b, hb, _⟩ => absurd hb (Nat.not_lt_zero _)⟩
 | n + 1, h => by
  obtain ⟨h1, h2⟩ := cnt_lt n fun b hb => h b (by omega)
  have hn := h n (by omega)
  unfold cnt
  constructor
  ·
   cases hp : p n <;> cases hq : q n
   ·
    simp; exact h1
   ·
    simp; omega
   ·
    rw [hp, hq] at hn; exact absurd (hn rfl) (by decide)
   ·
    simp; omega
  ·
   rintro ⟨b, hb, hpb, hqb⟩
   by_cases e : b = n
   ·
    subst e
    rw [hpb, hqb]
    simp
    omega
   ·
    have h3 := h2 ⟨b, by omega, hpb, hqb⟩
    cases hp : p n <;> cases hq : q n
    ·
     simp; exact h3
    ·
     simp; omega
    ·
     rw [hp, hq] at hn; exact absurd (hn rfl) (by decide)
    ·
     simp; omega
theorem cardS_lt {x y : Set4} (hx : fits x) (hy : fits y) (h : leS x y) (hne : x ≠ y) : cardS x < cardS y := by
 unfold cardS
 rw [card_cnt, card_cnt]
 have hin : ∀ b, b < 256 → inS y b = (inS x b || inS y b) := fun b hb => by
  have h2 := inSet_or x.1 x.2.1 x.2.2.1 x.2.2.2 y.1 y.2.1 y.2.2.1 y.2.2.2 b hb
  obtain ⟨a1, a2, a3, a4⟩ := h.words
  rw [a1, a2, a3, a4] at h2
  exact h2
 refine (cnt_lt 256 fun b hb hp => ?_).2 ?_
 ·
  have hp : inS x b = true := hp
  show inS y b = true
  rw [hin b hb, hp]; rfl
 ·
  refine Classical.byContradiction fun hno => hne (set_ext hx hy fun b hb => ?_)
  have := hin b hb
  cases hxb : inS x b
  ·
   cases hyb : inS y b
   ·
    rfl
   ·
    exact absurd ⟨b, hb, hxb, hyb⟩ hno
  ·
   rw [hxb] at this; rw [this]; rfl
theorem cardS_le (x : Set4) : cardS x ≤ 256 := card_le _ _ _ _
def lackS (M : Nat → Set4) : Nat → Nat
 | 0 => 0
 | n + 1 => lackS M n + (256 - cardS (M n))
theorem lackS_le (M : Nat → Set4) : ∀ n, lackS M n ≤ 256 * n
 | 0 => Nat.le_refl _
 | n + 1 => by
  have := lackS_le M n
  unfold lackS
  omega
theorem lackS_off {M : Nat → Set4} {n : Nat} {s : Set4} : ∀ N, N ≤ n → lackS (setS M n s) N = lackS M N
 | 0, _ => rfl
 | N + 1, h => by
  have e : setS M n s N = M N := by unfold setS; rw [if_neg (by omega)]
  unfold lackS
  rw [lackS_off N (by omega), e]
theorem lackS_set {M : Nat → Set4} {n : Nat} {s : Set4} (h : cardS (M n) < cardS s) : ∀ N, n < N → lackS (setS M n s) N < lackS M N
 | 0, hn => absurd hn (Nat.not_lt_zero _)
 | N + 1, hn => by
  unfold lackS
  by_cases e : n = N
  ·
   subst e
   have e2 : setS M n s n = s := by unfold setS; rw [if_pos rfl]
   rw [lackS_off n (Nat.le_refl _), e2]
   have := cardS_le s
   omega
  ·
   have e2 : setS M n s N = M N := by unfold setS; rw [if_neg (by omega)]
   have := lackS_set h N (by omega)
   rw [e2]
   omega
theorem passS_lack {R : (Nat → Set4) → Nat → Set4} (hR : Rul R) (N : Nat) : ∀ (k n : Nat) (M : Nat → Set4) (z : Bool), n + k ≤ N → InvS R M → lackS (passS R k n M z).1 N ≤ lackS M N ∧ (z = false → (passS R k n M z).2 = true → lackS (passS R k n M z).1 N < lackS M N)
 | 0, n, M, z, _, _ => ⟨Nat.le_refl _, fun h1 h2 => by
  have h2 : z = true := h2
  rw [h1] at h2; cases h2⟩
 | k + 1, n, M, z, hk, hi => by
  unfold passS
  by_cases hc : R M n = M n
  ·
   rw [if_pos hc]
   exact passS_lack hR N k (n + 1) M z (by omega) hi
  ·
   rw [if_neg hc]
   have h1 := (passS_lack hR N k (n + 1) (setS M n (R M n)) true (by omega) (hi.set hR n)).1
   have h2 := lackS_set (cardS_lt (hi.2 n) (hR.fit hi.2 n) (hi.1 n) (fun e => hc e.symm)) N (by omega)
   exact ⟨by omega, fun _ _ => by omega⟩
theorem passS_true {R : (Nat → Set4) → Nat → Set4} : ∀ (k n : Nat) (M : Nat → Set4), (passS R k n M true).2 = true
 | 0, n, M => rfl
 | k + 1, n, M => by
  unfold passS
  split
  ·
   exact passS_true k (n + 1) _
  ·
   exact passS_true k (n + 1) _
theorem passS_end {R : (Nat → Set4) → Nat → Set4} : ∀ (k n : Nat) (M : Nat → Set4), (passS R k n M false).2 = false → (passS R k n M false).1 = M ∧ ∀ j, n ≤ j → j < n + k → R M j = M j
 | 0, n, M, _ => ⟨rfl, fun j h1 h2 => by omega⟩
 | k + 1, n, M, h => by
  unfold passS at h ⊢
  by_cases hc : R M n = M n
  ·
   rw [if_pos hc] at h ⊢
   obtain ⟨h1, h2⟩ := passS_end k (n + 1) M h
   refine ⟨h1, fun j hj1 hj2 => ?_⟩
   by_cases e : j = n
   ·
    subst e; exact hc
   ·
    exact h2 j (by omega) (by omega)
  ·
   rw [if_neg hc, passS_true] at h
   cases h
theorem leastS_end {R : (Nat → Set4) → Nat → Set4} (hR : Rul R) (N : Nat) : ∀ (f : Nat) (M : Nat → Set4), lackS M N < f → InvS R M → InvS R (leastS R N f M) ∧ ∀ j, j < N → R (leastS R N f M) j = leastS R N f M j
 | 0, M, h, _ => by omega
 | f + 1, M, h, hi => by
  unfold leastS
  have h1 := passS_inv hR N 0 M false hi
  have h2 := passS_lack hR N N 0 M false (by omega) hi
  have h3 := passS_end (R := R) N 0 M
  cases hp : passS R N 0 M false with
  | mk M1 z =>
   rw [hp] at h1 h2 h3
   cases z with
   | true =>
    have h5 : lackS M1 N < lackS M N := h2.2 rfl rfl
    exact leastS_end hR N f M1 (by omega) h1
   | false =>
    obtain ⟨h4, h5⟩ := h3 rfl
    have h4 : M1 = M := h4
    subst h4
    exact ⟨h1, fun j hj => h5 j (Nat.zero_le _) (by omega)⟩
theorem inv0 (R : (Nat → Set4) → Nat → Set4) : InvS R (fun _ => set0) := ⟨fun n => set0_le _, fun n => fits0⟩
theorem firG_end {gr : Gj} (hg : SetG gr) : InvS (begB gr (nulG gr)) (firG gr) ∧ ∀ j, j < gr.ns.length → begB gr (nulG gr) (firG gr) j = firG gr j :=
 leastS_end (begB_rul hg _) gr.ns.length (256 * gr.ns.length + 1) (fun _ => set0) (by have := lackS_le (fun _ => set0) gr.ns.length; omega) (inv0 _)
theorem passS_hit {R : (Nat → Set4) → Nat → Set4} {N k : Nat} {M : Nat → Set4} {z : Bool} (hk : k < N) (h : R M k ≠ M k) : passS R (N - k) k M z = passS R (N - (k + 1)) (k + 1) (setS M k (R M k)) true := by
 rw [show N - k = (N - (k + 1)) + 1 by omega]
 show (if R M k = M k then passS R (N - (k + 1)) (k + 1) M z else passS R (N - (k + 1)) (k + 1) (setS M k (R M k)) true) = _
 exact if_neg h
theorem passS_miss {R : (Nat → Set4) → Nat → Set4} {N k : Nat} {M : Nat → Set4} {z : Bool} (hk : k < N) (h : R M k = M k) : passS R (N - k) k M z = passS R (N - (k + 1)) (k + 1) M z := by
 rw [show N - k = (N - (k + 1)) + 1 by omega]
 show (if R M k = M k then passS R (N - (k + 1)) (k + 1) M z else passS R (N - (k + 1)) (k + 1) (setS M k (R M k)) true) = _
 exact if_pos h
/-- Sets, as cells: four words each. -/
def wrdS (s : Set4) : List Value := [.int .u64 (s.1 : Int), .int .u64 (s.2.1 : Int), .int .u64 (s.2.2.1 : Int), .int .u64 (s.2.2.2 : Int)]
def rowS (M : Nat → Set4) (N : Nat) : List Value := (List.range N).flatMap (fun j => wrdS (M j))
theorem flat4 {α : Type} {f : Nat → List α} (hf : ∀ j, (f j).length = 4) : ∀ (L : List Nat) (k j : Nat), k < L.length → j < 4 → (L.flatMap f)[k * 4 + j]? = (f (L.getD k 0))[j]?
 | [], k, j, hk, hj => absurd hk (Nat.not_lt_zero _)
 | x :: L, 0, j, hk, hj => by
  rw [List.flatMap_cons, List.getElem?_append_left (by rw [hf]; omega), Nat.zero_mul, Nat.zero_add]
  rfl
 | x :: L, k + 1, j, hk, hj => by
  rw [List.flatMap_cons, List.getElem?_append_right (by rw [hf]; omega), hf, show (k + 1) * 4 + j - 4 = k * 4 + j by omega]
  exact flat4 hf L k j (by simpa using hk) hj
theorem rowS_at (M : Nat → Set4) (N k j : Nat) (h : k < N) (hj : j < 4) : (rowS M N)[k * 4 + j]? = (wrdS (M k))[j]? := by
 unfold rowS
 rw [flat4 (fun _ => rfl) _ k j (by simpa using h) hj, List.getD_eq_getElem?_getD, List.getElem?_range h]
 rfl
theorem rowS_len (M : Nat → Set4) (N : Nat) : (rowS M N).length = N * 4 := by
 unfold rowS
 induction N with
 | zero => rfl
 | succ n ih => rw [List.range_succ, List.flatMap_append, List.length_append, ih]; simp [wrdS]; omega
theorem rowS_zero (N : Nat) : rowS (fun _ => set0) N = List.replicate (N * 4) (Value.int .u64 0) := by
 apply List.ext_getElem?
 intro i
 by_cases hi : i < N * 4
 ·
  have e : i = i / 4 * 4 + i % 4 := by omega
  rw [e, rowS_at _ N _ _ (by omega) (by omega), List.getElem?_replicate, if_pos (by omega)]
  have : i % 4 = 0 ∨ i % 4 = 1 ∨ i % 4 = 2 ∨ i % 4 = 3 := by omega
  rcases this with h | h | h | h <;> rw [h] <;> rfl
 ·
  rw [List.getElem?_eq_none (by rw [rowS_len]; omega), List.getElem?_eq_none (by simp; omega)]
theorem rowS_set (M : Nat → Set4) (N n : Nat) (s : Set4) (h : n < N) : ((((rowS M N).set (n * 4) (.int .u64 (s.1 : Int))).set (n * 4 + 1) (.int .u64 (s.2.1 : Int))).set (n * 4 + 2) (.int .u64 (s.2.2.1 : Int))).set (n * 4 + 3) (.int .u64 (s.2.2.2 : Int)) = rowS (setS M n s) N := by
 apply List.ext_getElem?
 intro i
 simp only [List.getElem?_set, List.length_set, rowS_len]
 by_cases hi : i < N * 4
 ·
  have e : i = i / 4 * 4 + i % 4 := by omega
  have hr := rowS_at (setS M n s) N (i / 4) (i % 4) (by omega) (by omega)
  have hq := rowS_at M N (i / 4) (i % 4) (by omega) (by omega)
  rw [← e] at hr hq
  rw [hr]
  by_cases hin : i / 4 = n
  ·
   have e2 : setS M n s (i / 4) = s := by unfold setS; rw [if_pos hin]
   rw [e2]
   have : i % 4 = 0 ∨ i % 4 = 1 ∨ i % 4 = 2 ∨ i % 4 = 3 := by omega
   rcases this with h4 | h4 | h4 | h4
   ·
    rw [if_neg (by omega), if_neg (by omega), if_neg (by omega), if_pos (by omega), if_pos (by omega), h4]; rfl
   ·
    rw [if_neg (by omega), if_neg (by omega), if_pos (by omega), if_pos (by omega), h4]; rfl
   ·
    rw [if_neg (by omega), if_pos (by omega), if_pos (by omega), h4]; rfl
   ·
    rw [if_pos (by omega), if_pos (by omega), h4]; rfl
  ·
   have e2 : setS M n s (i / 4) = M (i / 4) := by unfold setS; rw [if_neg hin]
   rw [e2, if_neg (by omega), if_neg (by omega), if_neg (by omega), if_neg (by omega), hq]
 ·
  rw [if_neg (by omega), if_neg (by omega), if_neg (by omega), if_neg (by omega), List.getElem?_eq_none (by rw [rowS_len]; omega), List.getElem?_eq_none (by rw [rowS_len]; omega)]
end Go.Proofs.Ytbjgojdpfehnmaa
