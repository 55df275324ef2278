/- The cursor's small functions, walked: the token that comes, a sign that comes. The cursor's small functions, walked: a sign that comes is taken; the first fault. May a part of a row begin with the token that comes: walked. Names: the walk of the reference's Word. A reference, walked. A literal, a class, any byte, a reference, or what stands in parentheses, walked. What is there so often, or what stands alone, walked. How far an expression goes: past its first token, and never past the last. Laws at a step of a region that draws its order. No program in sight. Expressions that are gathered in a slice: a row, or a choice, under way, in memory; what a row and a choice are, in one form. A row, and a choice, walked. Steps of a region that draws its order, where a condition on the world is held throughout. No program in sight. What is looked ahead for, a sea, what has a label, or what stands alone, walked. What is no wider and no deeper than so; how deep an expression is, walked over it. An expression among tokens, walked, whatever stands in it; how wide and how deep it is. Blocks made one behind the other. No program in sight. What the reference reads among tokens, walked. How long the texts of an expression are that stands among tokens. -/
import Derived.Test.YtonknapfndaalaaGl
import Derived.StillTailTactics
import Derived.BigQuiet
import Derived.KernelRfl
import Derived.Test.YtonknapfndaalaaWord
import Derived.Test.YtonknapfndaalaaGe
import Derived.Deep.RegionLaw
import Derived.OrdersHeld
import Derived.Test.YtonknapfndaalaaGa
import Derived.Test.YtonknapfndaalaaChecked
import Derived.Handy
import Derived.WalkLawsBesides
namespace Go.Proofs.Ytonknapfndaalaa
set_option linter.unusedVariables false
set_option maxRecDepth 1000000
open Go.RowKit Go.Sort
end Go.Proofs.Ytonknapfndaalaa

namespace Go.Proofs.Ytonknapfndaalaa
set_option linter.unusedVariables false
set_option maxRecDepth 1000000
open Go.RowKit Go.Sort
section
variable (a p : Int) (b : ByteArray) (c d e f : Int) (w : World)
@[go_sem 2000] theorem field_tok0 : (Instr.field 48 (.agg #[.int .i64 a, .string b, .int .u64 c, .int .u64 d, .int .u64 e, .int .u64 f, .int .i64 p]) 0).run Try.prog w = .ok (.int .i64 a) w := by kernel_rfl
@[go_sem 2000] theorem field_tok1 : (Instr.field 48 (.agg #[.int .i64 a, .string b, .int .u64 c, .int .u64 d, .int .u64 e, .int .u64 f, .int .i64 p]) 1).run Try.prog w = .ok (.string b) w := by kernel_rfl
@[go_sem 2000] theorem field_tok3 : (Instr.field 48 (.agg #[.int .i64 a, .string b, .int .u64 c, .int .u64 d, .int .u64 e, .int .u64 f, .int .i64 p]) 3).run Try.prog w = .ok (.int .i64 p) w := by kernel_rfl
end
theorem Rd.below {w w' : World} {g : Nat} {lo : Option Addr} {lc : Nat} {L : List Tok} {k : Nat} {F : Option (Int × Int)} (h : Rd w g lo lc L k F) (hb : Below w.heap.size w w') : Rd w' g lo lc L k F :=
 ⟨h.1.under hb h.1.lt, h.2.1.below hb, h.2.2⟩
end Go.Proofs.Ytonknapfndaalaa

namespace Go.Proofs.Ytonknapfndaalaa
set_option linter.unusedVariables false
set_option maxRecDepth 1000000
open Go.RowKit Go.Sort
end Go.Proofs.Ytonknapfndaalaa

namespace Go.Proofs.Ytonknapfndaalaa
set_option linter.unusedVariables false
set_option maxRecDepth 1000000
open Go.RowKit Go.Sort
set_option maxHeartbeats 3200000 in
theorem rword_any (s : ByteArray) (hs : s.size ≤ maxLen) (w : World) : Calls Try.prog 51 #[.string s] w fun e w' => e = .returned (.bool (wordB s)) ∧ w = w' := by
 unfold maxLen at hs
 have HW := Lib.hid (show wordB s = (!(resB s) && allAt s s.size && decide ((s.size : Int) ≤ 12)) from rfl)
 have HR := Lib.hid (show resB s = (s.toList.isEmpty || s.toList == [109, 111, 100, 117, 108, 101] || s.toList == [105, 109, 112, 111, 114, 116] || s.toList == [119, 97, 116, 101, 114]) from rfl)
 obtain ⟨b0, h0⟩ : ∃ b0, s.toList.isEmpty = b0 := ⟨_, rfl⟩
 obtain ⟨b1, h1⟩ : ∃ b1, (s.toList == [109, 111, 100, 117, 108, 101]) = b1 := ⟨_, rfl⟩
 obtain ⟨b2, h2⟩ : ∃ b2, (s.toList == [105, 109, 112, 111, 114, 116]) = b2 := ⟨_, rfl⟩
 obtain ⟨b3, h3⟩ : ∃ b3, (s.toList == [119, 97, 116, 101, 114]) = b3 := ⟨_, rfl⟩
 have HB := Lib.hid (show resB s = (b0 || b1 || b2 || b3) by rw [HR.out, h0, h1, h2, h3])
 clear HR
 by_cases hz : (s.size : Int) ≤ 12
 ·
  by_cases hb : (b0 || b1 || b2 || b3) = true
  ·
   cases b0 <;> cases b1 <;> cases b2 <;> cases b3
   all_goals first
    | (exfalso; revert hb; decide)
    | (clear hb
       go_enter Try.func51, Try.ntmps51
       go_wp2
       go_ret
       exact ⟨ret_bool (by rw [HW.out, HB.out]; rfl), rfl⟩)
  ·
   obtain ⟨rfl, rfl, rfl, rfl⟩ : b0 = false ∧ b1 = false ∧ b2 = false ∧ b3 = false := by revert hb; cases b0 <;> cases b1 <;> cases b2 <;> cases b3 <;> decide
   clear hb
   have H0 := Lib.hid (show allAt s 0 = true from rfl)
   go_enter Try.func51, Try.ntmps51
   go_wp2
   go_loop [3] (fun i => ∃ k : Nat, k ≤ s.size ∧ i = .int .i64 k ∧ Hid (allAt s k = true)) (fun i => s.size - (intOf i).toNat)
   case atStart => exact ⟨0, Nat.zero_le _, rfl, H0⟩
   case round =>
    obtain ⟨k, hk, rfl, HA⟩ := hrel
    clear H0 h0 h1 h2 h3
    by_cases hlt : k < s.size
    ·
     obtain ⟨c, hc⟩ : ∃ c : Int, (s[k].toNat : Int) = c := ⟨_, rfl⟩
     have HC := Lib.hid (show byt s k = c by rw [byt_get hlt, hc])
     have hc0 : 0 ≤ c ∧ c ≤ 255 := by rw [← HC.out]; exact byt_lt s k
     have HN : okAt k c = false → Hid (wordB s = false) := fun h => Lib.hid (by rw [HW.out, allAt_no (k := k) (by rw [HC.out]; exact h) _ hlt]; simp)
     have HY : okAt k c = true → Hid (allAt s (k + 1) = true) := fun h => Lib.hid (by unfold allAt; rw [HA.out, HC.out, h]; rfl)
     by_cases g1 : 97 ≤ c <;> by_cases g2 : c ≤ 122 <;> by_cases g3 : 65 ≤ c <;> by_cases g4 : c ≤ 90
     all_goals try (exfalso; omega)
     all_goals
      have HL := Lib.hid (show isLet c = (decide (97 ≤ c) && decide (c ≤ 122) || decide (65 ≤ c) && decide (c ≤ 90)) from rfl)
      simp only [g1, g2, g3, g4, decide_true, decide_false, Bool.and_true, Bool.and_false, Bool.or_true, Bool.or_false] at HL
     all_goals try
      ( have H1 := HY (by unfold okAt; rw [HL.out]; rfl)
        clear HY HN
        go_wp2
        go_round
        case rel => exact ⟨k + 1, by omega, by go_num, H1⟩
        case measure => simp [intOf]; omega
        done)
     all_goals
      cases k with
      | zero =>
       have H1 := HN (by unfold okAt; rw [HL.out]; rfl)
       clear HY HN
       go_wp2
       go_ret
       exact ⟨ret_bool H1.out.symm, rfl⟩
      | succ k =>
       have hk0 : (((k + 1 : Nat) : Int) == 0) = false := by rw [beq_eq_false_iff_ne]; omega
       have hk1 : ((k : Int) + 1 == 0) = false := by rw [beq_eq_false_iff_ne]; omega
       obtain ⟨bu, hu⟩ : ∃ bu, (c != 95) = bu := ⟨_, rfl⟩
       cases bu with
       | false =>
        have hu' : (c == 95) = true := by rw [bne] at hu; revert hu; cases (c == 95) <;> simp
        have H1 := HY (by unfold okAt; rw [HL.out, hu']; simp)
        clear HY HN hu'
        go_wp2
        go_round
        case rel => exact ⟨k + 1 + 1, by omega, by go_num, H1⟩
        case measure => simp [intOf]; omega
       | true =>
        have hu' : (c == 95) = false := by rw [bne] at hu; revert hu; cases (c == 95) <;> simp
        by_cases g5 : c < 48
        ·
         first
          | (exfalso; omega)
          | (have H1 := HN (by unfold okAt isDig; rw [HL.out, hu']; simp; omega)
             clear HY HN hu'
             go_wp2
             go_ret
             exact ⟨ret_bool H1.out.symm, rfl⟩)
        ·
         by_cases g6 : 57 < c
         ·
          first
           | (exfalso; omega)
           | (have H1 := HN (by unfold okAt isDig; rw [HL.out, hu']; simp; omega)
              clear HY HN hu'
              go_wp2
              go_ret
              exact ⟨ret_bool H1.out.symm, rfl⟩)
         ·
          first
           | (exfalso; omega)
           | (have H1 := HY (by unfold okAt isDig; rw [HL.out, hu']; simp; omega)
              clear HY HN hu'
              go_wp2
              go_round
              case rel => exact ⟨k + 1 + 1, by omega, by go_num, H1⟩
              case measure => simp [intOf]; omega)
    ·
     obtain rfl : k = s.size := by omega
     go_wp2
     go_ret
     exact ⟨ret_bool (by rw [HW.out, HB.out, HA.out]; simp; omega), rfl⟩
 ·
  have HF := Lib.hid (show wordB s = false by rw [HW.out, decide_eq_false hz]; simp)
  clear HB
  cases b0
  all_goals
   go_enter Try.func51, Try.ntmps51
   go_wp2
   go_ret
   exact ⟨ret_bool HF.out.symm, rfl⟩
end Go.Proofs.Ytonknapfndaalaa

namespace Go.Proofs.Ytonknapfndaalaa
set_option linter.unusedVariables false
set_option maxRecDepth 1000000
open Go.RowKit Go.Sort
@[go_sem 2000] theorem ebuild2 (k : Int) (t : ByteArray) (w : World) : (Instr.build 28 #[(0, .int .i64 k), (1, .string t)]).run Try.prog w = .ok (.agg #[.int .i64 k, .string t, .int .u64 0, .int .u64 0, .int .u64 0, .int .u64 0, .slice none 0 0]) w := by kernel_rfl
end Go.Proofs.Ytonknapfndaalaa

namespace Go.Proofs.Ytonknapfndaalaa
set_option linter.unusedVariables false
set_option maxRecDepth 1000000
open Go.RowKit Go.Sort
@[go_sem 2000] theorem ebuildS (k a b c d : Int) (w : World) : (Instr.build 28 #[(0, .int .i64 k), (2, .agg #[.int .u64 a, .int .u64 b, .int .u64 c, .int .u64 d])]).run Try.prog w = .ok (.agg #[.int .i64 k, .string ⟨#[]⟩, .int .u64 a, .int .u64 b, .int .u64 c, .int .u64 d, .slice none 0 0]) w := by kernel_rfl
@[go_sem 2000] theorem ebuild1 (k : Int) (w : World) : (Instr.build 28 #[(0, .int .i64 k)]).run Try.prog w = .ok (.agg #[.int .i64 k, .string ⟨#[]⟩, .int .u64 0, .int .u64 0, .int .u64 0, .int .u64 0, .slice none 0 0]) w := by kernel_rfl
theorem OutQ.below {w w' : World} {g : Nat} {lo : Option Addr} {lc : Nat} {L : List Tok} {r : Rs} {D : Nat} {X : Ex} {ko : Option Addr} {w0 : World} (h : OutQ w0 g lo lc L r D X ko w) (hb : Below w.heap.size w w') : OutQ w0 g lo lc L r D X ko w' := by
 cases r with
 | ok q =>
  obtain ⟨x, m⟩ := q
  obtain ⟨h1, h2, n, h3⟩ := h
  exact ⟨h1.below hb, h2, n, HasE.but (But.of_below (S := fun _ => False) hb) (fun _ h => h.elim) h3⟩
 | error f =>
  obtain ⟨h1, k, h2⟩ := h
  exact ⟨h1, k, h2.below hb⟩
end Go.Proofs.Ytonknapfndaalaa

namespace Go.Proofs.Ytonknapfndaalaa
set_option linter.unusedVariables false
set_option maxRecDepth 1000000
open Go.RowKit Go.Sort
@[go_sem 2000] theorem ebuildK (k : Int) (A : Option Addr) (n c : Nat) (w : World) : (Instr.build 28 #[(0, .int .i64 k), (3, .slice A n c)]).run Try.prog w = .ok (.agg #[.int .i64 k, .string ⟨#[]⟩, .int .u64 0, .int .u64 0, .int .u64 0, .int .u64 0, .slice A n c]) w := by kernel_rfl
section
variable {P : Program} {Q : Exit → Act → World → Prop}
end
theorem OutQ.kid {w0 w : World} {g m B D : Nat} {lo : Option Addr} {lc : Nat} {L : List Tok} {x : Ex} {ko : Option Addr} {kc n : Nat} (op : Int) (tx : ByteArray) (H : Rd w g lo lc L m none) (hB : Own w B 28 [.int .i64 x.op, .string x.text, .int .u64 x.s0, .int .u64 x.s1, .int .u64 x.s2, .int .u64 x.s3, .slice ko x.kids.length kc]) (hD : D ≤ B) (hE : HasE w D n ko x.kids) :
  OutQ w0 g lo lc L (.ok (.mk op tx 0 0 0 0 [x], m)) D (.mk op tx 0 0 0 0 [x]) (some ⟨B, 0, none⟩) w :=
 ⟨H, rfl, n + 1, fun k y hy => by
  have hk : k = 0 := by
   have := (List.getElem?_eq_some_iff.1 hy).1
   have : k < 1 := this
   omega
  subst hk
  obtain rfl : x = y := by
   have h : ([x] : List Ex)[0]? = some y := hy
   simpa using h
  exact ⟨B, 0, ko, kc, rfl, hB.lt, hD, hB.cell 0, hB.cell 1, hB.cell 2, hB.cell 3, hB.cell 4, hB.cell 5, hB.cell 6, hE⟩⟩
end Go.Proofs.Ytonknapfndaalaa

namespace Go.Proofs.Ytonknapfndaalaa
set_option linter.unusedVariables false
set_option maxRecDepth 1000000
open Go.RowKit Go.Sort
def Bd (L : List Tok) (k : Nat) (r : Rs) : Prop := ∀ x m, r = .ok (x, m) → k < m ∧ m ≤ L.length
theorem Bd.err {L : List Tok} {k : Nat} (e : Int × Int) : Bd L k (.error e) := fun x m h => by cases h
theorem Bd.ok {L : List Tok} {k n : Nat} {x : Ex} (h : k < n) (h' : n ≤ L.length) : Bd L k (.ok (x, n)) := fun y m e => by
 obtain ⟨rfl, rfl⟩ : x = y ∧ n = m := by simpa using e
 exact ⟨h, h'⟩
theorem Bd.low {L : List Tok} {k k' : Nat} {r : Rs} (h : Bd L k r) (hk : k' ≤ k) : Bd L k' r := fun x m e => ⟨by have := (h x m e).1; omega, (h x m e).2⟩
theorem Bd.map {L : List Tok} {k : Nat} {r : Rs} {f : Ex → Ex} (h : Bd L k r) : Bd L k (mapX f r) := by
 cases r with
 | error e => exact Bd.err e
 | ok p =>
  obtain ⟨x, m⟩ := p
  exact Bd.ok (h x m rfl).1 (h x m rfl).2
end Go.Proofs.Ytonknapfndaalaa

namespace Go.Proofs.Ytonknapfndaalaa
set_option linter.unusedVariables false
set_option maxRecDepth 1000000
open Go.RowKit
/-- A slice that owns an element is no nil. -/
theorem Win.has {S : Nat → Prop} {e : TypeId} {size n : Nat} {w : World} {v : Value} {xs : List Value} (h : Win S e size w v n xs) (hn : 0 < n) : ∃ g off cap, v = .slice (some ⟨g, off, none⟩) n cap ∧ S g ∧ n ≤ cap ∧ g < w.heap.size := by
 obtain ⟨h1, h2⟩ := h
 rcases h2 with ⟨rfl, rfl⟩ | ⟨g, off, cap, cur, rfl, hg, hh, hn, r⟩
 ·
  omega
 ·
  exact ⟨g, off, cap, rfl, hg, hn, lt_of_block hh⟩
end Go.Proofs.Ytonknapfndaalaa

namespace Go.Proofs.Ytonknapfndaalaa
set_option linter.unusedVariables false
set_option maxRecDepth 1000000
open Go.RowKit Go.Sort
/-- Expressions in memory, in blocks of R. -/
def HasP (w : World) (R : Nat → Prop) : Nat → Option Addr → List Ex → Prop
 | 0, _, K => K = []
 | n + 1, ao, K => ∀ (k : Nat) (x : Ex), K[k]? = some x → ∃ b off ko kc, ao = some ⟨b, off, none⟩ ∧ b < w.heap.size ∧ R b ∧
   w.cell? ⟨b, off + k * 7, none⟩ = some (.int .i64 x.op) ∧ w.cell? ⟨b, off + k * 7 + 1, none⟩ = some (.string x.text) ∧
   w.cell? ⟨b, off + k * 7 + 2, none⟩ = some (.int .u64 x.s0) ∧ w.cell? ⟨b, off + k * 7 + 3, none⟩ = some (.int .u64 x.s1) ∧
   w.cell? ⟨b, off + k * 7 + 4, none⟩ = some (.int .u64 x.s2) ∧ w.cell? ⟨b, off + k * 7 + 5, none⟩ = some (.int .u64 x.s3) ∧
   w.cell? ⟨b, off + k * 7 + 6, none⟩ = some (.slice ko x.kids.length kc) ∧ HasP w R n ko x.kids
theorem HasP.but {S R : Nat → Prop} {w w' : World} (hb : But S w w') (hS : ∀ j, j < w.heap.size → R j → ¬ S j) : ∀ {n : Nat} {ao : Option Addr} {K : List Ex}, HasP w R n ao K → HasP w' R n ao K
 | 0, _, _, h => h
 | n + 1, ao, K, h => fun k x hx => by
  obtain ⟨b, off, ko, kc, e, hlt, hr, c0, c1, c2, c3, c4, c5, c6, hk⟩ := h k x hx
  have hn : ¬ S b := hS b hlt hr
  exact ⟨b, off, ko, kc, e, Nat.lt_of_lt_of_le hlt hb.size, hr, hb.cell hn c0, hb.cell hn c1, hb.cell hn c2, hb.cell hn c3, hb.cell hn c4, hb.cell hn c5, hb.cell hn c6, HasP.but hb hS hk⟩
theorem HasP.mono {R T : Nat → Prop} {w : World} (hR : ∀ b, b < w.heap.size → R b → T b) : ∀ {n : Nat} {ao : Option Addr} {K : List Ex}, HasP w R n ao K → HasP w T n ao K
 | 0, _, _, h => h
 | n + 1, ao, K, h => fun k x hx => by
  obtain ⟨b, off, ko, kc, e, hlt, hr, c0, c1, c2, c3, c4, c5, c6, hk⟩ := h k x hx
  exact ⟨b, off, ko, kc, e, hlt, hR b hlt hr, c0, c1, c2, c3, c4, c5, c6, HasP.mono hR hk⟩
theorem HasP.more {R : Nat → Prop} {w : World} : ∀ {n : Nat} {ao : Option Addr} {K : List Ex}, HasP w R n ao K → HasP w R (n + 1) ao K
 | 0, ao, K, h => fun k x hx => by
  have h : K = [] := h
  subst h; simp at hx
 | n + 1, ao, K, h => fun k x hx => by
  obtain ⟨b, off, ko, kc, e, hlt, hne, c0, c1, c2, c3, c4, c5, c6, hk⟩ := h k x hx
  exact ⟨b, off, ko, kc, e, hlt, hne, c0, c1, c2, c3, c4, c5, c6, HasP.more hk⟩
abbrev Zx := Ex × Option Addr × Nat
def xrow (z : Zx) : List Value := [.int .i64 z.1.op, .string z.1.text, .int .u64 z.1.s0, .int .u64 z.1.s1, .int .u64 z.1.s2, .int .u64 z.1.s3, .slice z.2.1 z.1.kids.length z.2.2]
/-- The slice v holds the expressions K, in a row from D on; if G, what is within them lies from D on as well, in no block of that row. -/
def XS (G : Prop) (w : World) (D : Nat) (v : Value) (K : List Ex) : Prop :=
 ∃ (R S : Nat → Prop) (Z : List Zx) (n : Nat), (∀ b, R b ∨ S b → D ≤ b ∧ b < w.heap.size) ∧ (∀ b, R b → ¬ S b) ∧ Z.map (·.1) = K ∧
  Win S 28 7 w v Z.length (Z.flatMap xrow) ∧ (G → ∀ z ∈ Z, HasP w R n z.2.1 z.1.kids)
theorem XS.keep {G : Prop} {w w' : World} {D : Nat} {v : Value} {K : List Ex} {U : Nat → Prop} (h : XS G w D v K) (hb : But U w w') (hU : ∀ b, U b → b < D) : XS G w' D v K := by
 obtain ⟨R, S, Z, n, h1, h2, h3, h4, h5⟩ := h
 refine ⟨R, S, Z, n, fun b hb' => ⟨(h1 b hb').1, Nat.lt_of_lt_of_le (h1 b hb').2 hb.size⟩, h2, h3, h4.keep hb fun g _ hs hu => ?_, fun hG z hz => (h5 hG z hz).but hb fun g _ hr hu => ?_⟩
 ·
  have := hU g hu; have := (h1 g (.inr hs)).1; omega
 ·
  have := hU g hu; have := (h1 g (.inl hr)).1; omega
theorem XS.below {G : Prop} {w w' : World} {D : Nat} {v : Value} {K : List Ex} (h : XS G w D v K) (hb : Below w.heap.size w w') : XS G w' D v K :=
 h.keep (U := fun _ => False) (But.of_below hb) fun _ h => h.elim
/-- One expression, in a row of its own. -/
theorem XS.first {G : Prop} {w : World} {D B n : Nat} {x : Ex} {ko : Option Addr} {kc : Nat} (hB : Own w B 28 (xrow (x, ko, kc))) (hD : D ≤ B) (hE : G → HasP w (fun b => D ≤ b ∧ b < B) n ko x.kids) : XS G w D (.slice (some ⟨B, 0, none⟩) 1 1) [x] := by
 refine ⟨fun b => D ≤ b ∧ b < B, fun b => b = B, [(x, ko, kc)], n, ?_, fun b h e => by omega, rfl, ⟨rfl, .inr ⟨B, 0, 1, _, rfl, rfl, hB, Nat.le_refl _, by unfold maxLen; omega, by simp [xrow], ?_⟩⟩, fun hG z hz => ?_⟩
 ·
  intro b hb
  have := hB.lt
  rcases hb with hb | hb
  ·
   omega
  ·
   omega
 ·
  simp [xrow]
 ·
  rw [List.mem_singleton] at hz
  subst hz
  exact hE hG
def endX (op : Int) : Except (Int × Int) (List Ex × Nat) → Rs
 | .error e => .error e
 | .ok (K, m) => .ok (oneX op K, m)
def LsEnd (RS : Except (Int × Int) (List Ex × Nat)) (K : List Ex) (k : Nat) : Option (Int × Int) → Prop
 | none => RS = .ok (K, k)
 | some e => e.1 ≠ 0 ∧ RS = .error e
theorem OutQ.ends {w w9 : World} {g lc D k : Nat} {lo : Option Addr} {L : List Tok} {RS : Except (Int × Int) (List Ex × Nat)} {K : List Ex} {F : Option (Int × Int)} {op : Int} {ko : Option Addr} (hR : Rd w9 g lo lc L k F) (hF : LsEnd RS K k F)
  (hE : F = none → ∃ n, HasE w9 D n ko (oneX op K).kids) : OutQ w g lo lc L (endX op RS) D (oneX op K) ko w9 := by
 cases F with
 | none =>
  have hF : RS = .ok (K, k) := hF
  subst hF
  exact ⟨hR, rfl, hE rfl⟩
 | some e =>
  have hF2 : RS = .error e := hF.2
  subst hF2
  exact ⟨hF.1, k, hR⟩
end Go.Proofs.Ytonknapfndaalaa

namespace Go.Proofs.Ytonknapfndaalaa
set_option linter.unusedVariables false
set_option maxRecDepth 1000000
open Go.RowKit Go.Sort
end Go.Proofs.Ytonknapfndaalaa

namespace Go.Proofs.Ytonknapfndaalaa
set_option linter.unusedVariables false
set_option maxRecDepth 1000000
section
variable {P : Program} {ops : Array Oper} {Q : Exit → Act → World → Prop} {md : Region.Mode} {S : World → Prop}
end
end Go.Proofs.Ytonknapfndaalaa

namespace Go.Proofs.Ytonknapfndaalaa
set_option linter.unusedVariables false
set_option maxRecDepth 1000000
open Go.RowKit Go.Sort
@[go_sem 2000] theorem ebuildL (k : Int) (t : ByteArray) (A : Option Addr) (n c : Nat) (w : World) : (Instr.build 28 #[(0, .int .i64 k), (1, .string t), (3, .slice A n c)]).run Try.prog w = .ok (.agg #[.int .i64 k, .string t, .int .u64 0, .int .u64 0, .int .u64 0, .int .u64 0, .slice A n c]) w := by kernel_rfl
end Go.Proofs.Ytonknapfndaalaa

namespace Go.Proofs.Ytonknapfndaalaa
set_option linter.unusedVariables false
set_option maxRecDepth 1000000
open Go.RowKit Go.Sort
/-- M kids at most at each place, n levels at most. -/
def fit (M : Nat) : Nat → Ex → Bool
 | 0, _ => false
 | n + 1, x => decide (x.kids.length ≤ M) && x.kids.all (fit M n)
theorem fit_kid {M n : Nat} {x y : Ex} (h : fit M (n + 1) x = true) {k : Nat} (hy : x.kids[k]? = some y) : fit M n y = true := by
 unfold fit at h
 rw [Bool.and_eq_true] at h
 exact List.all_eq_true.1 h.2 y (List.mem_of_getElem? hy)
theorem fit_len {M n : Nat} {x : Ex} (h : fit M n x = true) : x.kids.length ≤ M := by
 cases n with
 | zero => cases h
 | succ n =>
  unfold fit at h
  rw [Bool.and_eq_true, decide_eq_true_eq] at h
  exact h.1
theorem fit_more {M : Nat} : ∀ {n m : Nat} {x : Ex}, fit M n x = true → n ≤ m → fit M m x = true
 | 0, m, x, h, _ => by cases h
 | n + 1, 0, x, h, hm => by omega
 | n + 1, m + 1, x, h, hm => by
  unfold fit at h ⊢
  rw [Bool.and_eq_true] at h ⊢
  exact ⟨h.1, List.all_eq_true.2 fun y hy => fit_more (List.all_eq_true.1 h.2 y hy) (by omega)⟩
theorem HasK.fit {M : Nat} {w : World} : ∀ {n m : Nat} {x : Ex} {ao : Option Addr}, fit M n x = true → HasK w m ao x.kids → HasK w n ao x.kids
 | 0, m, x, ao, h, _ => by cases h
 | n + 1, 0, x, ao, h, hk => by
  have h0 : x.kids = [] := hk
  rw [h0]; exact HasK.nil _ _ _
 | n + 1, m + 1, x, ao, h, hk => fun k y hy => by
  obtain ⟨g, off, ko, kc, e, hg, c0, c1, c2, c3, c4, c5, c6, hr⟩ := hk k y hy
  exact ⟨g, off, ko, kc, e, hg, c0, c1, c2, c3, c4, c5, c6, HasK.fit (fit_kid h hy) hr⟩
set_option maxHeartbeats 1600000 in
theorem rdeepf_any (M : Nat) (hM : M ≤ 90001) : ∀ (n : Nat) (hn : n ≤ 60) (x : Ex) (ko : Option Addr) (kc : Nat) (w : World), fit M n x = true → HasK w n ko x.kids →
  Calls Try.prog 12 #[exv x ko kc] w fun e w' => e = .returned (.int .i64 (deepX n x)) ∧ Below w.heap.size w w'
 | 0, _, x, _, _, _, h, _ => by cases h
 | n + 1, hn, x, ko, kc, w, hf, hK => by
  have IH := Lib.hid (fun (y : Ex) (ao : Option Addr) (c : Nat) (W : World) => rdeepf_any M hM n (by omega) y ao c W)
  have HK := Lib.hid hK
  have HF := Lib.hid hf
  have hl := fit_len hf
  obtain ⟨m, hm⟩ : ∃ m, x.kids.length = m := ⟨_, rfl⟩
  have HM := Lib.hid hm
  have HB0 := Lib.hid (show Below w.heap.size w (w.alloc (.cells #[.int .i64 x.op, .string x.text, .int .u64 x.s0, .int .u64 x.s1, .int .u64 x.s2, .int .u64 x.s3, .slice ko m kc] 28)) from (Below.refl _ _).alloc (Nat.le_refl _) _)
  have HO := Lib.hid (Own.fresh w 28 [.int .i64 x.op, .string x.text, .int .u64 x.s0, .int .u64 x.s1, .int .u64 x.s2, .int .u64 x.s3, .slice ko m kc])
  unfold exv
  rw [hm] at hl ⊢
  clear hm hK hf
  go_enter Try.func12, Try.ntmps12
  go_wp2_with fail
  go_loopw [3, 4] (fun b3 b9 wr => ∃ k : Nat, b9 = .int .i64 (k : Int) ∧ (k : Int) ≤ m ∧ b3 = .int .i64 ((x.kids.take k).foldl (fun m y => max m (deepX n y)) 0) ∧ Hid (Below w.heap.size w wr) ∧ Hid (Own wr w.heap.size 28 [.int .i64 x.op, .string x.text, .int .u64 x.s0, .int .u64 x.s1, .int .u64 x.s2, .int .u64 x.s3, .slice ko m kc]))
   (fun _ b9 _ => m - (intOf b9).toNat)
  case atStart => exact ⟨0, rfl, by omega, rfl, HB0, HO⟩
  case round =>
   obtain ⟨k, rfl, hk2, rfl, HB, HO1⟩ := hrel
   clear HB0 HO
   have o6 := HO1.out.cell 6
   simp only [List.getElem?_cons_succ, List.getElem?_cons_zero] at o6
   by_cases h2 : (k : Int) < m
   ·
    obtain ⟨y, hy⟩ : ∃ y, x.kids[k]? = some y := ⟨_, List.getElem?_eq_getElem (by have := HM.out; omega)⟩
    obtain ⟨g, off, kk, kd, rfl, hg, c0, c1, c2, c3, c4, c5, c6, hr⟩ := HK.out k y hy
    have HR := Lib.hid hr
    have HFY := Lib.hid (fit_kid HF.out hy)
    have HT := Lib.hid (show (x.kids.take (k + 1)).foldl (fun m y => max m (deepX n y)) 0 = max ((x.kids.take k).foldl (fun m y => max m (deepX n y)) 0) (deepX n y) from fold_snoc (fun m y => max m (deepX n y)) 0 x.kids hy)
    have hb := Lib.hid (deepX_take n x k)
    have hs := hb.out
    have hs3 := deepX_bd n y
    have HB9 := Lib.hid (And.intro hs hs3)
    clear hr hy hs hs3 hb 
    generalize hq : ((x.kids.take k).foldl (fun m y => max m (deepX n y)) 0) = q at *
    have HQ := Lib.hid hq
    clear hq
    have e0 := keepc c0 HB.out
    have e1 := keepc c1 HB.out
    have e2 := keepc c2 HB.out
    have e3 := keepc c3 HB.out
    have e4 := keepc c4 HB.out
    have e5 := keepc c5 HB.out
    have e6 := keepc c6 HB.out
    have hgr : g < wr.heap.size := Nat.lt_of_lt_of_le hg HB.out.size
    clear c0 c1 c2 c3 c4 c5 c6 hg
    obtain ⟨z, hz⟩ : ∃ z, deepX n y = z := ⟨_, rfl⟩
    have HZ := Lib.hid hz
    have hbnd := HB9.out
    rw [hz] at hbnd
    rw [hz] at HT
    clear hz HB9
    go_wp2_with fail
    refine (IH.out y kk kd _ HFY.out (HasK.below (HB.out) HR.out)).mono ?_
    rintro e w1 ⟨rfl, hb1⟩
    rw [HZ.out]
    have HB1 := Lib.hid (keepb (HB.out) hb1)
    have HO2 := Lib.hid (HO1.out.under hb1 HO1.out.lt)
    clear o6
    clear hb1 e0 e1 e2 e3 e4 e5 e6
    obtain ⟨hq0, hq1, hz0, hz1⟩ : 0 ≤ q ∧ q ≤ 1000 ∧ 0 ≤ z ∧ z ≤ 1000 := by omega
    clear hbnd
    have HT2 := Lib.hid (HT.out)
    clear HT
    go_wp2
    all_goals go_roundw
    all_goals first
     | (case rel => exact ⟨k + 1, by go_num, by omega, by rw [HT2.out] <;> (first | rfl | (congr 1; omega)), HB1, HO2⟩)
     | skip
    all_goals (simp [intOf]; omega)
   ·
    obtain rfl : k = m := by omega
    have HE := Lib.hid (show deepX (n + 1) x = (x.kids.take k).foldl (fun m y => max m (deepX n y)) 0 + 1 from by rw [← HM.out, fold_all]; rfl)
    have hb := deepX_take n x k
    generalize hq : ((x.kids.take k).foldl (fun m y => max m (deepX n y)) 0) = q at *
    clear hq
    have hqb : 0 ≤ q ∧ q ≤ 1000 := by omega
    clear hb
    go_wp2
    go_ret
    exact ⟨ret_int HE.out.symm, HB.out⟩
end Go.Proofs.Ytonknapfndaalaa

namespace Go.Proofs.Ytonknapfndaalaa
set_option linter.unusedVariables false
set_option maxRecDepth 1000000
open Go.RowKit Go.Sort
/-- What is answered is no wider than M, and n levels deep at most. -/
def Ft (M n : Nat) (r : Rs) : Prop := ∀ x m, r = .ok (x, m) → fit M n x = true
theorem Ft.err {M n : Nat} (e : Int × Int) : Ft M n (.error e) := fun x m h => by cases h
theorem Ft.ok {M n k : Nat} {x : Ex} (h : fit M n x = true) : Ft M n (.ok (x, k)) := fun y m e => by
 obtain ⟨rfl, rfl⟩ : x = y ∧ k = m := by simpa using e
 exact h
theorem Ft.more {M n m : Nat} {r : Rs} (h : Ft M n r) (hm : n ≤ m) : Ft M m r := fun x k e => fit_more (h x k e) hm
theorem fit_one {M n : Nat} {op : Int} {t : ByteArray} {a b c d : Int} {x : Ex} (hM : 1 ≤ M) (h : fit M n x = true) : fit M (n + 1) (.mk op t a b c d [x]) = true := by
 unfold fit
 simp [Ex.kids, h, hM]
theorem Ft.kid {M n : Nat} {op : Int} {t : ByteArray} (hM : 1 ≤ M) {r : Rs} (h : Ft M n r) : Ft M (n + 1) (mapX (fun e => .mk op t 0 0 0 0 [e]) r) := by
 cases r with
 | error e => exact Ft.err e
 | ok p =>
  obtain ⟨x, m⟩ := p
  exact Ft.ok (fit_one hM (h x m rfl))
end Go.Proofs.Ytonknapfndaalaa

namespace Go.Proofs.Ytonknapfndaalaa
set_option linter.unusedVariables false
set_option maxRecDepth 1000000
open Go.RowKit
end Go.Proofs.Ytonknapfndaalaa

namespace Go.Proofs.Ytonknapfndaalaa
set_option linter.unusedVariables false
set_option maxRecDepth 1000000
open Go.RowKit Go.Sort
end Go.Proofs.Ytonknapfndaalaa

namespace Go.Proofs.Ytonknapfndaalaa
set_option linter.unusedVariables false
set_option maxRecDepth 1000000
open Go.RowKit Go.Sort
/-- Four words of a set. -/
def fitI (a b c d : Int) : Bool := decide (0 ≤ a ∧ a < 18446744073709551616) && decide (0 ≤ b ∧ b < 18446744073709551616) && decide (0 ≤ c ∧ c < 18446744073709551616) && decide (0 ≤ d ∧ d < 18446744073709551616)
/-- Texts of T bytes at most, and sets that are sets, n levels on. -/
def txs (T : Nat) : Nat → Ex → Bool
 | 0, _ => true
 | n + 1, x => (decide (x.text.size ≤ T) && fitI x.s0 x.s1 x.s2 x.s3) && x.kids.all (txs T n)
def TxA (T : Nat) (x : Ex) : Prop := ∀ n, txs T n x = true
theorem TxA.text {T : Nat} {x : Ex} (h : TxA T x) : x.text.size ≤ T := by
 have := h 1
 unfold txs at this
 rw [Bool.and_eq_true, Bool.and_eq_true, decide_eq_true_eq] at this
 exact this.1.1
theorem TxA.sets {T : Nat} {x : Ex} (h : TxA T x) : fitI x.s0 x.s1 x.s2 x.s3 = true := by
 have := h 1
 unfold txs at this
 rw [Bool.and_eq_true, Bool.and_eq_true] at this
 exact this.1.2
theorem TxA.kid {T : Nat} {x y : Ex} (h : TxA T x) (hy : y ∈ x.kids) : TxA T y := fun n => by
 have := h (n + 1)
 unfold txs at this
 rw [Bool.and_eq_true] at this
 exact List.all_eq_true.1 this.2 y hy
theorem TxA.list {T : Nat} {op : Int} {t : ByteArray} {a b c d : Int} {K : List Ex} (ht : t.size ≤ T) (h : ∀ x ∈ K, TxA T x) (hf : fitI a b c d = true := by rfl) : TxA T (.mk op t a b c d K) := fun n => by
 cases n with
 | zero => rfl
 | succ n =>
  unfold txs
  rw [Bool.and_eq_true, Bool.and_eq_true, decide_eq_true_eq]
  exact ⟨⟨ht, hf⟩, List.all_eq_true.2 fun x hx => h x hx n⟩
theorem TxA.one {T : Nat} {op : Int} {t : ByteArray} {a b c d : Int} {x : Ex} (ht : t.size ≤ T) (h : TxA T x) (hf : fitI a b c d = true := by rfl) : TxA T (.mk op t a b c d [x]) := TxA.list ht (fun y hy => by
 rw [List.mem_singleton] at hy
 subst hy
 exact h) hf
def Tr (T : Nat) (r : Rs) : Prop := ∀ x m, r = .ok (x, m) → TxA T x
theorem Tr.err {T : Nat} (e : Int × Int) : Tr T (.error e) := fun x m h => by cases h
theorem Tr.ok {T k : Nat} {x : Ex} (h : TxA T x) : Tr T (.ok (x, k)) := fun y m e => by
 obtain ⟨rfl, rfl⟩ : x = y ∧ k = m := by simpa using e
 exact h
theorem Tr.kid {T : Nat} {op : Int} {t : ByteArray} (ht : t.size ≤ T) {r : Rs} (h : Tr T r) : Tr T (mapX (fun e => .mk op t 0 0 0 0 [e]) r) := by
 cases r with
 | error e => exact Tr.err e
 | ok p =>
  obtain ⟨x, m⟩ := p
  exact Tr.ok (TxA.one ht (h x m rfl))
end Go.Proofs.Ytonknapfndaalaa
