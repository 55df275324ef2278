/- All tokens of a text: what they are; the walks of All, of the program's and of the reference's. Tokens in memory; the walk of the reference's Same. -/
import Derived.Test.YtonknapfndaalaaTokG
import Derived.OwnWalk
import Derived.Laws.OwnMore
import Derived.Laws.StructEq
import Derived.Lib.SliceRun
import Derived.Deep.QuietTactic
import Derived.BigQuiet
namespace Go.Proofs.Ytonknapfndaalaa
set_option linter.unusedVariables false
set_option maxRecDepth 1000000
open Go.RowKit
theorem skF_ge {s : ByteArray} : ∀ f k, k ≤ skF s f k
 | 0, k => Nat.le_refl _
 | f + 1, k => by
  unfold skF
  split
  ·
   split
   ·
    have := skF_ge (s := s) f (k + 1); omega
   ·
    split
    ·
     have := skF_ge (s := s) f (k + ntO s k); omega
    ·
     exact Nat.le_refl _
  ·
   exact Nat.le_refl _
theorem nmO_pos {s : ByteArray} {k : Nat} (hk : k < s.size) (h : letB (byt s k) = true) : 1 ≤ nmO s k := by
 unfold nmO
 obtain ⟨g, hg⟩ : ∃ g, s.size = g + 1 := ⟨s.size - 1, by omega⟩
 rw [show runB innB s s.size k = runB innB s (g + 1) k by rw [hg]]
 unfold runB
 rw [if_pos ⟨hk, by unfold innB; rw [h]; rfl⟩]; omega
theorem tkO_bd {s : ByteArray} {p m : Nat} {t : Tok} (hp : p < s.size) (h : tkO s p = some (t, m)) : p < m ∧ m ≤ s.size ∧ t.pos = p ∧ 1 ≤ t.kd := by
 unfold tkO at h
 split at h
 ·
  rename_i hl
  have h1 := nmO_pos hp hl
  have h2 := nmO_le (s := s) (k := p) (by omega)
  split at h
  ·
   injection h with h; injection h with h3 h4; subst h3 h4; exact ⟨by omega, by omega, rfl, by show 1 ≤ 1; omega⟩
  ·
   cases h
 ·
  split at h
  ·
   cases hq : txtO s (p : Int) with
   | none => rw [hq] at h; cases h
   | some q =>
    obtain ⟨u, n⟩ := q
    have := txtO_res hq
    rw [hq] at h; injection h with h; injection h with h3 h4; subst h3 h4; exact ⟨this.1, this.2.1, rfl, by show 1 ≤ 2; omega⟩
  ·
   split at h
   ·
    cases hq : clsO s (p : Int) with
    | none => rw [hq] at h; cases h
    | some q =>
     obtain ⟨u, n⟩ := q
     have := clsO_res hq
     rw [hq] at h; injection h with h; injection h with h3 h4; subst h3 h4; exact ⟨this.1, this.2.1, rfl, by show 1 ≤ 3; omega⟩
   ·
    have h2 := sgO_le hp
    split at h
    ·
     cases h
    ·
     injection h with h; injection h with h3 h4; subst h3 h4; exact ⟨by omega, by omega, rfl, by show 1 ≤ 4; omega⟩
theorem nextO_bd {s : ByteArray} {k m : Nat} {t : Tok} (h : nextO s k = some (t, m)) : m ≤ s.size ∧ (t.kd ≠ 0 → k < m ∧ t.pos = skO s k ∧ skO s k < m) ∧ (t.kd = 0 → t.pos = s.size ∧ t = ⟨0, ⟨#[]⟩, set0, s.size⟩) := by
 unfold nextO at h
 split at h
 ·
  injection h with h; injection h with h3 h4; subst h3 h4; exact ⟨Nat.le_refl _, fun g => absurd rfl g, fun _ => ⟨rfl, rfl⟩⟩
 ·
  have h1 := tkO_bd (by omega) h
  have h2 := skF_ge (s := s) (s.size + 1) k
  change k ≤ skO s k at h2
  exact ⟨h1.2.1, fun _ => ⟨by omega, h1.2.2.1, h1.1⟩, fun g => by omega⟩
/-- The tokens from a place on; else where there is none. -/
def allF (s : ByteArray) : Nat → Nat → Except Nat (List Tok)
 | 0, k => .error k
 | f + 1, k => match nextO s k with
  | none => .error (skO s k)
  | some (t, m) => if t.kd = 0 then .ok [t] else match allF s f m with
   | .ok L => .ok (t :: L)
   | .error e => .error e
def addA (acc : List Tok) : Except Nat (List Tok) → Except Nat (List Tok)
 | .ok L => .ok (acc ++ L)
 | .error e => .error e
def allO (s : ByteArray) : Except Nat (List Tok) := allF s (s.size + 2) 0
theorem allF_no {s : ByteArray} {f k : Nat} (hf : s.size < f + k) (hk : k ≤ s.size) (h : nextO s k = none) : allF s f k = .error (skO s k) := by
 obtain ⟨g, rfl⟩ : ∃ g, f = g + 1 := ⟨f - 1, by omega⟩
 unfold allF; rw [h]
theorem allF_end {s : ByteArray} {f k m : Nat} {t : Tok} (hf : s.size < f + k) (hk : k ≤ s.size) (h : nextO s k = some (t, m)) (h0 : t.kd = 0) : allF s f k = .ok [t] := by
 obtain ⟨g, rfl⟩ : ∃ g, f = g + 1 := ⟨f - 1, by omega⟩
 unfold allF; rw [h]; simp only; rw [if_pos h0]
theorem allF_go {s : ByteArray} {f k m : Nat} {t : Tok} (hf : s.size < f + k) (hk : k ≤ s.size) (h : nextO s k = some (t, m)) (h0 : t.kd ≠ 0) : allF s f k = addA [t] (allF s (f - 1) m) := by
 obtain ⟨g, rfl⟩ : ∃ g, f = g + 1 := ⟨f - 1, by omega⟩
 rw [allF.eq_2, h]; simp only; rw [if_neg h0, Nat.add_sub_cancel]
 cases allF s g m <;> rfl
theorem addA_add (a b : List Tok) (r : Except Nat (List Tok)) : addA a (addA b r) = addA (a ++ b) r := by
 cases r
 ·
  rfl
 ·
  simp [addA]
def tokR (L : List Tok) : List Value := L.flatMap Tok.row
theorem tokR_snoc (L : List Tok) (t : Tok) : tokR (L ++ [t]) = tokR L ++ t.row := by
 unfold tokR; rw [List.flatMap_append]; simp
theorem info_tok : (Try.prog.info? 48).map (fun i => (i.zero, i.size, i.bytes)) = some (some (.agg #[.int .i64 0, .string ⟨#[]⟩, .int .u64 0, .int .u64 0, .int .u64 0, .int .u64 0, .int .i64 0]), 7, 64) := by kernel_rfl
theorem info_parts7 {t : TypeId} {z : Value} {size bytes : Nat} (h : (Try.prog.info? t).map (fun i => (i.zero, i.size, i.bytes)) = some (some z, size, bytes)) : ∃ i, Try.prog.info? t = some i ∧ i.zero = some z ∧ i.size = size ∧ i.bytes = bytes := by
 cases hi : Try.prog.info? t with
 | none => rw [hi] at h; cases h
 | some i =>
  rw [hi] at h
  simp at h
  exact ⟨i, rfl, h.1, h.2.1, h.2.2⟩
theorem own7_form {w : World} {B n k : Nat} {e : TypeId} {v : Value} {xs : List Value} (h : w.ownsRow B e k v n xs) : ∃ ao cap, v = .slice ao n cap := by
 rcases h.2 with ⟨rfl, rfl⟩ | ⟨g, cap, cur, rfl, _⟩ <;> exact ⟨_, _, rfl⟩
theorem own7_ge {w : World} {B n k : Nat} {e : TypeId} {v : Value} {xs : List Value} (h : w.ownsRow B e k v n xs) : ∀ j, v.ownBlock = some j → B ≤ j := fun j hj => by
 rcases h.2 with ⟨rfl, _⟩ | ⟨g, cap, cur, rfl, hg, _⟩
 ·
  simp [Value.ownBlock] at hj
 ·
  simp [Value.ownBlock] at hj; omega
theorem own7_keep {w w' : World} {B n k : Nat} {e : TypeId} {v : Value} {xs : List Value} (h : w.ownsRow B e k v n xs) (hk : ∀ g, B ≤ g → g < w.heap.size → w'.heap[g]? = w.heap[g]?) : w'.ownsRow B e k v n xs := by
 refine ⟨h.1, ?_⟩
 rcases h.2 with h0 | ⟨g, cap, cur, e1, hg, hh, r⟩
 ·
  exact .inl h0
 ·
  exact .inr ⟨g, cap, cur, e1, hg, (hk g hg (lt_of_block hh)).trans hh, r⟩
theorem own7_below {w w' : World} {B n k : Nat} {e : TypeId} {v : Value} {xs : List Value} (h : w.ownsRow B e k v n xs) (hb : Below w.heap.size w w') : w'.ownsRow B e k v n xs := own7_keep h (fun g _ hg => hb.block g hg)
theorem own7_lt {w : World} {B n k : Nat} {e : TypeId} {v : Value} {xs : List Value} (h : w.ownsRow B e k v n xs) : ∀ j, v.ownBlock = some j → j < w.heap.size := fun j hj => by
 rcases h.2 with ⟨rfl, _⟩ | ⟨g, cap, cur, rfl, hg, hh, _⟩
 ·
  simp [Value.ownBlock] at hj
 ·
  simp [Value.ownBlock] at hj; have := lt_of_block hh; omega
theorem tok_news (w : World) (t : Tok) : ∀ j u, t.row[j]? = some u → (w.alloc (.cells #[.int .i64 (t.kd : Int), .string t.tx, .int .u64 (t.st.1 : Int), .int .u64 (t.st.2.1 : Int), .int .u64 (t.st.2.2.1 : Int), .int .u64 (t.st.2.2.2 : Int), .int .i64 (t.pos : Int)] 48)).cell? ((⟨w.heap.size, 0, none⟩ : Addr).add j) = some u := fun j u h => by
 have hO := (Own.fresh w 48 t.row).cell j
 rw [Addr.add_lit, Nat.zero_add]
 exact hO.trans h
theorem tok_cells (t : Tok) : ∀ u ∈ t.row, u.oneCell' = true := by
 intro u hu
 simp [Tok.row] at hu
 rcases hu with rfl | rfl | rfl | rfl | rfl | rfl | rfl <;> rfl
@[go_sem 2000] theorem fbuild2 (k n : Int) (w : World) : (Instr.build 31 #[(0, .int .i64 k), (1, .int .i64 n)]).run Try.prog w = .ok (.agg #[.int .i64 k, .int .i64 n, .int .i64 0, .int .i64 0]) w := run_build w _ _ _ (by kernel_rfl)
/-- What All answers. -/
def AllE (o : Except Nat (List Tok)) (B : Nat) (e : Ending) (w : World) : Prop := match o with
 | .error k => e = .returned (.tuple #[.slice none 0 0, .agg #[.int .i64 2, .int .i64 (k : Int), .int .i64 0, .int .i64 0]])
 | .ok L => ∃ v, e = .returned (.tuple #[v, .agg #[.int .i64 0, .int .i64 0, .int .i64 0, .int .i64 0]]) ∧ w.ownsRow B 48 7 v L.length (tokR L)
theorem heap_set4 (w : World) (k : Nat) (u0 u1 u2 u3 : Value) (g : Nat) (hg : g ≠ k) : (set4 w k u0 u1 u2 u3).heap[g]? = w.heap[g]? :=
 (Below.heap_setCell _ ⟨k, 3, none⟩ u3 g hg).trans ((Below.heap_setCell _ ⟨k, 2, none⟩ u2 g hg).trans ((Below.heap_setCell _ ⟨k, 1, none⟩ u1 g hg).trans (Below.heap_setCell _ ⟨k, 0, none⟩ u0 g hg)))
set_option maxHeartbeats 3200000 in
set_option maxRecDepth 100000 in
theorem all_any (s : ByteArray) (hs : s.size ≤ 4000) (w : World) :
  Calls Try.prog 19 #[.string s] w fun e w' => AllE (allO s) (w.heap.size + 1) e w' ∧ Below w.heap.size w w' := by
 obtain ⟨o, ho⟩ : ∃ o, allO s = o := ⟨_, rfl⟩
 have HT0 := Lib.hid (show addA [] (allF s (s.size + 2) 0) = o ∧ s.size < s.size + 2 + 0 from ⟨by rw [← ho]; unfold allO; cases allF s (s.size + 2) 0 <;> rfl, by omega⟩)
 rw [ho]
 clear ho
 have HX := Lib.hid (fun (k : Nat) (hk : k ≤ 5000) W => next_any s (by omega) (k : Int) (by omega) W)
 obtain ⟨i0, hi, hz0, hz1, hz2⟩ := info_parts7 info_tok
 have IL := Lib.hid (And.intro hi (And.intro hz0 (And.intro hz1 hz2)))
 clear hi hz0 hz1 hz2
 have HO0 := Lib.hid (Own.fresh w 31 [.int .i64 0, .int .i64 0, .int .i64 0, .int .i64 0])
 have HB0 := Lib.hid ((Below.refl w.heap.size w).alloc (Nat.le_refl _) (.cells #[.int .i64 0, .int .i64 0, .int .i64 0, .int .i64 0] 31))
 have HR0 := Lib.hid (World.ownsRow_nil (w.alloc (.cells #[.int .i64 0, .int .i64 0, .int .i64 0, .int .i64 0] 31)) (w.heap.size + 1) 48 7)
 have hs0 : w.heap.size + 1 ≤ (w.alloc (.cells #[.int .i64 0, .int .i64 0, .int .i64 0, .int .i64 0] 31)).heap.size := by simp
 go_enter Try.func19, Try.ntmps19
 go_wp2_with fail
 generalize w.alloc _ = W0 at *
 go_loopw [4, 5] (fun b4 b5 wr => ∃ (k f : Nat) (acc : List Tok) (ao : Option Addr) (cap : Nat), b4 = .slice ao acc.length cap ∧ b5 = .int .i64 (k : Int) ∧ (k : Int) ≤ s.size ∧ acc.length ≤ k ∧ Hid (addA acc (allF s f k) = o ∧ s.size < f + k) ∧
   Hid (wr.ownsRow (w.heap.size + 1) 48 7 (.slice ao acc.length cap) acc.length (tokR acc)) ∧ Hid (Own wr w.heap.size 31 [.int .i64 0, .int .i64 0, .int .i64 0, .int .i64 0]) ∧ Hid (Below w.heap.size w wr)) (fun _ b5 _ => s.size + 1 - (intOf b5).toNat)
 case atStart => exact ⟨0, s.size + 2, [], none, 0, rfl, rfl, by omega, Nat.le_refl _, HT0, HR0, HO0, HB0⟩
 case round =>
  obtain ⟨k, f, acc, ao, cap, rfl, rfl, hk, hal, HT, HR, HO, HB⟩ := hrel
  clear HT0 HR0 HO0 HB0
  have HN := Lib.hid (HX.out k (by omega))
  have hNT : nextT s (k : Int).toNat = nextV (skO s k) (nextO s k) := by rw [Int.toNat_natCast]; rfl
  rw [hNT] at HN
  clear hNT HX
  have hk2 : k ≤ s.size := by omega
  cases hq : nextO s k with
  | none =>
   have HE := Lib.hid (show o = .error (skO s k) by rw [← HT.out.1, allF_no HT.out.2 hk2 hq]; rfl)
   rw [hq] at HN
   simp only [nextV, tokV] at HN
   generalize skO s k = p at *
   clear HT hq
   go_wp2_with fail
   refine (HN.out _).mono ?_
   rintro e w2 ⟨he, hb2⟩
   subst he
   have HO2 := Lib.hid ((HO.out.under hb2 HO.out.lt).on_alloc (.cells #[.int .i64 0, .string ⟨#[]⟩, .int .u64 0, .int .u64 0, .int .u64 0, .int .u64 0, .int .i64 (p : Int)] 48))
   have HB2' := keepb HB.out hb2
   have HB2 := Lib.hid (HB2'.alloc HB2'.size (.cells #[.int .i64 0, .string ⟨#[]⟩, .int .u64 0, .int .u64 0, .int .u64 0, .int .u64 0, .int .i64 (p : Int)] 48))
   have HX2 := Lib.hid (Own.fresh w2 48 [.int .i64 0, .string ⟨#[]⟩, .int .u64 0, .int .u64 0, .int .u64 0, .int .u64 0, .int .i64 (p : Int)])
   have hlt2 : w.heap.size < w2.heap.size := Nat.lt_of_lt_of_le HO.out.lt hb2.size
   clear hb2 HO HB HR HN HB2'
   go_upto_region 7 with fail
   generalize w2.alloc _ = V at *
   generalize w2.heap.size = g2 at *
   obtain ⟨-, -, -, -, -, -, x6⟩ := HX2.out.seven
   obtain ⟨z0, z1, z2, z3, y0, y1, y2, y3⟩ := HO2.out.four
   have hxl := HO2.out.lt
   go_region
   go_wp2
   have hF := HO2.out.put4 (u0 := .int .i64 2) (u1 := .int .i64 (p : Int)) (u2 := .int .i64 0) (u3 := .int .i64 0)
   have hB := below_put4 HB2.out (Nat.le_refl _) (.int .i64 2) (.int .i64 (p : Int)) (.int .i64 0) (.int .i64 0)
   rw [set4_fold]
   have hF' := hF.on_drew
   have hB' := hB.drew
   clear z0 z1 z2 z3 y0 y1 y2 y3
   obtain ⟨z0, z1, z2, z3, -⟩ := hF'.four
   refine bodyPost_ret (by simp [results, Try.results19, go_sem, z0, z1, z2, z3]; rfl) rfl ?_
   exact ⟨by rw [HE.out]; rfl, hB'⟩
  | some q =>
   obtain ⟨t, m⟩ := q
   obtain ⟨q1, q2, q3⟩ := nextO_bd hq
   have hm9 : (m : Int) ≤ s.size := by omega
   rw [hq] at HN
   simp only [nextV, tokV] at HN
   have HROW := Lib.hid (tokR_snoc acc t)
   have HNEWS := Lib.hid (fun W => tok_news W t)
   have HCEL := Lib.hid (tok_cells t)
   have hrl : t.row.length = 1 * 7 := rfl
   have HTROW := Lib.hid (show t.row = [.int .i64 (t.kd : Int), .string t.tx, .int .u64 (t.st.1 : Int), .int .u64 (t.st.2.1 : Int), .int .u64 (t.st.2.2.1 : Int), .int .u64 (t.st.2.2.2 : Int), .int .i64 (t.pos : Int)] from rfl)
   by_cases h0 : t.kd = 0
   ·
    have HE := Lib.hid (show o = .ok (acc ++ [t]) by rw [← HT.out.1, allF_end HT.out.2 hk2 hq h0]; rfl)
    have HKD := Lib.hid (show (t.kd : Int) = 0 by omega)
    clear HT hq q2 q3 h0
    go_wp2_with fail
    refine (HN.out _).mono ?_
    rintro e w2 ⟨he, hb2⟩
    subst he
    have HO2 := Lib.hid ((HO.out.under hb2 HO.out.lt).on_alloc (.cells #[.int .i64 (t.kd : Int), .string t.tx, .int .u64 (t.st.1 : Int), .int .u64 (t.st.2.1 : Int), .int .u64 (t.st.2.2.1 : Int), .int .u64 (t.st.2.2.2 : Int), .int .i64 (t.pos : Int)] 48))
    have HR2 := Lib.hid ((own7_below HR.out hb2).alloc (.cells #[.int .i64 (t.kd : Int), .string t.tx, .int .u64 (t.st.1 : Int), .int .u64 (t.st.2.1 : Int), .int .u64 (t.st.2.2.1 : Int), .int .u64 (t.st.2.2.2 : Int), .int .i64 (t.pos : Int)] 48))
    have HLT := Lib.hid (own7_lt (own7_below HR.out hb2))
    have HB2' := keepb HB.out hb2
    have HB2 := Lib.hid (HB2'.alloc HB2'.size (.cells #[.int .i64 (t.kd : Int), .string t.tx, .int .u64 (t.st.1 : Int), .int .u64 (t.st.2.1 : Int), .int .u64 (t.st.2.2.1 : Int), .int .u64 (t.st.2.2.2 : Int), .int .i64 (t.pos : Int)] 48))
    have HX2 := Lib.hid (Own.fresh w2 48 [.int .i64 (t.kd : Int), .string t.tx, .int .u64 (t.st.1 : Int), .int .u64 (t.st.2.1 : Int), .int .u64 (t.st.2.2.1 : Int), .int .u64 (t.st.2.2.2 : Int), .int .i64 (t.pos : Int)])
    have hlt2 : w.heap.size < w2.heap.size := Nat.lt_of_lt_of_le HO.out.lt hb2.size
    clear hb2 HO HB HR HN HB2'
    go_upto_region 8 with fail
    generalize w2.alloc _ = V at *
    generalize w2.heap.size = g2 at *
    obtain ⟨x0, x1, x2, x3, x4, x5, x6⟩ := HX2.out.seven
    have hVs : w.heap.size + 1 ≤ V.heap.size := HO2.out.lt
    have hxl := HX2.out.lt
    go_wp2_with (first
     | (at_builtin; refine wpList_append_own _ rfl _ _ 42 rfl (w.heap.size + 1) 48 i0 (.agg #[.int .i64 0, .string ⟨#[]⟩, .int .u64 0, .int .u64 0, .int .u64 0, .int .u64 0, .int .i64 0]) 7 64 Try.underlying42 IL.out.1 IL.out.2.1 IL.out.2.2.1 IL.out.2.2.2 rfl (by decide) (.slice ao acc.length cap) acc.length (tokR acc) rfl (HR2.out.alloc _) ⟨V.heap.size, 0, none⟩ 1 1 t.row rfl hrl (HNEWS.out V) HCEL.out (by unfold maxLen; omega) (by omega) (by simp; omega) ?_))
    intro v' w4 hown4 hgrow _
    have hown4' : w4.ownsRow (w.heap.size + 1) 48 7 v' (acc ++ [t]).length (tokR (acc ++ [t])) := by rw [HROW.out, List.length_append]; exact hown4
    obtain ⟨ao', cap', rfl⟩ := own7_form hown4'
    have hge := own7_ge HR2.out
    have HR5 := Lib.hid hown4'
    have HO5 := Lib.hid ((HO2.out.on_alloc (.cells #[.int .i64 (t.kd : Int), .string t.tx, .int .u64 (t.st.1 : Int), .int .u64 (t.st.2.1 : Int), .int .u64 (t.st.2.2.1 : Int), .int .u64 (t.st.2.2.2 : Int), .int .i64 (t.pos : Int)] 48)).by_grown hgrow (fun e => by have := hge _ e.symm; omega))
    have HX5 := Lib.hid ((HX2.out.on_alloc (.cells #[.int .i64 (t.kd : Int), .string t.tx, .int .u64 (t.st.1 : Int), .int .u64 (t.st.2.1 : Int), .int .u64 (t.st.2.2.1 : Int), .int .u64 (t.st.2.2.2 : Int), .int .i64 (t.pos : Int)] 48)).by_grown hgrow (fun e => by have := HLT.out _ e.symm; omega))
    have HB5 := Lib.hid (show Below w.heap.size w w4 from (HB2.out.alloc HB2.out.size (.cells #[.int .i64 (t.kd : Int), .string t.tx, .int .u64 (t.st.1 : Int), .int .u64 (t.st.2.1 : Int), .int .u64 (t.st.2.2.1 : Int), .int .u64 (t.st.2.2.2 : Int), .int .i64 (t.pos : Int)] 48)).trans ((But.grown (S := fun g => w.heap.size ≤ g) (But.refl _ _) hgrow (fun k hk _ => by have := hge k hk; omega)).below (by simp; omega) (fun _ h => h)))
    clear hown4 hown4' hgrow HR2 HO2 HX2 HB2 x0 x1 x2 x3 x4 x5 x6 hge
    obtain ⟨x0, -⟩ := HX5.out.seven
    obtain ⟨z0, z1, z2, z3, y0, y1, y2, y3⟩ := HO5.out.four
    have hkd := HKD.out
    go_wp2
    rw [set4_fold]
    have hF := HO5.out.put4 (u0 := .int .i64 0) (u1 := .int .i64 0) (u2 := .int .i64 0) (u3 := .int .i64 0)
    have hB := below_put4 HB5.out (Nat.le_refl _) (.int .i64 0) (.int .i64 0) (.int .i64 0) (.int .i64 0)
    have hR := own7_keep (w' := set4 _ w.heap.size (.int .i64 0) (.int .i64 0) (.int .i64 0) (.int .i64 0)) HR5.out (fun g hg _ => heap_set4 _ _ _ _ _ _ g (by omega))
    clear z0 z1 z2 z3 y0 y1 y2 y3
    obtain ⟨z0, z1, z2, z3, -⟩ := hF.four
    refine bodyPost_ret (by simp [results, Try.results19, go_sem, z0, z1, z2, z3]; rfl) rfl ?_
    exact ⟨by rw [HE.out]; exact ⟨.slice ao' (acc ++ [t]).length cap', by simp, hR⟩, hB⟩
   ·
    have HT2 := Lib.hid (show addA (acc ++ [t]) (allF s (f - 1) m) = o ∧ s.size < (f - 1) + m from ⟨by rw [← HT.out.1, allF_go HT.out.2 hk2 hq h0, addA_add], by have := HT.out.2; have := (q2 h0).1; omega⟩)
    have hkd : ((t.kd : Int) == 0) = false := beq_eq_false_iff_ne.2 (by omega)
    have hkm : k < m := (q2 h0).1
    clear HT hq q2 q3
    go_wp2_with fail
    refine (HN.out _).mono ?_
    rintro e w2 ⟨he, hb2⟩
    subst he
    have HO2 := Lib.hid ((HO.out.under hb2 HO.out.lt).on_alloc (.cells #[.int .i64 (t.kd : Int), .string t.tx, .int .u64 (t.st.1 : Int), .int .u64 (t.st.2.1 : Int), .int .u64 (t.st.2.2.1 : Int), .int .u64 (t.st.2.2.2 : Int), .int .i64 (t.pos : Int)] 48))
    have HR2 := Lib.hid ((own7_below HR.out hb2).alloc (.cells #[.int .i64 (t.kd : Int), .string t.tx, .int .u64 (t.st.1 : Int), .int .u64 (t.st.2.1 : Int), .int .u64 (t.st.2.2.1 : Int), .int .u64 (t.st.2.2.2 : Int), .int .i64 (t.pos : Int)] 48))
    have HLT := Lib.hid (own7_lt (own7_below HR.out hb2))
    have HB2' := keepb HB.out hb2
    have HB2 := Lib.hid (HB2'.alloc HB2'.size (.cells #[.int .i64 (t.kd : Int), .string t.tx, .int .u64 (t.st.1 : Int), .int .u64 (t.st.2.1 : Int), .int .u64 (t.st.2.2.1 : Int), .int .u64 (t.st.2.2.2 : Int), .int .i64 (t.pos : Int)] 48))
    have HX2 := Lib.hid (Own.fresh w2 48 [.int .i64 (t.kd : Int), .string t.tx, .int .u64 (t.st.1 : Int), .int .u64 (t.st.2.1 : Int), .int .u64 (t.st.2.2.1 : Int), .int .u64 (t.st.2.2.2 : Int), .int .i64 (t.pos : Int)])
    have hlt2 : w.heap.size < w2.heap.size := Nat.lt_of_lt_of_le HO.out.lt hb2.size
    clear hb2 HO HB HR HN HB2'
    go_upto_region 8 with fail
    generalize w2.alloc _ = V at *
    generalize w2.heap.size = g2 at *
    obtain ⟨x0, x1, x2, x3, x4, x5, x6⟩ := HX2.out.seven
    have hVs : w.heap.size + 1 ≤ V.heap.size := HO2.out.lt
    have hxl := HX2.out.lt
    go_wp2_with (first
     | (at_builtin; refine wpList_append_own _ rfl _ _ 42 rfl (w.heap.size + 1) 48 i0 (.agg #[.int .i64 0, .string ⟨#[]⟩, .int .u64 0, .int .u64 0, .int .u64 0, .int .u64 0, .int .i64 0]) 7 64 Try.underlying42 IL.out.1 IL.out.2.1 IL.out.2.2.1 IL.out.2.2.2 rfl (by decide) (.slice ao acc.length cap) acc.length (tokR acc) rfl (HR2.out.alloc _) ⟨V.heap.size, 0, none⟩ 1 1 t.row rfl hrl (HNEWS.out V) HCEL.out (by unfold maxLen; omega) (by omega) (by simp; omega) ?_))
    intro v' w4 hown4 hgrow _
    have hown4' : w4.ownsRow (w.heap.size + 1) 48 7 v' (acc ++ [t]).length (tokR (acc ++ [t])) := by rw [HROW.out, List.length_append]; exact hown4
    obtain ⟨ao', cap', rfl⟩ := own7_form hown4'
    have hge := own7_ge HR2.out
    have HR5 := Lib.hid hown4'
    have HO5 := Lib.hid ((HO2.out.on_alloc (.cells #[.int .i64 (t.kd : Int), .string t.tx, .int .u64 (t.st.1 : Int), .int .u64 (t.st.2.1 : Int), .int .u64 (t.st.2.2.1 : Int), .int .u64 (t.st.2.2.2 : Int), .int .i64 (t.pos : Int)] 48)).by_grown hgrow (fun e => by have := hge _ e.symm; omega))
    have HX5 := Lib.hid ((HX2.out.on_alloc (.cells #[.int .i64 (t.kd : Int), .string t.tx, .int .u64 (t.st.1 : Int), .int .u64 (t.st.2.1 : Int), .int .u64 (t.st.2.2.1 : Int), .int .u64 (t.st.2.2.2 : Int), .int .i64 (t.pos : Int)] 48)).by_grown hgrow (fun e => by have := HLT.out _ e.symm; omega))
    have HB5 := Lib.hid (show Below w.heap.size w w4 from (HB2.out.alloc HB2.out.size (.cells #[.int .i64 (t.kd : Int), .string t.tx, .int .u64 (t.st.1 : Int), .int .u64 (t.st.2.1 : Int), .int .u64 (t.st.2.2.1 : Int), .int .u64 (t.st.2.2.2 : Int), .int .i64 (t.pos : Int)] 48)).trans ((But.grown (S := fun g => w.heap.size ≤ g) (But.refl _ _) hgrow (fun k hk _ => by have := hge k hk; omega)).below (by simp; omega) (fun _ h => h)))
    clear hown4 hown4' hgrow HR2 HO2 HX2 HB2 x0 x1 x2 x3 x4 x5 x6 hge
    obtain ⟨x0, -⟩ := HX5.out.seven
    obtain ⟨z0, z1, z2, z3, y0, y1, y2, y3⟩ := HO5.out.four
    go_wp2
    go_roundw
    case rel => exact ⟨m, f - 1, acc ++ [t], ao', cap', rfl, rfl, by omega, by rw [List.length_append]; simp; omega, HT2, HR5, HO5, HB5⟩
    case measure => simp [intOf]; omega
set_option maxHeartbeats 3200000 in
set_option maxRecDepth 100000 in
theorem rall_any (s : ByteArray) (hs : s.size ≤ 4000) (w : World) :
  Calls Try.prog 17 #[.string s] w fun e w' => AllE (allO s) (w.heap.size + 1) e w' ∧ Below w.heap.size w w' := by
 obtain ⟨o, ho⟩ : ∃ o, allO s = o := ⟨_, rfl⟩
 have HT0 := Lib.hid (show addA [] (allF s (s.size + 2) 0) = o ∧ s.size < s.size + 2 + 0 from ⟨by rw [← ho]; unfold allO; cases allF s (s.size + 2) 0 <;> rfl, by omega⟩)
 rw [ho]
 clear ho
 have HX := Lib.hid (fun (k : Nat) (hk : k ≤ 5000) W => rnext_any s (by omega) (k : Int) (by omega) W)
 obtain ⟨i0, hi, hz0, hz1, hz2⟩ := info_parts7 info_tok
 have IL := Lib.hid (And.intro hi (And.intro hz0 (And.intro hz1 hz2)))
 clear hi hz0 hz1 hz2
 have HO0 := Lib.hid (Own.fresh w 31 [.int .i64 0, .int .i64 0, .int .i64 0, .int .i64 0])
 have HB0 := Lib.hid ((Below.refl w.heap.size w).alloc (Nat.le_refl _) (.cells #[.int .i64 0, .int .i64 0, .int .i64 0, .int .i64 0] 31))
 have HR0 := Lib.hid (World.ownsRow_nil (w.alloc (.cells #[.int .i64 0, .int .i64 0, .int .i64 0, .int .i64 0] 31)) (w.heap.size + 1) 48 7)
 have hs0 : w.heap.size + 1 ≤ (w.alloc (.cells #[.int .i64 0, .int .i64 0, .int .i64 0, .int .i64 0] 31)).heap.size := by simp
 go_enter Try.func17, Try.ntmps17
 go_wp2_with fail
 generalize w.alloc _ = W0 at *
 go_loopw [4, 5] (fun b4 b5 wr => ∃ (k f : Nat) (acc : List Tok) (ao : Option Addr) (cap : Nat), b4 = .slice ao acc.length cap ∧ b5 = .int .i64 (k : Int) ∧ (k : Int) ≤ s.size ∧ acc.length ≤ k ∧ Hid (addA acc (allF s f k) = o ∧ s.size < f + k) ∧
   Hid (wr.ownsRow (w.heap.size + 1) 48 7 (.slice ao acc.length cap) acc.length (tokR acc)) ∧ Hid (Own wr w.heap.size 31 [.int .i64 0, .int .i64 0, .int .i64 0, .int .i64 0]) ∧ Hid (Below w.heap.size w wr)) (fun _ b5 _ => s.size + 1 - (intOf b5).toNat)
 case atStart => exact ⟨0, s.size + 2, [], none, 0, rfl, rfl, by omega, Nat.le_refl _, HT0, HR0, HO0, HB0⟩
 case round =>
  obtain ⟨k, f, acc, ao, cap, rfl, rfl, hk, hal, HT, HR, HO, HB⟩ := hrel
  clear HT0 HR0 HO0 HB0
  have HN := Lib.hid (HX.out k (by omega))
  have hNT : nextT s (k : Int).toNat = nextV (skO s k) (nextO s k) := by rw [Int.toNat_natCast]; rfl
  rw [hNT] at HN
  clear hNT HX
  have hk2 : k ≤ s.size := by omega
  cases hq : nextO s k with
  | none =>
   have HE := Lib.hid (show o = .error (skO s k) by rw [← HT.out.1, allF_no HT.out.2 hk2 hq]; rfl)
   rw [hq] at HN
   simp only [nextV, tokV] at HN
   generalize skO s k = p at *
   clear HT hq
   go_wp2_with fail
   refine (HN.out _).mono ?_
   rintro e w2 ⟨he, hb2⟩
   subst he
   have HO2 := Lib.hid ((HO.out.under hb2 HO.out.lt).on_alloc (.cells #[.int .i64 0, .string ⟨#[]⟩, .int .u64 0, .int .u64 0, .int .u64 0, .int .u64 0, .int .i64 (p : Int)] 48))
   have HB2' := keepb HB.out hb2
   have HB2 := Lib.hid (HB2'.alloc HB2'.size (.cells #[.int .i64 0, .string ⟨#[]⟩, .int .u64 0, .int .u64 0, .int .u64 0, .int .u64 0, .int .i64 (p : Int)] 48))
   have HX2 := Lib.hid (Own.fresh w2 48 [.int .i64 0, .string ⟨#[]⟩, .int .u64 0, .int .u64 0, .int .u64 0, .int .u64 0, .int .i64 (p : Int)])
   have hlt2 : w.heap.size < w2.heap.size := Nat.lt_of_lt_of_le HO.out.lt hb2.size
   clear hb2 HO HB HR HN HB2'
   go_upto_region 7 with fail
   generalize w2.alloc _ = V at *
   generalize w2.heap.size = g2 at *
   obtain ⟨-, -, -, -, -, -, x6⟩ := HX2.out.seven
   obtain ⟨z0, z1, z2, z3, y0, y1, y2, y3⟩ := HO2.out.four
   have hxl := HO2.out.lt
   go_region
   go_wp2
   have hF := HO2.out.put4 (u0 := .int .i64 2) (u1 := .int .i64 (p : Int)) (u2 := .int .i64 0) (u3 := .int .i64 0)
   have hB := below_put4 HB2.out (Nat.le_refl _) (.int .i64 2) (.int .i64 (p : Int)) (.int .i64 0) (.int .i64 0)
   rw [set4_fold]
   have hF' := hF.on_drew
   have hB' := hB.drew
   clear z0 z1 z2 z3 y0 y1 y2 y3
   obtain ⟨z0, z1, z2, z3, -⟩ := hF'.four
   refine bodyPost_ret (by simp [results, Try.results17, go_sem, z0, z1, z2, z3]; rfl) rfl ?_
   exact ⟨by rw [HE.out]; rfl, hB'⟩
  | some q =>
   obtain ⟨t, m⟩ := q
   obtain ⟨q1, q2, q3⟩ := nextO_bd hq
   have hm9 : (m : Int) ≤ s.size := by omega
   rw [hq] at HN
   simp only [nextV, tokV] at HN
   have HROW := Lib.hid (tokR_snoc acc t)
   have HNEWS := Lib.hid (fun W => tok_news W t)
   have HCEL := Lib.hid (tok_cells t)
   have hrl : t.row.length = 1 * 7 := rfl
   have HTROW := Lib.hid (show t.row = [.int .i64 (t.kd : Int), .string t.tx, .int .u64 (t.st.1 : Int), .int .u64 (t.st.2.1 : Int), .int .u64 (t.st.2.2.1 : Int), .int .u64 (t.st.2.2.2 : Int), .int .i64 (t.pos : Int)] from rfl)
   by_cases h0 : t.kd = 0
   ·
    have HE := Lib.hid (show o = .ok (acc ++ [t]) by rw [← HT.out.1, allF_end HT.out.2 hk2 hq h0]; rfl)
    have HKD := Lib.hid (show (t.kd : Int) = 0 by omega)
    clear HT hq q2 q3 h0
    go_wp2_with fail
    refine (HN.out _).mono ?_
    rintro e w2 ⟨he, hb2⟩
    subst he
    have HO2 := Lib.hid ((HO.out.under hb2 HO.out.lt).on_alloc (.cells #[.int .i64 (t.kd : Int), .string t.tx, .int .u64 (t.st.1 : Int), .int .u64 (t.st.2.1 : Int), .int .u64 (t.st.2.2.1 : Int), .int .u64 (t.st.2.2.2 : Int), .int .i64 (t.pos : Int)] 48))
    have HR2 := Lib.hid ((own7_below HR.out hb2).alloc (.cells #[.int .i64 (t.kd : Int), .string t.tx, .int .u64 (t.st.1 : Int), .int .u64 (t.st.2.1 : Int), .int .u64 (t.st.2.2.1 : Int), .int .u64 (t.st.2.2.2 : Int), .int .i64 (t.pos : Int)] 48))
    have HLT := Lib.hid (own7_lt (own7_below HR.out hb2))
    have HB2' := keepb HB.out hb2
    have HB2 := Lib.hid (HB2'.alloc HB2'.size (.cells #[.int .i64 (t.kd : Int), .string t.tx, .int .u64 (t.st.1 : Int), .int .u64 (t.st.2.1 : Int), .int .u64 (t.st.2.2.1 : Int), .int .u64 (t.st.2.2.2 : Int), .int .i64 (t.pos : Int)] 48))
    have HX2 := Lib.hid (Own.fresh w2 48 [.int .i64 (t.kd : Int), .string t.tx, .int .u64 (t.st.1 : Int), .int .u64 (t.st.2.1 : Int), .int .u64 (t.st.2.2.1 : Int), .int .u64 (t.st.2.2.2 : Int), .int .i64 (t.pos : Int)])
    have hlt2 : w.heap.size < w2.heap.size := Nat.lt_of_lt_of_le HO.out.lt hb2.size
    clear hb2 HO HB HR HN HB2'
    go_upto_region 8 with fail
    generalize w2.alloc _ = V at *
    generalize w2.heap.size = g2 at *
    obtain ⟨x0, x1, x2, x3, x4, x5, x6⟩ := HX2.out.seven
    have hVs : w.heap.size + 1 ≤ V.heap.size := HO2.out.lt
    have hxl := HX2.out.lt
    go_wp2_with (first
     | (at_builtin; refine wpList_append_own _ rfl _ _ 42 rfl (w.heap.size + 1) 48 i0 (.agg #[.int .i64 0, .string ⟨#[]⟩, .int .u64 0, .int .u64 0, .int .u64 0, .int .u64 0, .int .i64 0]) 7 64 Try.underlying42 IL.out.1 IL.out.2.1 IL.out.2.2.1 IL.out.2.2.2 rfl (by decide) (.slice ao acc.length cap) acc.length (tokR acc) rfl (HR2.out.alloc _) ⟨V.heap.size, 0, none⟩ 1 1 t.row rfl hrl (HNEWS.out V) HCEL.out (by unfold maxLen; omega) (by omega) (by simp; omega) ?_))
    intro v' w4 hown4 hgrow _
    have hown4' : w4.ownsRow (w.heap.size + 1) 48 7 v' (acc ++ [t]).length (tokR (acc ++ [t])) := by rw [HROW.out, List.length_append]; exact hown4
    obtain ⟨ao', cap', rfl⟩ := own7_form hown4'
    have hge := own7_ge HR2.out
    have HR5 := Lib.hid hown4'
    have HO5 := Lib.hid ((HO2.out.on_alloc (.cells #[.int .i64 (t.kd : Int), .string t.tx, .int .u64 (t.st.1 : Int), .int .u64 (t.st.2.1 : Int), .int .u64 (t.st.2.2.1 : Int), .int .u64 (t.st.2.2.2 : Int), .int .i64 (t.pos : Int)] 48)).by_grown hgrow (fun e => by have := hge _ e.symm; omega))
    have HX5 := Lib.hid ((HX2.out.on_alloc (.cells #[.int .i64 (t.kd : Int), .string t.tx, .int .u64 (t.st.1 : Int), .int .u64 (t.st.2.1 : Int), .int .u64 (t.st.2.2.1 : Int), .int .u64 (t.st.2.2.2 : Int), .int .i64 (t.pos : Int)] 48)).by_grown hgrow (fun e => by have := HLT.out _ e.symm; omega))
    have HB5 := Lib.hid (show Below w.heap.size w w4 from (HB2.out.alloc HB2.out.size (.cells #[.int .i64 (t.kd : Int), .string t.tx, .int .u64 (t.st.1 : Int), .int .u64 (t.st.2.1 : Int), .int .u64 (t.st.2.2.1 : Int), .int .u64 (t.st.2.2.2 : Int), .int .i64 (t.pos : Int)] 48)).trans ((But.grown (S := fun g => w.heap.size ≤ g) (But.refl _ _) hgrow (fun k hk _ => by have := hge k hk; omega)).below (by simp; omega) (fun _ h => h)))
    clear hown4 hown4' hgrow HR2 HO2 HX2 HB2 x0 x1 x2 x3 x4 x5 x6 hge
    obtain ⟨x0, -⟩ := HX5.out.seven
    obtain ⟨z0, z1, z2, z3, y0, y1, y2, y3⟩ := HO5.out.four
    have hkd := HKD.out
    go_wp2
    rw [set4_fold]
    have hF := HO5.out.put4 (u0 := .int .i64 0) (u1 := .int .i64 0) (u2 := .int .i64 0) (u3 := .int .i64 0)
    have hB := below_put4 HB5.out (Nat.le_refl _) (.int .i64 0) (.int .i64 0) (.int .i64 0) (.int .i64 0)
    have hR := own7_keep (w' := set4 _ w.heap.size (.int .i64 0) (.int .i64 0) (.int .i64 0) (.int .i64 0)) HR5.out (fun g hg _ => heap_set4 _ _ _ _ _ _ g (by omega))
    clear z0 z1 z2 z3 y0 y1 y2 y3
    obtain ⟨z0, z1, z2, z3, -⟩ := hF.four
    refine bodyPost_ret (by simp [results, Try.results17, go_sem, z0, z1, z2, z3]; rfl) rfl ?_
    exact ⟨by rw [HE.out]; exact ⟨.slice ao' (acc ++ [t]).length cap', by simp, hR⟩, hB⟩
   ·
    have HT2 := Lib.hid (show addA (acc ++ [t]) (allF s (f - 1) m) = o ∧ s.size < (f - 1) + m from ⟨by rw [← HT.out.1, allF_go HT.out.2 hk2 hq h0, addA_add], by have := HT.out.2; have := (q2 h0).1; omega⟩)
    have hkd : ((t.kd : Int) == 0) = false := beq_eq_false_iff_ne.2 (by omega)
    have hkm : k < m := (q2 h0).1
    clear HT hq q2 q3
    go_wp2_with fail
    refine (HN.out _).mono ?_
    rintro e w2 ⟨he, hb2⟩
    subst he
    have HO2 := Lib.hid ((HO.out.under hb2 HO.out.lt).on_alloc (.cells #[.int .i64 (t.kd : Int), .string t.tx, .int .u64 (t.st.1 : Int), .int .u64 (t.st.2.1 : Int), .int .u64 (t.st.2.2.1 : Int), .int .u64 (t.st.2.2.2 : Int), .int .i64 (t.pos : Int)] 48))
    have HR2 := Lib.hid ((own7_below HR.out hb2).alloc (.cells #[.int .i64 (t.kd : Int), .string t.tx, .int .u64 (t.st.1 : Int), .int .u64 (t.st.2.1 : Int), .int .u64 (t.st.2.2.1 : Int), .int .u64 (t.st.2.2.2 : Int), .int .i64 (t.pos : Int)] 48))
    have HLT := Lib.hid (own7_lt (own7_below HR.out hb2))
    have HB2' := keepb HB.out hb2
    have HB2 := Lib.hid (HB2'.alloc HB2'.size (.cells #[.int .i64 (t.kd : Int), .string t.tx, .int .u64 (t.st.1 : Int), .int .u64 (t.st.2.1 : Int), .int .u64 (t.st.2.2.1 : Int), .int .u64 (t.st.2.2.2 : Int), .int .i64 (t.pos : Int)] 48))
    have HX2 := Lib.hid (Own.fresh w2 48 [.int .i64 (t.kd : Int), .string t.tx, .int .u64 (t.st.1 : Int), .int .u64 (t.st.2.1 : Int), .int .u64 (t.st.2.2.1 : Int), .int .u64 (t.st.2.2.2 : Int), .int .i64 (t.pos : Int)])
    have hlt2 : w.heap.size < w2.heap.size := Nat.lt_of_lt_of_le HO.out.lt hb2.size
    clear hb2 HO HB HR HN HB2'
    go_upto_region 8 with fail
    generalize w2.alloc _ = V at *
    generalize w2.heap.size = g2 at *
    obtain ⟨x0, x1, x2, x3, x4, x5, x6⟩ := HX2.out.seven
    have hVs : w.heap.size + 1 ≤ V.heap.size := HO2.out.lt
    have hxl := HX2.out.lt
    go_wp2_with (first
     | (at_builtin; refine wpList_append_own _ rfl _ _ 42 rfl (w.heap.size + 1) 48 i0 (.agg #[.int .i64 0, .string ⟨#[]⟩, .int .u64 0, .int .u64 0, .int .u64 0, .int .u64 0, .int .i64 0]) 7 64 Try.underlying42 IL.out.1 IL.out.2.1 IL.out.2.2.1 IL.out.2.2.2 rfl (by decide) (.slice ao acc.length cap) acc.length (tokR acc) rfl (HR2.out.alloc _) ⟨V.heap.size, 0, none⟩ 1 1 t.row rfl hrl (HNEWS.out V) HCEL.out (by unfold maxLen; omega) (by omega) (by simp; omega) ?_))
    intro v' w4 hown4 hgrow _
    have hown4' : w4.ownsRow (w.heap.size + 1) 48 7 v' (acc ++ [t]).length (tokR (acc ++ [t])) := by rw [HROW.out, List.length_append]; exact hown4
    obtain ⟨ao', cap', rfl⟩ := own7_form hown4'
    have hge := own7_ge HR2.out
    have HR5 := Lib.hid hown4'
    have HO5 := Lib.hid ((HO2.out.on_alloc (.cells #[.int .i64 (t.kd : Int), .string t.tx, .int .u64 (t.st.1 : Int), .int .u64 (t.st.2.1 : Int), .int .u64 (t.st.2.2.1 : Int), .int .u64 (t.st.2.2.2 : Int), .int .i64 (t.pos : Int)] 48)).by_grown hgrow (fun e => by have := hge _ e.symm; omega))
    have HX5 := Lib.hid ((HX2.out.on_alloc (.cells #[.int .i64 (t.kd : Int), .string t.tx, .int .u64 (t.st.1 : Int), .int .u64 (t.st.2.1 : Int), .int .u64 (t.st.2.2.1 : Int), .int .u64 (t.st.2.2.2 : Int), .int .i64 (t.pos : Int)] 48)).by_grown hgrow (fun e => by have := HLT.out _ e.symm; omega))
    have HB5 := Lib.hid (show Below w.heap.size w w4 from (HB2.out.alloc HB2.out.size (.cells #[.int .i64 (t.kd : Int), .string t.tx, .int .u64 (t.st.1 : Int), .int .u64 (t.st.2.1 : Int), .int .u64 (t.st.2.2.1 : Int), .int .u64 (t.st.2.2.2 : Int), .int .i64 (t.pos : Int)] 48)).trans ((But.grown (S := fun g => w.heap.size ≤ g) (But.refl _ _) hgrow (fun k hk _ => by have := hge k hk; omega)).below (by simp; omega) (fun _ h => h)))
    clear hown4 hown4' hgrow HR2 HO2 HX2 HB2 x0 x1 x2 x3 x4 x5 x6 hge
    obtain ⟨x0, -⟩ := HX5.out.seven
    obtain ⟨z0, z1, z2, z3, y0, y1, y2, y3⟩ := HO5.out.four
    go_wp2
    go_roundw
    case rel => exact ⟨m, f - 1, acc ++ [t], ao', cap', rfl, rfl, by omega, by rw [List.length_append]; simp; omega, HT2, HR5, HO5, HB5⟩
    case measure => simp [intOf]; omega
end Go.Proofs.Ytonknapfndaalaa

namespace Go.Proofs.Ytonknapfndaalaa
set_option linter.unusedVariables false
set_option maxRecDepth 1000000
open Go.RowKit Go.Sort
theorem eq4b (a b c d a' b' c' d' : Int) (w : World) :
  (Op.equalIn 9999 25 (.agg #[.int .u64 a, .int .u64 b, .int .u64 c, .int .u64 d]) (.agg #[.int .u64 a', .int .u64 b', .int .u64 c', .int .u64 d'])).run Try.prog w = .ok (a == a' && b == b' && c == c' && d == d') w := by
 have u3 := Try.underlying23
 have a3 := Try.isAgg23
 have z3 := Try.sizeOf23
 rw [show (9999 : Nat) = 9998 + 1 from rfl, Op.equalIn]
 simp only [Sem.run_bind, run_underlying Try.underlying25, Result.andThen_ok]
 simp only [Std.Legacy.Range.forIn_eq_forIn_range', Std.Legacy.Range.size, Nat.sub_zero, Nat.add_sub_cancel, Nat.div_one, List.range'_succ, List.range'_zero, List.forIn_cons, List.forIn_nil]
 go_simp
 by_cases h1 : a = a' <;> by_cases h2 : b = b' <;> by_cases h3 : c = c' <;> by_cases h4 : d = d' <;> simp [h1, h2, h3, h4]
@[go_sem 2000] theorem eqTok7 (a e f g h p a' e' f' g' h' p' : Int) (b b' : ByteArray) (w : World) :
  (Op.equalIn 10000 48 (.agg #[.int .i64 a, .string b, .int .u64 e, .int .u64 f, .int .u64 g, .int .u64 h, .int .i64 p]) (.agg #[.int .i64 a', .string b', .int .u64 e', .int .u64 f', .int .u64 g', .int .u64 h', .int .i64 p'])).run Try.prog w =
   .ok (a == a' && decide (b = b') && (e == e' && f == f' && g == g' && h == h') && p == p') w := by
 have u3 := Try.underlying3
 have a3 := Try.isAgg3
 have z3 := Try.sizeOf3
 have u9 := Try.underlying9
 have a9 := Try.isAgg9
 have z9 := Try.sizeOf9
 have u8 := Try.underlying23
 have a8 := Try.isAgg23
 have z8 := Try.sizeOf23
 have hS : Try.prog.underlying 48 = some (.struct (Try.prog.fieldsOf 48)) := by kernel_rfl
 have hp : Try.prog.stoodInHeld 48 = false := by kernel_rfl
 rw [show (10000 : Nat) = 9999 + 1 from rfl, run_equalIn_agg w 9999 48 _ _ hS hp]
 simp only [Program.fieldsOf, Try.underlying48]
 have hb : (b.toList == b'.toList) = decide (b = b') := by
  rw [← beq_toListBytes]
  by_cases h : b = b'
  ·
   subst h; rw [beq_toListBytes]; simp
  ·
   rw [beq_toListBytes, decide_eq_false h]
   refine beq_false_of_ne fun e => h ?_
   rw [ByteArray.toList_eq, ByteArray.toList_eq] at e
   obtain ⟨⟨x⟩⟩ := b
   obtain ⟨⟨y⟩⟩ := b'
   simp at e; rw [e]
 go_simp
 have hq := eq4b e f g h e' f' g' h' w
 generalize hQ : (e == e' && f == f' && g == g' && h == h') = q at hq
 rw [hq]
 by_cases h1 : a = a' <;> by_cases h2 : b = b' <;> by_cases h3 : p = p' <;> cases q <;> simp [h1, h2, h3, Result.andThen]
@[go_sem 2000] theorem eqFault (a b c d a' b' c' d' : Int) (w : World) :
  (Op.equalIn 10000 31 (.agg #[.int .i64 a, .int .i64 b, .int .i64 c, .int .i64 d]) (.agg #[.int .i64 a', .int .i64 b', .int .i64 c', .int .i64 d'])).run Try.prog w = .ok (a == a' && b == b' && c == c' && d == d') w := by
 have u3 := Try.underlying3
 have a3 := Try.isAgg3
 have z3 := Try.sizeOf3
 have u8 := Try.underlying29
 have a8 := Try.isAgg29
 have z8 := Try.sizeOf29
 have hS : Try.prog.underlying 31 = some (.struct (Try.prog.fieldsOf 31)) := by kernel_rfl
 have hp : Try.prog.stoodInHeld 31 = false := by kernel_rfl
 rw [show (10000 : Nat) = 9999 + 1 from rfl, run_equalIn_agg w 9999 31 _ _ hS hp]
 simp only [Program.fieldsOf, Try.underlying31]
 go_simp
 by_cases h1 : a = a' <;> by_cases h2 : b = b' <;> by_cases h3 : c = c' <;> by_cases h4 : d = d' <;> simp [h1, h2, h3, h4]
/-- Are two tokens the same? -/
def tokQ (t u : Tok) : Bool := (t.kd : Int) == (u.kd : Int) && decide (t.tx = u.tx) && ((t.st.1 : Int) == (u.st.1 : Int) && (t.st.2.1 : Int) == (u.st.2.1 : Int) && (t.st.2.2.1 : Int) == (u.st.2.2.1 : Int) && (t.st.2.2.2 : Int) == (u.st.2.2.2 : Int)) && (t.pos : Int) == (u.pos : Int)
@[go_sem 3000] theorem eqTok (t u : Tok) (w : World) : (Op.equalIn 10000 48 (.agg #[.int .i64 (t.kd : Int), .string t.tx, .int .u64 (t.st.1 : Int), .int .u64 (t.st.2.1 : Int), .int .u64 (t.st.2.2.1 : Int), .int .u64 (t.st.2.2.2 : Int), .int .i64 (t.pos : Int)]) (.agg #[.int .i64 (u.kd : Int), .string u.tx, .int .u64 (u.st.1 : Int), .int .u64 (u.st.2.1 : Int), .int .u64 (u.st.2.2.1 : Int), .int .u64 (u.st.2.2.2 : Int), .int .i64 (u.pos : Int)])).run Try.prog w = .ok (tokQ t u) w := eqTok7 ..
theorem tokQ_yes {t u : Tok} (h : tokQ t u = true) : t = u := by
 obtain ⟨k, x, ⟨a, b, c, d⟩, p⟩ := t
 obtain ⟨k', x', ⟨a', b', c', d'⟩, p'⟩ := u
 simp [tokQ] at h
 obtain ⟨⟨⟨h1, h2⟩, ⟨⟨h3, h4⟩, h5⟩, h6⟩, h7⟩ := h
 obtain rfl : k = k' := by omega
 obtain rfl : a = a' := by omega
 obtain rfl : b = b' := by omega
 obtain rfl : c = c' := by omega
 obtain rfl : d = d' := by omega
 obtain rfl : p = p' := by omega
 rw [h2]
theorem tokQ_self (t : Tok) : tokQ t t = true := by simp [tokQ]
instance : DecidableEq Tok := fun t u => if h : tokQ t u = true then isTrue (tokQ_yes h) else isFalse (fun e => h (e ▸ tokQ_self t))
/-- The tokens L lie from the address ao on. -/
def HasT (w : World) (ao : Option Addr) (L : List Tok) : Prop := ∀ k t, L[k]? = some t → ∃ g off, ao = some ⟨g, off, none⟩ ∧ g < w.heap.size ∧
 w.cell? ⟨g, off + k * 7, none⟩ = some (.int .i64 (t.kd : Int)) ∧ w.cell? ⟨g, off + k * 7 + 1, none⟩ = some (.string t.tx) ∧ w.cell? ⟨g, off + k * 7 + 2, none⟩ = some (.int .u64 (t.st.1 : Int)) ∧ w.cell? ⟨g, off + k * 7 + 3, none⟩ = some (.int .u64 (t.st.2.1 : Int)) ∧ w.cell? ⟨g, off + k * 7 + 4, none⟩ = some (.int .u64 (t.st.2.2.1 : Int)) ∧ w.cell? ⟨g, off + k * 7 + 5, none⟩ = some (.int .u64 (t.st.2.2.2 : Int)) ∧ w.cell? ⟨g, off + k * 7 + 6, none⟩ = some (.int .i64 (t.pos : Int))
theorem HasT.below {w w' : World} {ao : Option Addr} {L : List Tok} (h : HasT w ao L) (hb : Below w.heap.size w w') : HasT w' ao L := fun k t hk => by
 obtain ⟨g, off, e, hg, h0, h1, h2, h3, h4, h5, h6⟩ := h k t hk
 exact ⟨g, off, e, Nat.lt_of_lt_of_le hg hb.size, keepc h0 hb, keepc h1 hb, keepc h2 hb, keepc h3 hb, keepc h4 hb, keepc h5 hb, keepc h6 hb⟩
theorem tokR_get : ∀ (L : List Tok) (k : Nat) (x : Tok), L[k]? = some x → ∀ c, c < 7 → (tokR L)[k * 7 + c]? = x.row[c]?
 | y :: L, 0, x, h, c, hc => by
  simp at h; subst h
  show (y.row ++ tokR L)[0 * 7 + c]? = _
  rw [List.getElem?_append_left (by simp [Tok.row]; omega)]; simp
 | y :: L, k + 1, x, h, c, hc => by
  show (y.row ++ tokR L)[(k + 1) * 7 + c]? = _
  rw [List.getElem?_append_right (by simp [Tok.row]; omega), show (k + 1) * 7 + c - y.row.length = k * 7 + c by simp [Tok.row]; omega]
  exact tokR_get L k x (by simpa using h) c hc
theorem own7_cell {w : World} {B n cap : Nat} {ao : Option Addr} {xs : List Value} (h : w.ownsRow B 48 7 (.slice ao n cap) n xs) (hn : 0 < n) : ∃ g, ao = some ⟨g, 0, none⟩ ∧ B ≤ g ∧ g < w.heap.size ∧ ∀ j, j < n * 7 → w.cell? ⟨g, j, none⟩ = xs[j]? := by
 rcases h.2 with ⟨-, h0⟩ | ⟨g, cap', cur, hv, hb, hg, h1, h2, h3, h4⟩
 ·
  omega
 ·
  injection hv with e1 e2 e3
  refine ⟨g, e1, hb, lt_of_block hg, fun j hj => ?_⟩
  rw [cell_of_row w g j cur 48 (0, 0) hg, ← h4, List.getElem?_take_of_lt hj, Array.getElem?_toList]
theorem own7_has {w : World} {B cap : Nat} {ao : Option Addr} {L : List Tok} (h : w.ownsRow B 48 7 (.slice ao L.length cap) L.length (tokR L)) : HasT w ao L := fun k t hk => by
 have hlt := (List.getElem?_eq_some_iff.1 hk).1
 obtain ⟨g, e, -, hg, hc⟩ := own7_cell h (by omega)
 have key : ∀ c, c < 7 → w.cell? ⟨g, 0 + k * 7 + c, none⟩ = t.row[c]? := fun c hc7 => by
  rw [Nat.zero_add, hc (k * 7 + c) (by omega)]; exact tokR_get L k t hk c hc7
 exact ⟨g, 0, e, hg, key 0 (by omega), key 1 (by omega), key 2 (by omega), key 3 (by omega), key 4 (by omega), key 5 (by omega), key 6 (by omega)⟩
end Go.Proofs.Ytonknapfndaalaa
