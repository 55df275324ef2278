/- Rules that are gathered, beside their names, in memory; a body behind a fault. -/
import Derived.Test.YtihcmneidbjmlaaPaF
namespace Go.Proofs.Ytihcmneidbjmlaa
set_option linter.unusedVariables false
open Go.RowKit Go.Sort

abbrev Zr := ByteArray × Zx
def rrow (z : Zr) : List Value := .string z.1 :: xrow z.2
theorem rrow_at : ∀ (Z : List Zr) (k j : Nat) (z : Zr), Z[k]? = some z → j < 8 → (Z.flatMap rrow)[k * 8 + j]? = (rrow z)[j]?
  | [], k, j, h, hk, hj => by simp at hk
  | x :: L, 0, j, h, hk, hj => by
    simp at hk; subst hk
    rw [List.flatMap_cons, List.getElem?_append_left (by show 0 * 8 + j < 8; omega), Nat.zero_mul, Nat.zero_add]
  | x :: L, k + 1, j, h, hk, hj => by
    rw [List.flatMap_cons, List.getElem?_append_right (by show 8 ≤ (k + 1) * 8 + j; omega), show (k + 1) * 8 + j - (rrow x).length = k * 8 + j by show (k + 1) * 8 + j - 8 = _; omega]
    exact rrow_at L k j h (by simpa using hk) hj
/-- Names in the slice nv, rules in rv, from D on, in rows of their own; if G, what is within the rules as well. -/
def RB (G : Prop) (w : World) (D : Nat) (nv rv : Value) (RL : List (ByteArray × Ex)) : Prop :=
  ∃ (S1 S2 R : Nat → Prop) (Z : List Zr) (n : Nat), (∀ b, S1 b ∨ S2 b ∨ R b → D ≤ b ∧ b < w.heap.size) ∧ (∀ b, R b → ¬ S1 b ∧ ¬ S2 b) ∧ (∀ b, S1 b → ¬ S2 b) ∧ Z.map (fun z => (z.1, z.2.1)) = RL ∧
    Win S1 9 1 w nv Z.length (Z.map (fun z => Value.string z.1)) ∧ Win S2 42 8 w rv Z.length (Z.flatMap rrow) ∧ (G → ∀ z ∈ Z, HasP w R n z.2.2.1 z.2.1.kids)
theorem RB.start (G : Prop) (w : World) (D : Nat) : RB G w D (.slice none 0 0) (.slice none 0 0) [] :=
  ⟨fun _ => False, fun _ => False, fun _ => False, [], 0, (fun b h => by rcases h with h | h | h <;> cases h), (fun b h => by cases h), (fun b h => by cases h), rfl, Win.nil _ _ _ _, Win.nil _ _ _ _, fun _ z hz => absurd hz List.not_mem_nil⟩
theorem RB.keep {G : Prop} {w w' : World} {D : Nat} {nv rv : Value} {RL : List (ByteArray × Ex)} {U : Nat → Prop} (h : RB G w D nv rv RL) (hb : But U w w') (hU : ∀ b, U b → b < D) : RB G w' D nv rv RL := by
  obtain ⟨S1, S2, R, Z, n, h1, h2, h3, h4, h5, h6, h7⟩ := h
  refine ⟨S1, S2, R, Z, n, fun b hb' => ⟨(h1 b hb').1, Nat.lt_of_lt_of_le (h1 b hb').2 hb.size⟩, h2, h3, h4, h5.keep hb fun g _ hs hu => ?_, h6.keep hb fun g _ hs hu => ?_, fun hG z hz => (h7 hG z hz).but hb fun g _ hr hu => ?_⟩
  · have := hU g hu; have := (h1 g (.inl hs)).1; omega
  · have := hU g hu; have := (h1 g (.inr (.inl hs))).1; omega
  · have := hU g hu; have := (h1 g (.inr (.inr hr))).1; omega
theorem RB.below {G : Prop} {w w' : World} {D : Nat} {nv rv : Value} {RL : List (ByteArray × Ex)} (h : RB G w D nv rv RL) (hb : Below w.heap.size w w') : RB G w' D nv rv RL :=
  h.keep (U := fun _ => False) (But.of_below hb) fun _ h => h.elim
theorem RB.imp {G G' : Prop} {w : World} {D : Nat} {nv rv : Value} {RL : List (ByteArray × Ex)} (h : RB G w D nv rv RL) (hG : G' → G) : RB G' w D nv rv RL := by
  obtain ⟨S1, S2, R, Z, n, h1, h2, h3, h4, h5, h6, h7⟩ := h
  exact ⟨S1, S2, R, Z, n, h1, h2, h3, h4, h5, h6, fun g => h7 (hG g)⟩
theorem RB.form {G : Prop} {w : World} {D : Nat} {nv rv : Value} {RL : List (ByteArray × Ex)} (h : RB G w D nv rv RL) : (∃ no nc, nv = .slice no RL.length nc) ∧ ∃ ro rc, rv = .slice ro RL.length rc := by
  obtain ⟨S1, S2, R, Z, n, h1, h2, h3, rfl, h5, h6, h7⟩ := h
  obtain ⟨no, nc, hv, -⟩ := h5.form
  obtain ⟨ro, rc, hv2, -⟩ := h6.form
  exact ⟨⟨no, nc, by rw [hv, List.length_map]⟩, ⟨ro, rc, by rw [hv2, List.length_map]⟩⟩
theorem RB.names {G : Prop} {w : World} {D m c : Nat} {no : Option Addr} {rv : Value} {RL : List (ByteArray × Ex)} (h : RB G w D (.slice no m c) rv RL) : HasN w no (RL.map (·.1)) := by
  obtain ⟨S1, S2, R, Z, n, h1, h2, h3, rfl, h5, h6, h7⟩ := h
  obtain ⟨no', nc', hv, -⟩ := h5.form
  injection hv with e1 e2 e3
  subst e1 e2 e3
  have e : ((Z.map (fun z => (z.1, z.2.1))).map (·.1)).map Value.string = Z.map (fun z => Value.string z.1) := by simp
  exact hasN_of (S := S1) (by rw [e]; exact h5)
/-- One rule more: the names' row has grown from w2 to w3, the rules' from w4 to w5; what is within was made from w0 to w1. -/
theorem RB.add {G : Prop} {w0 w1 w2 w3 w4 w5 : World} {D n n' g : Nat} {nv' rv' : Value} {S1 S2 R : Nat → Prop} {Z : List Zr} {nm : ByteArray} {x : Ex} {ko : Option Addr} {kc : Nat} (hg : g < D) (hD : D ≤ w0.heap.size)
    (h1 : ∀ b, S1 b ∨ S2 b ∨ R b → D ≤ b ∧ b < w0.heap.size) (h2 : ∀ b, R b → ¬ S1 b ∧ ¬ S2 b) (h3 : ∀ b, S1 b → ¬ S2 b) (h7 : G → ∀ z ∈ Z, HasP w0 R n z.2.2.1 z.2.1.kids)
    (hb1 : But (fun j => j = g) w0 w1) (hE : G → HasE w1 w0.heap.size n' ko x.kids) (hb2 : Below w1.heap.size w1 w2)
    (hw3 : Win (fun b => S1 b ∨ w2.heap.size ≤ b) 9 1 w3 nv' (Z.length + 1) (Z.map (fun z => Value.string z.1) ++ [.string nm])) (hb3 : But S1 w2 w3) (hb4 : Below w3.heap.size w3 w4)
    (hw5 : Win (fun b => S2 b ∨ w4.heap.size ≤ b) 42 8 w5 rv' (Z.length + 1) (Z.flatMap rrow ++ rrow (nm, x, ko, kc))) (hb5 : But S2 w4 w5) : RB G w5 D nv' rv' (Z.map (fun z => (z.1, z.2.1)) ++ [(nm, x)]) := by
  have s1 := hb1.size
  have s2 := hb2.size
  have s3 := hb3.size
  have s4 := hb4.size
  have s5 := hb5.size
  have k15 : ∀ (Q : Nat → Prop) (m : Nat) (ao : Option Addr) (K : List Ex), (∀ b, Q b → ¬ S1 b ∧ ¬ S2 b) → HasP w1 Q m ao K → HasP w5 Q m ao K := fun Q m ao K hq h =>
    (((h.but (But.of_below (S := fun _ => False) hb2) fun _ _ _ h => h).but hb3 fun j _ hj => (hq j hj).1).but (But.of_below (S := fun _ => False) hb4) fun _ _ _ h => h).but hb5 fun j _ hj => (hq j hj).2
  refine ⟨fun b => (S1 b ∨ w2.heap.size ≤ b) ∧ b < w3.heap.size, fun b => (S2 b ∨ w4.heap.size ≤ b) ∧ b < w5.heap.size, fun b => R b ∨ (w0.heap.size ≤ b ∧ b < w1.heap.size), Z ++ [(nm, x, ko, kc)], max n n', ?_, ?_, ?_, by simp, ?_, ?_, ?_⟩
  · intro b hb
    rcases hb with ⟨hb | hb, hlt⟩ | ⟨hb | hb, hlt⟩ | hb | hb
    · have := h1 b (.inl hb); omega
    · omega
    · have := h1 b (.inr (.inl hb)); omega
    · omega
    · have := h1 b (.inr (.inr hb)); omega
    · omega
  · intro b hb
    refine ⟨?_, ?_⟩
    · rintro ⟨hs, hlt⟩
      rcases hb with hb | hb
      · rcases hs with hs | hs
        · exact (h2 b hb).1 hs
        · have := h1 b (.inr (.inr hb)); omega
      · rcases hs with hs | hs
        · have := h1 b (.inl hs); omega
        · omega
    · rintro ⟨hs, hlt⟩
      rcases hb with hb | hb
      · rcases hs with hs | hs
        · exact (h2 b hb).2 hs
        · have := h1 b (.inr (.inr hb)); omega
      · rcases hs with hs | hs
        · have := h1 b (.inr (.inl hs)); omega
        · omega
  · rintro b ⟨hs, hlt⟩ ⟨ht, hlt2⟩
    rcases hs with hs | hs
    · rcases ht with ht | ht
      · exact h3 b hs ht
      · have := h1 b (.inl hs); omega
    · rcases ht with ht | ht
      · have := h1 b (.inr (.inl ht)); omega
      · omega
  · rw [List.length_append, List.map_append]
    refine Win.keep (T := S2) ((hw3.mono fun b hb hs => (⟨hs, hb⟩ : (S1 b ∨ w2.heap.size ≤ b) ∧ b < w3.heap.size)).below hb4) hb5 fun b _ hs h2' => ?_
    rcases hs.1 with hs' | hs'
    · exact h3 b hs' h2'
    · have := h1 b (.inr (.inl h2')); omega
  · rw [List.length_append, List.flatMap_append]
    have e : List.flatMap rrow [(nm, x, ko, kc)] = rrow (nm, x, ko, kc) := by simp
    rw [e]
    exact hw5.mono fun b hb hs => ⟨hs, hb⟩
  · intro hG z hz
    rw [List.mem_append, List.mem_singleton] at hz
    rcases hz with hz | rfl
    · have q := (h7 hG z hz).but hb1 fun j hj hr e => by have := h1 j (.inr (.inr hr)); omega
      exact ((k15 R n _ _ h2 q).mono (fun b _ h => .inl h)).upto _ (Nat.le_max_left _ _)
    · exact ((k15 _ n' _ _ (fun b hb => ⟨fun hs => by have := h1 b (.inl hs); omega, fun hs => by have := h1 b (.inr (.inl hs)); omega⟩) (HasP.ofE (hE hG))).mono (fun b _ h => .inr h)).upto _ (Nat.le_max_right _ _)
/-- Rules in memory, from D on. -/
def HasRu (w : World) (D n : Nat) (ro : Option Addr) (l : List (ByteArray × Ex)) : Prop := ∀ k x, l[k]? = some x → ∃ b off ko kc, ro = some ⟨b, off, none⟩ ∧ b < w.heap.size ∧ D ≤ b ∧ w.cell? ⟨b, off + k * 8, none⟩ = some (.string x.1) ∧
  w.cell? ⟨b, off + k * 8 + 1, none⟩ = some (.int .i64 x.2.op) ∧ w.cell? ⟨b, off + k * 8 + 2, none⟩ = some (.string x.2.text) ∧ w.cell? ⟨b, off + k * 8 + 3, none⟩ = some (.int .u64 x.2.s0) ∧ w.cell? ⟨b, off + k * 8 + 4, none⟩ = some (.int .u64 x.2.s1) ∧
  w.cell? ⟨b, off + k * 8 + 5, none⟩ = some (.int .u64 x.2.s2) ∧ w.cell? ⟨b, off + k * 8 + 6, none⟩ = some (.int .u64 x.2.s3) ∧ w.cell? ⟨b, off + k * 8 + 7, none⟩ = some (.slice ko x.2.kids.length kc) ∧ HasE w D n ko x.2.kids
theorem HasRu.but {S : Nat → Prop} {D n : Nat} {w w' : World} {ro : Option Addr} {l : List (ByteArray × Ex)} (h : HasRu w D n ro l) (hb : But S w w') (hS : ∀ j, S j → j < D) : HasRu w' D n ro l := fun k x hx => by
  obtain ⟨b, off, ko, kc, e, hlt, hD, c0, c1, c2, c3, c4, c5, c6, c7, hk⟩ := h k x hx
  have hn : ¬ S b := fun hs => by have := hS b hs; omega
  exact ⟨b, off, ko, kc, e, Nat.lt_of_lt_of_le hlt hb.size, hD, hb.cell hn c0, hb.cell hn c1, hb.cell hn c2, hb.cell hn c3, hb.cell hn c4, hb.cell hn c5, hb.cell hn c6, hb.cell hn c7, HasE.but hb hS hk⟩
theorem HasRu.low {D D' n : Nat} {w : World} {ro : Option Addr} {l : List (ByteArray × Ex)} (h : HasRu w D n ro l) (hD : D' ≤ D) : HasRu w D' n ro l := fun k x hx => by
  obtain ⟨b, off, ko, kc, e, hlt, hD2, c0, c1, c2, c3, c4, c5, c6, c7, hk⟩ := h k x hx
  exact ⟨b, off, ko, kc, e, hlt, by omega, c0, c1, c2, c3, c4, c5, c6, c7, HasE.low hD hk⟩
theorem RB.rules {G : Prop} {w : World} {D m c : Nat} {ro : Option Addr} {nv : Value} {RL : List (ByteArray × Ex)} (h : RB G w D nv (.slice ro m c) RL) (hG : G) : ∃ n, HasRu w D n ro RL := by
  obtain ⟨S1, S2, R, Z, n, h1, h2, h3, rfl, h5, h6, h7⟩ := h
  refine ⟨n, fun k x hx => ?_⟩
  have hk : k < Z.length := by have := (List.getElem?_eq_some_iff.1 hx).1; simpa using this
  obtain ⟨z, hz⟩ : ∃ z, Z[k]? = some z := ⟨_, List.getElem?_eq_getElem hk⟩
  obtain rfl : (z.1, z.2.1) = x := by
    rw [List.getElem?_map, hz] at hx
    simpa using hx
  obtain ⟨ao', cap, e1, _, _, hf⟩ := h6.form
  injection e1 with e1 e2 e3
  subst e1
  have get : ∀ j, j < 8 → ∃ g off, ro = some ⟨g, off, none⟩ ∧ S2 g ∧ g < w.heap.size ∧ w.cell? ⟨g, off + (k * 8 + j), none⟩ = (rrow z)[j]? := fun j hj => by
    obtain ⟨g, off, e, hs, hg, hc, _⟩ := hf (k * 8 + j) (by omega)
    exact ⟨g, off, e, hs, hg, by rw [hc, rrow_at Z k j z hz hj]⟩
  obtain ⟨g, off, e, hs, hg, c0⟩ := get 0 (by omega)
  subst e
  have get2 : ∀ j, j < 8 → w.cell? ⟨g, off + (k * 8 + j), none⟩ = (rrow z)[j]? := fun j hj => by
    obtain ⟨g', off', e, _, _, hc⟩ := get j hj
    injection e with e; injection e with e4 e5
    subst e4 e5
    exact hc
  exact ⟨g, off, z.2.2.1, z.2.2.2, rfl, hg, (h1 g (.inr (.inl hs))).1, c0, get2 1 (by omega), get2 2 (by omega), get2 3 (by omega), get2 4 (by omega), get2 5 (by omega), get2 6 (by omega), get2 7 (by omega), (h7 hG z (List.mem_of_getElem? hz)).toE fun b hb => (h1 b (.inr (.inr hb))).1⟩
theorem info_rule : (Try.prog.info? 42).map (fun i => (i.zero, i.size, i.bytes)) = some (some (.agg #[.string ⟨#[]⟩, .int .i64 0, .string ⟨#[]⟩, .int .u64 0, .int .u64 0, .int .u64 0, .int .u64 0, .slice none 0 0]), 8, 96) := by kernel_rfl

set_option maxRecDepth 1000000 in
set_option maxHeartbeats 800000 in
theorem p_body_x (g : Nat) (lo : Option Addr) (lc : Nat) (L : List Tok) (k : Nat) (f : Ft2) (hn : (L.length : Int) ≤ 90000) (hk : k < L.length) (w : World) (h : Pd w g lo lc L k (some f)) :
    Calls Try.prog 28 #[.pointer (some ⟨g, 0, none⟩)] w fun e w' => But (fun j => j = g) w w' ∧ e = .returned (exv ex0 none 0) ∧ Pd w' g lo lc L k (some f) := by
  have HH := Lib.hid h
  have HSG := Lib.hid (fun W (hW : Pd W g lo lc L k (some f)) => p_sign_x ⟨#[61]⟩ g lo lc L k f hn hk W hW)
  have HR := Lib.hid (Own.fresh w 36 [.int .i64 0, .string ⟨#[]⟩, .int .u64 0, .int .u64 0, .int .u64 0, .int .u64 0, .slice none 0 0])
  have H1 := Lib.hid (h.below ((Below.refl _ _).alloc (Nat.le_refl _) (.cells #[.int .i64 0, .string ⟨#[]⟩, .int .u64 0, .int .u64 0, .int .u64 0, .int .u64 0, .slice none 0 0] 36)))
  have HU := Lib.hid (But.of_below (S := fun j => j = g) ((Below.refl w.heap.size w).alloc (Nat.le_refl _) (.cells #[.int .i64 0, .string ⟨#[]⟩, .int .u64 0, .int .u64 0, .int .u64 0, .int .u64 0, .slice none 0 0] 36)))
  have HGN := Lib.hid (show g < w.heap.size from h.1.lt)
  clear h
  go_enter Try.func28, Try.ntmps28
  go_upto_region 1 with fail
  generalize World.alloc w _ = w1 at *
  obtain ⟨N, hN⟩ : ∃ N, w.heap.size = N := ⟨_, rfl⟩
  rw [hN] at HR HGN
  rw [hN]
  have HNN := Lib.hid hN
  clear hN
  go_wp2_with fail
  refine (HSG.out _ H1.out).mono ?_
  rintro e w2 ⟨rfl, hbu, hp⟩
  have HR2 := Lib.hid (HR.out.but hbu (by have := HGN.out; omega))
  have HU2 := Lib.hid (HU.out.trans hbu (fun _ _ h => h))
  have HP3 := Lib.hid hp
  obtain ⟨c0, c1, c2, c3, c4, c5, cg⟩ := HP3.out.1.six_r
  have c2' : w2.cell? ⟨g, 2, none⟩ = some (.int .i64 f.1) := c2
  have ef : (f.1 != 0) = true := bne_iff_ne.2 (HP3.out.2.2.2 f rfl)
  clear hbu hp HR HU H1 c0 c1 c2 c3 c4 c5
  obtain ⟨z0, z1, z2, z3, z4, z5, z6, y0, y1, y2, y3, y4, y5, y6⟩ := HR2.out.seven2
  have zl := HR2.out.lt
  go_wp2
  rw [set7t_fold]
  have HF := HR2.out.put7 (u0 := .int .i64 0) (u1 := .string ⟨#[]⟩) (u2 := .int .u64 0) (u3 := .int .u64 0) (u4 := .int .u64 0) (u5 := .int .u64 0) (u6 := .slice none 0 0)
  obtain ⟨hU, hR⟩ := Pd.fin HH.out (Nat.le_of_eq HNN.out) HU2.out HP3.out (.int .i64 0) (.string ⟨#[]⟩) (.int .u64 0) (.int .u64 0) (.int .u64 0) (.int .u64 0) (.slice none 0 0)
  clear z0 z1 z2 z3 z4 z5 z6 y0 y1 y2 y3 y4 y5 y6
  generalize set7t _ N _ _ _ _ _ _ _ = w99 at *
  obtain ⟨z0, z1, z2, z3, z4, z5, z6⟩ := HF.seven
  refine bodyPost_ret (by simp [results, Try.results28, go_sem, z0, z1, z2, z3, z4, z5, z6]; rfl) rfl ?_
  exact ⟨hU, rfl, hR⟩
end Go.Proofs.Ytihcmneidbjmlaa
