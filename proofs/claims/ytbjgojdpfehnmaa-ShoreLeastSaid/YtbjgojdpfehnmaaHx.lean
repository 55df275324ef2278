import Derived.Test.YtbjgojdpfehnmaaHv
namespace Go.Proofs.Ytbjgojdpfehnmaa
set_option linter.unusedVariables false
set_option maxHeartbeats 12800000
set_option maxRecDepth 1000000
open Go.RowKit Go.Sort
abbrev Zr := ByteArray × Zx
def rrow (z : Zr) : List Value := .string z.1 :: xrow z.2
theorem rrow_at : ∀ (Z : List Zr) (k j : Nat) (z : Zr), Z[k]? = some z → j < 8 → (Z.flatMap rrow)[k * 8 + j]? = (rrow z)[j]?
 | [], k, j, h, hk, hj => by simp at hk
 | x :: L, 0, j, h, hk, hj => by
  simp at hk; subst hk
  rw [List.flatMap_cons, List.getElem?_append_left (by show 0 * 8 + j < 8; omega), Nat.zero_mul, Nat.zero_add]
 | x :: L, k + 1, j, h, hk, hj => by
  rw [List.flatMap_cons, List.getElem?_append_right (by show 8 ≤ (k + 1) * 8 + j; omega), show (k + 1) * 8 + j - (rrow x).length = k * 8 + j by show (k + 1) * 8 + j - 8 = _; omega]
  exact rrow_at L k j h (by simpa using hk) hj
def RB (G : Prop) (w : World) (D : Nat) (nv rv : Value) (RL : List (ByteArray × Ex)) : Prop :=
 ∃ (S1 S2 R : Nat → Prop) (Z : List Zr) (n : Nat), (∀ b, S1 b ∨ S2 b ∨ R b → D ≤ b ∧ b < w.heap.size) ∧ (∀ b, R b → ¬ S1 b ∧ ¬ S2 b) ∧ (∀ b, S1 b → ¬ S2 b) ∧ Z.map (fun z => (z.1, z.2.1)) = RL ∧
  Win S1 9 1 w nv Z.length (Z.map (fun z => Value.string z.1)) ∧ Win S2 90 8 w rv Z.length (Z.flatMap rrow) ∧ (G → ∀ z ∈ Z, HasP w R n z.2.2.1 z.2.1.kids)
theorem RB.start (G : Prop) (w : World) (D : Nat) : RB G w D (.slice none 0 0) (.slice none 0 0) [] :=
 ⟨fun _ => False, fun _ => False, fun _ => False, [], 0, (fun b h => by rcases h with h | h | h <;> cases h), (fun b h => by cases h), (fun b h => by cases h), rfl, Win.nil _ _ _ _, Win.nil _ _ _ _, fun _ z hz => absurd hz List.not_mem_nil⟩
theorem RB.keep {G : Prop} {w w' : World} {D : Nat} {nv rv : Value} {RL : List (ByteArray × Ex)} {U : Nat → Prop} (h : RB G w D nv rv RL) (hb : But U w w') (hU : ∀ b, U b → b < D) : RB G w' D nv rv RL := by
 obtain ⟨S1, S2, R, Z, n, h1, h2, h3, h4, h5, h6, h7⟩ := h
 refine ⟨S1, S2, R, Z, n, fun b hb' => ⟨(h1 b hb').1, aL (h1 b hb').2 hb.size⟩, h2, h3, h4, h5.keep hb fun g _ hs hu => ?_, h6.keep hb fun g _ hs hu => ?_, fun hG z hz => (h7 hG z hz).but hb fun g _ hr hu => ?_⟩
 ·
  have := hU g hu; have := (h1 g (.inl hs)).1; omega
 ·
  have := hU g hu; have := (h1 g (.inr (.inl hs))).1; omega
 ·
  have := hU g hu; have := (h1 g (.inr (.inr hr))).1; omega
theorem RB.below {G : Prop} {w w' : World} {D : Nat} {nv rv : Value} {RL : List (ByteArray × Ex)} (h : RB G w D nv rv RL) (hb : Below w.heap.size w w') : RB G w' D nv rv RL :=
 h.keep (U := fun _ => False) (But.of_below hb) fun _ h => h.elim
theorem RB.form {G : Prop} {w : World} {D : Nat} {nv rv : Value} {RL : List (ByteArray × Ex)} (h : RB G w D nv rv RL) : (∃ no nc, nv = .slice no RL.length nc) ∧ ∃ ro rc, rv = .slice ro RL.length rc := by
 obtain ⟨S1, S2, R, Z, n, h1, h2, h3, rfl, h5, h6, h7⟩ := h
 obtain ⟨no, nc, hv, -⟩ := h5.form
 obtain ⟨ro, rc, hv2, -⟩ := h6.form
 exact ⟨⟨no, nc, by rw [hv, List.length_map]⟩, ⟨ro, rc, by rw [hv2, List.length_map]⟩⟩
theorem RB.names {G : Prop} {w : World} {D m c : Nat} {no : Option Addr} {rv : Value} {RL : List (ByteArray × Ex)} (h : RB G w D (.slice no m c) rv RL) : HasN w no (RL.map (·.1)) := by
 obtain ⟨S1, S2, R, Z, n, h1, h2, h3, rfl, h5, h6, h7⟩ := h
 obtain ⟨no', nc', hv, -⟩ := h5.form
 injection hv with e1 e2 e3
 subst e1 e2 e3
 have e : ((Z.map (fun z => (z.1, z.2.1))).map (·.1)).map Value.string = Z.map (fun z => Value.string z.1) := by simp
 exact hasN_of (S := S1) (by rw [e]; exact h5)
theorem RB.add {G : Prop} {w0 w1 w2 w3 w4 w5 : World} {D n n' g : Nat} {nv' rv' : Value} {S1 S2 R : Nat → Prop} {Z : List Zr} {nm : ByteArray} {x : Ex} {ko : Option Addr} {kc : Nat} (hg : g < D) (hD : D ≤ w0.heap.size)
  (h1 : ∀ b, S1 b ∨ S2 b ∨ R b → D ≤ b ∧ b < w0.heap.size) (h2 : ∀ b, R b → ¬ S1 b ∧ ¬ S2 b) (h3 : ∀ b, S1 b → ¬ S2 b) (h7 : G → ∀ z ∈ Z, HasP w0 R n z.2.2.1 z.2.1.kids)
  (hb1 : But (fun j => j = g) w0 w1) (hE : G → HasE w1 w0.heap.size n' ko x.kids) (hb2 : Below w1.heap.size w1 w2)
  (hw3 : Win (fun b => S1 b ∨ w2.heap.size ≤ b) 9 1 w3 nv' (Z.length + 1) (Z.map (fun z => Value.string z.1) ++ [.string nm])) (hb3 : But S1 w2 w3) (hb4 : Below w3.heap.size w3 w4)
  (hw5 : Win (fun b => S2 b ∨ w4.heap.size ≤ b) 90 8 w5 rv' (Z.length + 1) (Z.flatMap rrow ++ rrow (nm, x, ko, kc))) (hb5 : But S2 w4 w5) : RB G w5 D nv' rv' (Z.map (fun z => (z.1, z.2.1)) ++ [(nm, x)]) := by
 have s1 := hb1.size
 have s2 := hb2.size
 have s3 := hb3.size
 have s4 := hb4.size
 have s5 := hb5.size
 have k15 : ∀ (Q : Nat → Prop) (m : Nat) (ao : Option Addr) (K : List Ex), (∀ b, Q b → ¬ S1 b ∧ ¬ S2 b) → HasP w1 Q m ao K → HasP w5 Q m ao K := fun Q m ao K hq h =>
  (((h.but (But.of_below (S := fun _ => False) hb2) fun _ _ _ h => h).but hb3 fun j _ hj => (hq j hj).1).but (But.of_below (S := fun _ => False) hb4) fun _ _ _ h => h).but hb5 fun j _ hj => (hq j hj).2
 refine ⟨fun b => (S1 b ∨ w2.heap.size ≤ b) ∧ b < w3.heap.size, fun b => (S2 b ∨ w4.heap.size ≤ b) ∧ b < w5.heap.size, fun b => R b ∨ (w0.heap.size ≤ b ∧ b < w1.heap.size), Z ++ [(nm, x, ko, kc)], max n n', ?_, ?_, ?_, by simp, ?_, ?_, ?_⟩
 ·
  intro b hb
  rcases hb with ⟨hb | hb, hlt⟩ | ⟨hb | hb, hlt⟩ | hb | hb
  ·
   have := h1 b (.inl hb); omega
  ·
   omega
  ·
   have := h1 b (.inr (.inl hb)); omega
  ·
   omega
  ·
   have := h1 b (.inr (.inr hb)); omega
  ·
   omega
 ·
  intro b hb
  refine ⟨?_, ?_⟩
  ·
   rintro ⟨hs, hlt⟩
   rcases hb with hb | hb
   ·
    rcases hs with hs | hs
    ·
     exact (h2 b hb).1 hs
    ·
     have := h1 b (.inr (.inr hb)); omega
   ·
    rcases hs with hs | hs
    ·
     have := h1 b (.inl hs); omega
    ·
     omega
  ·
   rintro ⟨hs, hlt⟩
   rcases hb with hb | hb
   ·
    rcases hs with hs | hs
    ·
     exact (h2 b hb).2 hs
    ·
     have := h1 b (.inr (.inr hb)); omega
   ·
    rcases hs with hs | hs
    ·
     have := h1 b (.inr (.inl hs)); omega
    ·
     omega
 ·
  rintro b ⟨hs, hlt⟩ ⟨ht, hlt2⟩
  rcases hs with hs | hs
  ·
   rcases ht with ht | ht
   ·
    exact h3 b hs ht
   ·
    have := h1 b (.inl hs); omega
  ·
   rcases ht with ht | ht
   ·
    have := h1 b (.inr (.inl ht)); omega
   ·
    omega
 ·
  rw [List.length_append, List.map_append]
  refine Win.keep (T := S2) ((hw3.mono fun b hb hs => (⟨hs, hb⟩ : (S1 b ∨ w2.heap.size ≤ b) ∧ b < w3.heap.size)).below hb4) hb5 fun b _ hs h2' => ?_
  rcases hs.1 with hs' | hs'
  ·
   exact h3 b hs' h2'
  ·
   have := h1 b (.inr (.inl h2')); omega
 ·
  rw [List.length_append, List.flatMap_append]
  have e : List.flatMap rrow [(nm, x, ko, kc)] = rrow (nm, x, ko, kc) := by simp
  rw [e]
  exact hw5.mono fun b hb hs => ⟨hs, hb⟩
 ·
  intro hG z hz
  rw [List.mem_append, List.mem_singleton] at hz
  rcases hz with hz | rfl
  ·
   have q := (h7 hG z hz).but hb1 fun j hj hr e => by have := h1 j (.inr (.inr hr)); omega
   exact ((k15 R n _ _ h2 q).mono (fun b _ h => .inl h)).upto _ (Nat.le_max_left _ _)
  ·
   exact ((k15 _ n' _ _ (fun b hb => ⟨fun hs => by have := h1 b (.inl hs); omega, fun hs => by have := h1 b (.inr (.inl hs)); omega⟩) (HasP.ofE (hE hG))).mono (fun b _ h => .inr h)).upto _ (Nat.le_max_right _ _)
def HasRu (w : World) (D n : Nat) (ro : Option Addr) (l : List (ByteArray × Ex)) : Prop := ∀ k x, l[k]? = some x → ∃ b off ko kc, ro = some ⟨b, off, none⟩ ∧ b < w.heap.size ∧ D ≤ b ∧ w.cell? ⟨b, off + k * 8, none⟩ = some (.string x.1) ∧
 w.cell? ⟨b, off + k * 8 + 1, none⟩ = some (.int .i64 x.2.op) ∧ w.cell? ⟨b, off + k * 8 + 2, none⟩ = some (.string x.2.text) ∧ w.cell? ⟨b, off + k * 8 + 3, none⟩ = some (.int .u64 x.2.s0) ∧ w.cell? ⟨b, off + k * 8 + 4, none⟩ = some (.int .u64 x.2.s1) ∧
 w.cell? ⟨b, off + k * 8 + 5, none⟩ = some (.int .u64 x.2.s2) ∧ w.cell? ⟨b, off + k * 8 + 6, none⟩ = some (.int .u64 x.2.s3) ∧ w.cell? ⟨b, off + k * 8 + 7, none⟩ = some (.slice ko x.2.kids.length kc) ∧ HasE w D n ko x.2.kids
theorem HasRu.but {S : Nat → Prop} {D n : Nat} {w w' : World} {ro : Option Addr} {l : List (ByteArray × Ex)} (h : HasRu w D n ro l) (hb : But S w w') (hS : ∀ j, S j → j < D) : HasRu w' D n ro l := fun k x hx => by
 obtain ⟨b, off, ko, kc, e, hlt, hD, c0, c1, c2, c3, c4, c5, c6, c7, hk⟩ := h k x hx
 have hn : ¬ S b := fun hs => by have := hS b hs; omega
 exact ⟨b, off, ko, kc, e, aL hlt hb.size, hD, hb.cell hn c0, hb.cell hn c1, hb.cell hn c2, hb.cell hn c3, hb.cell hn c4, hb.cell hn c5, hb.cell hn c6, hb.cell hn c7, HasE.but hb hS hk⟩
theorem HasRu.low {D D' n : Nat} {w : World} {ro : Option Addr} {l : List (ByteArray × Ex)} (h : HasRu w D n ro l) (hD : D' ≤ D) : HasRu w D' n ro l := fun k x hx => by
 obtain ⟨b, off, ko, kc, e, hlt, hD2, c0, c1, c2, c3, c4, c5, c6, c7, hk⟩ := h k x hx
 exact ⟨b, off, ko, kc, e, hlt, by omega, c0, c1, c2, c3, c4, c5, c6, c7, HasE.low hD hk⟩
theorem RB.room {G : Prop} {w : World} {D m c : Nat} {ro : Option Addr} {nv : Value} {RL : List (ByteArray × Ex)} (h : RB G w D nv (.slice ro m c) RL) : RL.length ≤ c := by
 obtain ⟨S1, S2, R, Z, n, h1, h2, h3, h4, h5, h6, h7⟩ := h
 obtain ⟨ao, cap, e1, hle, -⟩ := h6.form
 injection e1 with e1 e2 e3
 subst e3
 rw [← h4, List.length_map]
 exact hle
theorem RB.rules {G : Prop} {w : World} {D m c : Nat} {ro : Option Addr} {nv : Value} {RL : List (ByteArray × Ex)} (h : RB G w D nv (.slice ro m c) RL) (hG : G) : ∃ n, HasRu w D n ro RL := by
 obtain ⟨S1, S2, R, Z, n, h1, h2, h3, rfl, h5, h6, h7⟩ := h
 refine ⟨n, fun k x hx => ?_⟩
 have hk : k < Z.length := by have := (aS.1 hx).1; simpa using this
 obtain ⟨z, hz⟩ : ∃ z, Z[k]? = some z := ⟨_, aG hk⟩
 obtain rfl : (z.1, z.2.1) = x := by
  rw [List.getElem?_map, hz] at hx
  simpa using hx
 obtain ⟨ao', cap, e1, _, _, hf⟩ := h6.form
 injection e1 with e1 e2 e3
 subst e1
 have get : ∀ j, j < 8 → ∃ g off, ro = some ⟨g, off, none⟩ ∧ S2 g ∧ g < w.heap.size ∧ w.cell? ⟨g, off + (k * 8 + j), none⟩ = (rrow z)[j]? := fun j hj => by
  obtain ⟨g, off, e, hs, hg, hc, _⟩ := hf (k * 8 + j) (by omega)
  exact ⟨g, off, e, hs, hg, by rw [hc, rrow_at Z k j z hz hj]⟩
 obtain ⟨g, off, e, hs, hg, c0⟩ := get 0 (by omega)
 subst e
 have get2 : ∀ j, j < 8 → w.cell? ⟨g, off + (k * 8 + j), none⟩ = (rrow z)[j]? := fun j hj => by
  obtain ⟨g', off', e, _, _, hc⟩ := get j hj
  injection e with e; injection e with e4 e5
  subst e4 e5
  exact hc
 exact ⟨g, off, z.2.2.1, z.2.2.2, rfl, hg, (h1 g (.inr (.inl hs))).1, c0, get2 1 (by omega), get2 2 (by omega), get2 3 (by omega), get2 4 (by omega), get2 5 (by omega), get2 6 (by omega), get2 7 (by omega), (h7 hG z (aM hz)).toE fun b hb => (h1 b (.inr (.inr hb))).1⟩
theorem info_rule : (Try.prog.info? 90).map (fun i => (i.zero, i.size, i.bytes)) = some (some (.agg #[.string ⟨#[]⟩, .int .i64 0, .string ⟨#[]⟩, .int .u64 0, .int .u64 0, .int .u64 0, .int .u64 0, .slice none 0 0]), 8, 96) := by kernel_rfl
theorem p_body_x (g : Nat) (lo : Option Addr) (lc : Nat) (L : List Tok) (k : Nat) (f : Ft2) (hn : (L.length : Int) ≤ 90000) (hk : k < L.length) (w : World) (h : Pd w g lo lc L k (some f)) :
  Calls Try.prog 68 #[.pointer (some ⟨g, 0, none⟩)] w fun e w' => But (fun j => j = g) w w' ∧ e = .returned (exv ex0 none 0) ∧ Pd w' g lo lc L k (some f) := by
 have HH := aH h
 have HSG := aH (fun W (hW : Pd W g lo lc L k (some f)) => p_sign_x ⟨#[61]⟩ g lo lc L k f hn hk W hW)
 have HR := aH (Own.fresh w 79 [.int .i64 0, .string ⟨#[]⟩, .int .u64 0, .int .u64 0, .int .u64 0, .int .u64 0, .slice none 0 0])
 have H1 := aH (h.below (bA (.cells #[.int .i64 0, .string ⟨#[]⟩, .int .u64 0, .int .u64 0, .int .u64 0, .int .u64 0, .slice none 0 0] 79)))
 have HU := aH (But.of_below (S := fun j => j = g) ((Below.refl w.heap.size w).alloc (Nat.le_refl _) (.cells #[.int .i64 0, .string ⟨#[]⟩, .int .u64 0, .int .u64 0, .int .u64 0, .int .u64 0, .slice none 0 0] 79)))
 have HGN := aH (show g < w.heap.size from h.1.lt)
 clear h
 go_enter Try.func68, Try.ntmps68
 go_upto_region 1 with fail
 generalize World.alloc w _ = w1 at *
 obtain ⟨N, hN⟩ : ∃ N, w.heap.size = N := ⟨_, rfl⟩
 rw [hN] at HR HGN
 rw [hN]
 have HNN := aH hN
 clear hN
 go_wp2_with fail
 refine (HSG.o _ H1.o).mono ?_
 rintro e w2 ⟨rfl, hbu, hp⟩
 have HR2 := aH (HR.o.but hbu (by have := HGN.o; omega))
 have HU2 := aH (HU.o.trans hbu (fun _ _ h => h))
 have HP3 := aH hp
 obtain ⟨c0, c1, c2, c3, c4, c5, cg⟩ := HP3.o.1.six_r
 have c2' : w2.cell? ⟨g, 2, none⟩ = some (.int .i64 f.1) := c2
 have ef : (f.1 != 0) = true := bne_iff_ne.2 (HP3.o.2.2.2 f rfl)
 clear hbu hp HR HU H1 c0 c1 c2 c3 c4 c5
 obtain ⟨z0, z1, z2, z3, z4, z5, z6, y0, y1, y2, y3, y4, y5, y6⟩ := HR2.o.seven2
 have zl := HR2.o.lt
 go_wp2
 rw [set7t_fold]
 have HF := HR2.o.put7 (u0 := .int .i64 0) (u1 := .string ⟨#[]⟩) (u2 := .int .u64 0) (u3 := .int .u64 0) (u4 := .int .u64 0) (u5 := .int .u64 0) (u6 := .slice none 0 0)
 obtain ⟨hU, hR⟩ := Pd.fin HH.o (Nat.le_of_eq HNN.o) HU2.o HP3.o (.int .i64 0) (.string ⟨#[]⟩) (.int .u64 0) (.int .u64 0) (.int .u64 0) (.int .u64 0) (.slice none 0 0)
 clear z0 z1 z2 z3 z4 z5 z6 y0 y1 y2 y3 y4 y5 y6
 generalize set7t _ N _ _ _ _ _ _ _ = w99 at *
 obtain ⟨z0, z1, z2, z3, z4, z5, z6⟩ := HF.seven
 refine bodyPost_ret (by simp [results, Try.results68, go_sem, z0, z1, z2, z3, z4, z5, z6]; rfl) rfl ?_
 exact ⟨hU, rfl, hR⟩
def mdT (m : Md) : Except Ft2 (List (ByteArray × Ex)) → Except Ft2 Md
 | .error e => .error e
 | .ok R => .ok { m with ru := R }
def modQ (L : List Tok) : Except Ft2 (Md × Nat) → Except Ft2 Md
 | .error e => .error e
 | .ok (m, k) => mdT m (rulL L (L.length + 1) [] k)
theorem modL_q (L : List Tok) : modL L = modQ L (hedO L) := by
 unfold modL
 cases hedO L with
 | error e => rfl
 | ok p =>
  obtain ⟨m, k⟩ := p
  show (match rulL L (L.length + 1) [] k with | .error e => Except.error e | .ok R => .ok { m with ru := R }) = mdT m (rulL L (L.length + 1) [] k)
  cases rulL L (L.length + 1) [] k <;> rfl
def rulR (L : List Tok) (m : Md) (f : Nat) (R : List (ByteArray × Ex)) (nm : ByteArray) : Rs → Except Ft2 Md
 | .error e => .error e
 | .ok (x, k2) => mdT m (rulL L f (R ++ [(nm, x)]) k2)
def rulN (L : List Tok) (m : Md) (f : Nat) (R : List (ByteArray × Ex)) (k : Nat) : Except Ft2 (ByteArray × Nat) → Except Ft2 Md
 | .error e => .error e
 | .ok (nm, k1) => if R.length = 24 then .error (faultAt L 3 k) else rulR L m f R nm (bodO L k1)
theorem rulL_q (L : List Tok) (m : Md) {f : Nat} (hf : 0 < f) (R : List (ByteArray × Ex)) (k : Nat) : mdT m (rulL L f R k) = if (tkA L k).kd = 0 then .ok { m with ru := R } else rulN L m (f - 1) R k (nmeO L (R.map (·.1)) k) := by
 obtain ⟨f, rfl⟩ : ∃ q, f = q + 1 := ⟨f - 1, by omega⟩
 rw [Nat.add_sub_cancel]
 conv => lhs; unfold rulL
 split
 ·
  rfl
 ·
  cases nmeO L (R.map (·.1)) k with
  | error e => rfl
  | ok p =>
   obtain ⟨nm, k1⟩ := p
   show mdT m (if R.length = 24 then .error (faultAt L 3 k) else match bodO L k1 with | .error e => .error e | .ok (x, k2) => rulL L f (R ++ [(nm, x)]) k2) = if R.length = 24 then .error (faultAt L 3 k) else rulR L m f R nm (bodO L k1)
   split
   ·
    rfl
   ·
    cases bodO L k1 <;> rfl
def RuQ (L : List Tok) (RES : Except Ft2 Md) (m : Md) (R : List (ByteArray × Ex)) (k : Nat) : Option Ft2 → Prop
 | none => R.length ≤ 24 ∧ ∃ f, RES = mdT m (rulL L f R k) ∧ L.length < f + k
 | some f => RES = .error f ∧ f.1 ≠ 0
def MdE (D : Nat) (r : Except Ft2 Md) (e : Ending) (w' : World) : Prop := match r with
 | .error f => e = .returned (.tuple #[.agg #[.string ⟨#[]⟩, .slice none 0 0, .bool false, .int .i64 0, .string ⟨#[]⟩, .int .u64 0, .int .u64 0, .int .u64 0, .int .u64 0, .slice none 0 0, .slice none 0 0], .agg #[.int .i64 f.1, .int .i64 f.2, .int .i64 0, .int .i64 0]]) ∧ f.1 ≠ 0
 | .ok m => ∃ io ic ko kc ro rc n, e = .returned (.tuple #[.agg #[.string m.nm, .slice io m.im.length ic, .bool m.wet, .int .i64 m.wa.op, .string m.wa.text, .int .u64 m.wa.s0, .int .u64 m.wa.s1, .int .u64 m.wa.s2, .int .u64 m.wa.s3, .slice ko m.wa.kids.length kc, .slice ro m.ru.length rc], .agg #[.int .i64 0, .int .i64 0, .int .i64 0, .int .i64 0]]) ∧ m.im.length ≤ ic ∧ m.ru.length ≤ rc ∧ HasNR w' (fun b => D ≤ b) io m.im ∧ HasE w' D n ko m.wa.kids ∧ HasRu w' D n ro m.ru
theorem HasRu.upto {w : World} {D n : Nat} {ro : Option Addr} {l : List (ByteArray × Ex)} (h : HasRu w D n ro l) (m : Nat) (hm : n ≤ m) : HasRu w D m ro l := fun k x hx => by
 obtain ⟨b, off, ko, kc, e, hlt, hD2, c0, c1, c2, c3, c4, c5, c6, c7, hk⟩ := h k x hx
 exact ⟨b, off, ko, kc, e, hlt, hD2, c0, c1, c2, c3, c4, c5, c6, c7, hk.upto m hm⟩
@[go_sem 2000] theorem rbuild (t : ByteArray) (a : Int) (b : ByteArray) (c d e f : Int) (A : Option Addr) (n m : Nat) (w : World) : (Instr.build 90 #[(0, .string t), (1, .agg #[.int .i64 a, .string b, .int .u64 c, .int .u64 d, .int .u64 e, .int .u64 f, .slice A n m])]).run Try.prog w = .ok (.agg #[.string t, .int .i64 a, .string b, .int .u64 c, .int .u64 d, .int .u64 e, .int .u64 f, .slice A n m]) w := by kernel_rfl
@[go_sem 2000] theorem cbuild (A : Option Addr) (n m : Nat) (w : World) : (Instr.build 105 #[(0, .slice A n m)]).run Try.prog w = .ok (.agg #[.slice A n m, .int .i64 0, .int .i64 0, .int .i64 0, .int .i64 0, .int .i64 0]) w := by kernel_rfl
theorem parse9_any (s : ByteArray) (hs : s.size ≤ 4000) (w : World) : Calls Try.prog 46 #[.string s] w fun e w' => MdE w.heap.size (modO s) e w' ∧ Below w.heap.size w w' := by
 obtain ⟨OS, hOS⟩ : ∃ OS : List Obj, OS = [.cells #[.string ⟨#[]⟩, .slice none 0 0, .bool false, .int .i64 0, .string ⟨#[]⟩, .int .u64 0, .int .u64 0, .int .u64 0, .int .u64 0, .slice none 0 0, .slice none 0 0] 82, .cells #[.int .i64 0, .int .i64 0, .int .i64 0, .int .i64 0] 57] := ⟨_, rfl⟩
 obtain ⟨A, hA⟩ : ∃ A, w.heap.size = A := ⟨_, rfl⟩
 obtain ⟨F, hF⟩ : ∃ F, A + 1 = F := ⟨_, rfl⟩
 have HN := aH (show A + 1 = F ∧ w.heap.size = A from ⟨hF, hA⟩)
 have HA := aH (show Own (made w OS) A 82 [.string ⟨#[]⟩, .slice none 0 0, .bool false, .int .i64 0, .string ⟨#[]⟩, .int .u64 0, .int .u64 0, .int .u64 0, .int .u64 0, .slice none 0 0, .slice none 0 0] by rw [← hA]; exact made_own OS w 0 _ _ (by rw [hOS]; rfl))
 have HF := aH (show Own (made w OS) F 57 [.int .i64 0, .int .i64 0, .int .i64 0, .int .i64 0] by rw [← hF, ← hA]; exact made_own OS w 1 _ _ (by rw [hOS]; rfl))
 have HB := aH (show Below A w (made w OS) by rw [← hA]; exact made_below w OS w (Below.refl _ _))
 have HAL := aH (fun W => rall_any s hs W)
 have hW : (w.alloc (.cells #[.string ⟨#[]⟩, .slice none 0 0, .bool false, .int .i64 0, .string ⟨#[]⟩, .int .u64 0, .int .u64 0, .int .u64 0, .int .u64 0, .slice none 0 0, .slice none 0 0] 82)).alloc (.cells #[.int .i64 0, .int .i64 0, .int .i64 0, .int .i64 0] 57) = made w OS := by rw [hOS]; rfl
 have HSP := aH (show modO s = (match allO s with | .error k => .error (2, (k : Int)) | .ok L => modL L) from rfl)
 obtain ⟨ra, hra⟩ : ∃ r, allO s = r := ⟨_, rfl⟩
 have HRA := aH hra
 rw [hra] at HAL HSP
 generalize modO s = RES at *
 clear hOS hra
 have ne1 : ¬ A = F := by omega
 have ne2 : ¬ F = A := by omega
 go_enter Try.func46, Try.ntmps46
 go_upto_region 1 with fail
 try rw [hA]
 clear hA hF hW
 generalize made w OS = w1 at *
 go_wp2_with fail
 refine (HAL.o _).mono ?_
 rintro e w2 ⟨he, hb⟩
 have HA2 := aH (HA.o.under hb HA.o.lt)
 have HF2 := aH (HF.o.under hb HF.o.lt)
 have HB2 := aH (HB.o.trans (hb.mono (by have := HA.o.lt; omega)))
 have HS2 := aH (show F < w2.heap.size from HF2.o.lt)
 clear hb HA HF HB HAL
 cases ra
 case error k =>
  obtain rfl : e = .returned (.tuple #[.slice none 0 0, .agg #[.int .i64 2, .int .i64 (k : Int), .int .i64 0, .int .i64 0]]) := he
  have HE := aH (show RES = .error (2, (k : Int)) from HSP.o)
  have hbl1 : Below w2.heap.size w2 (w2.alloc (.cells #[.int .i64 2, .int .i64 (k : Int), .int .i64 0, .int .i64 0] 57)) := bA _
  have HA3 := aH (HA2.o.under hbl1 HA2.o.lt)
  have HF3 := aH (HF2.o.under hbl1 HF2.o.lt)
  have HB3 := aH (HB2.o.trans (hbl1.mono (by have := HS2.o; have := HN.o; omega)))
  have HO3 := aH (Own.fresh w2 57 [.int .i64 2, .int .i64 (k : Int), .int .i64 0, .int .i64 0])
  clear hbl1 HA2 HF2 HB2
  go_upto_region 2 with fail
  generalize w2.alloc _ = w3 at *
  generalize w2.heap.size = G at *
  have ne3 : ¬ A = G := by have := HS2.o; have := HN.o; omega
  have ne4 : ¬ G = A := fun e => ne3 e.symm
  have ne5 : ¬ F = G := by have := HS2.o; omega
  have ne6 : ¬ G = F := fun e => ne5 e.symm
  obtain ⟨b0, b1, b2, b3, b4, b5, b6, b7, b8, b9, bA⟩ := HA3.o.elev
  obtain ⟨f0, f1, f2, f3, f4, f5, f6, f7, f8, f9, fA⟩ := HA3.o.elevf
  have bl := HA3.o.lt
  obtain ⟨g0, g1, g2, g3, h0, h1, h2, h3⟩ := HF3.o.four
  have gl := HF3.o.lt
  obtain ⟨c0, c1, c2, c3, -⟩ := HO3.o.four
  have cl := HO3.o.lt
  go_wp2_with fail
  go_region
  go_wp2
  rw [setEl_fold, set4_fold]
  have HAA := (Own.but (Own.putEl HA3.o (.string ⟨#[]⟩) (.slice none 0 0) (.bool false) (.int .i64 0) (.string ⟨#[]⟩) (.int .u64 0) (.int .u64 0) (.int .u64 0) (.int .u64 0) (.slice none 0 0) (.slice none 0 0)) (But.set4 _ F (.int .i64 2) (.int .i64 (k : Int)) (.int .i64 0) (.int .i64 0)) ne1).on_drew
  have HFF := (Own.put4 (Own.but HF3.o (But.setEl w3 A (.string ⟨#[]⟩) (.slice none 0 0) (.bool false) (.int .i64 0) (.string ⟨#[]⟩) (.int .u64 0) (.int .u64 0) (.int .u64 0) (.int .u64 0) (.slice none 0 0) (.slice none 0 0)) ne2) (u0 := .int .i64 2) (u1 := .int .i64 (k : Int)) (u2 := .int .i64 0) (u3 := .int .i64 0)).on_drew
  have HBB := (below_put4 (HB3.o.trans ((But.setEl w3 A (.string ⟨#[]⟩) (.slice none 0 0) (.bool false) (.int .i64 0) (.string ⟨#[]⟩) (.int .u64 0) (.int .u64 0) (.int .u64 0) (.int .u64 0) (.slice none 0 0) (.slice none 0 0)).below (B := A) (by have := bl; omega) (fun j hj => by omega))) (g := F) (by have := HN.o; omega) (.int .i64 2) (.int .i64 (k : Int)) (.int .i64 0) (.int .i64 0)).drew
  have HUU := aH (((But.refl (fun j => j = A ∨ j = F) w3).trans (But.setEl w3 A (.string ⟨#[]⟩) (.slice none 0 0) (.bool false) (.int .i64 0) (.string ⟨#[]⟩) (.int .u64 0) (.int .u64 0) (.int .u64 0) (.int .u64 0) (.slice none 0 0) (.slice none 0 0)) (fun j _ h => .inl h)).trans (But.set4 _ F (.int .i64 2) (.int .i64 (k : Int)) (.int .i64 0) (.int .i64 0)) (fun j _ h => .inr h)).drew
  clear b0 b1 b2 b3 b4 b5 b6 b7 b8 b9 bA f0 f1 f2 f3 f4 f5 f6 f7 f8 f9 fA bl g0 g1 g2 g3 h0 h1 h2 h3 gl c0 c1 c2 c3 cl
  generalize World.drew (set4 (setEl _ A _ _ _ _ _ _ _ _ _ _ _) F _ _ _ _) = w99 at *
  obtain ⟨z0, z1, z2, z3, z4, z5, z6, z7, z8, z9, zA⟩ := HAA.elev
  obtain ⟨y0, y1, y2, y3, -⟩ := HFF.four
  refine bodyPost_ret (by simp [results, Try.results46, go_sem, z0, z1, z2, z3, z4, z5, z6, z7, z8, z9, zA, y0, y1, y2, y3]; rfl) rfl ?_
  rw [HE.o, HN.o.2]
  exact ⟨⟨rfl, (by show (2 : Int) ≠ 0; decide)⟩, HBB⟩
 case ok L =>
  obtain ⟨v, rfl, hown⟩ := he
  obtain ⟨lo, lc, rfl⟩ := own7_form hown
  have HT2 := aH (own7_has hown)
  have HSQ := aH (show RES = modQ L (hedO L) from (show RES = modL L from HSP.o).trans (modL_q L))
  obtain ⟨L', t0, hL', ht0⟩ := allF_last _ _ _ HRA.o
  have hLL : L.length = L'.length + 1 := by rw [hL']; simp
  have HNB := aH (show ∀ k, (tkA L k).kd ≠ 0 → k < L'.length from by rw [hL']; exact tkA_end ht0)
  have hLn : (L.length : Int) ≤ 90000 := by have := allF_len _ _ _ HRA.o; omega
  have HTX := aH (show ∀ t ∈ L, t.tx.size ≤ 1000000 from fun t ht => by have := allF_text _ _ _ (Nat.zero_le _) HRA.o t ht; omega)
  clear hL' ht0
  obtain ⟨NN, hNN⟩ : ∃ n, L'.length = n := ⟨_, rfl⟩
  rw [hNN] at HNB hLL
  have HLL := aH hLL
  have hL0 : 0 < L.length := by omega
  obtain ⟨n, hnn⟩ : ∃ n, L.length = n := ⟨_, rfl⟩
  have HLN := aH hnn
  have hbl1 : Below w2.heap.size w2 ((w2.alloc (.cells #[.int .i64 0, .int .i64 0, .int .i64 0, .int .i64 0] 57)).alloc (.cells #[.slice lo n lc, .int .i64 0, .int .i64 0, .int .i64 0, .int .i64 0, .int .i64 0] 105)) := (bA _).alloc (by simp) _
  have HA3 := aH (HA2.o.under hbl1 HA2.o.lt)
  have HF3 := aH (HF2.o.under hbl1 HF2.o.lt)
  have HB3 := aH (HB2.o.trans (hbl1.mono (by have := HS2.o; have := HN.o; omega)))
  have HO3 := aH ((Own.fresh w2 57 [.int .i64 0, .int .i64 0, .int .i64 0, .int .i64 0]).on_alloc (.cells #[.slice lo n lc, .int .i64 0, .int .i64 0, .int .i64 0, .int .i64 0, .int .i64 0] 105))
  have HC3 := aH (Own.fresh (w2.alloc (.cells #[.int .i64 0, .int .i64 0, .int .i64 0, .int .i64 0] 57)) 105 [.slice lo n lc, .int .i64 0, .int .i64 0, .int .i64 0, .int .i64 0, .int .i64 0])
  obtain ⟨g, hg⟩ : ∃ g, w2.heap.size + 1 = g := ⟨_, rfl⟩
  have hgs : (w2.alloc (.cells #[.int .i64 0, .int .i64 0, .int .i64 0, .int .i64 0] 57)).heap.size = g := by rw [← hg]; simp
  rw [hgs] at HC3
  have HP3 := aH (show Pd ((w2.alloc (.cells #[.int .i64 0, .int .i64 0, .int .i64 0, .int .i64 0] 57)).alloc (.cells #[.slice lo n lc, .int .i64 0, .int .i64 0, .int .i64 0, .int .i64 0, .int .i64 0] 105)) g lo lc L 0 none from by
   refine ⟨by rw [hnn]; exact HC3.o, HT2.o.below hbl1, fun a e => ?_, fun f h => by cases h⟩
   obtain ⟨b, off, h1, h2, -⟩ := HT2.o 0 L[0] (aG hL0)
   rw [h1] at e
   injection e with e
   subst e
   show b ≠ g
   omega)
  have HG := aH (show w2.heap.size + 1 = g from hg)
  rw [hnn] at hown
  rw [hnn]
  clear hbl1 hown HA2 HF2 HB2 HSP HT2 hgs
  go_upto_region 5 with fail
  generalize (w2.alloc _).alloc _ = w3 at *
  clear hg
  have ne3 : ¬ A = g := by have := HS2.o; have := HN.o; have := HG.o; omega
  have ne4 : ¬ g = A := fun e => ne3 e.symm
  have ne5 : ¬ F = g := by have := HS2.o; have := HG.o; omega
  have ne6 : ¬ g = F := fun e => ne5 e.symm
  have HHD := aH (p_head NN g lo lc L hLn hL0 HTX.o HLL.o.symm HNB.o w3 HP3.o)
  go_wp2_with fail
  refine HHD.o.mono ?_
  rintro e w4 ⟨hbu, m, io, ic, ko, kc, rfl, hic, hh⟩
  have HIC := aH hic
  clear hic
  unfold mdv mdcells
  have HH := HP3
  have HA4 := aH (HA3.o.but hbu ne3)
  have HF4 := aH (HF3.o.but hbu ne5)
  have HB4 := aH (HB3.o.trans (hbu.below (B := A) (by have := HA3.o.lt; omega) (fun j hj => by have hj' : j = g := hj; have := HS2.o; have := HN.o; have := HG.o; omega)))
  have HU4 := aH hbu
  have HG4 := aH (show g < w3.heap.size ∧ w3.heap.size ≤ w4.heap.size from ⟨HP3.o.1.lt, hbu.size⟩)
  have HQ4 := aH hh
  have hbl1 : Below w4.heap.size w4 (w4.alloc (.cells #[.string m.nm, .slice io m.im.length ic, .bool m.wet, .int .i64 m.wa.op, .string m.wa.text, .int .u64 m.wa.s0, .int .u64 m.wa.s1, .int .u64 m.wa.s2, .int .u64 m.wa.s3, .slice ko m.wa.kids.length kc, .slice none 0 0] 82)) := bA _
  have HA5 := aH (HA4.o.under hbl1 HA4.o.lt)
  have HF5 := aH (HF4.o.under hbl1 HF4.o.lt)
  have HB5 := aH (HB4.o.trans (hbl1.mono (by have := HA4.o.lt; omega)))
  have HM5 := aH (Own.fresh w4 82 [.string m.nm, .slice io m.im.length ic, .bool m.wet, .int .i64 m.wa.op, .string m.wa.text, .int .u64 m.wa.s0, .int .u64 m.wa.s1, .int .u64 m.wa.s2, .int .u64 m.wa.s3, .slice ko m.wa.kids.length kc, .slice none 0 0])
  have HU5 := aH (HU4.o.then_below hbl1)
  have HMS := aH (show w4.heap.size + 1 ≤ (w4.alloc (.cells #[.string m.nm, .slice io m.im.length ic, .bool m.wet, .int .i64 m.wa.op, .string m.wa.text, .int .u64 m.wa.s0, .int .u64 m.wa.s1, .int .u64 m.wa.s2, .int .u64 m.wa.s3, .slice ko m.wa.kids.length kc, .slice none 0 0] 82)).heap.size from by simp)
  obtain ⟨rh, hrh⟩ : ∃ r, hedO L = r := ⟨_, rfl⟩
  rw [hrh] at HQ4 HSQ
  obtain ⟨M, hM⟩ : ∃ M, w4.heap.size = M := ⟨_, rfl⟩
  have H0 : ∃ (kk : Nat) (F0 : Option Ft2), kk ≤ NN ∧ Pd (w4.alloc (.cells #[.string m.nm, .slice io m.im.length ic, .bool m.wet, .int .i64 m.wa.op, .string m.wa.text, .int .u64 m.wa.s0, .int .u64 m.wa.s1, .int .u64 m.wa.s2, .int .u64 m.wa.s3, .slice ko m.wa.kids.length kc, .slice none 0 0] 82)) g lo lc L kk F0 ∧ RuQ L RES m [] kk F0 ∧ (F0 = none → HasNR (w4.alloc (.cells #[.string m.nm, .slice io m.im.length ic, .bool m.wet, .int .i64 m.wa.op, .string m.wa.text, .int .u64 m.wa.s0, .int .u64 m.wa.s1, .int .u64 m.wa.s2, .int .u64 m.wa.s3, .slice ko m.wa.kids.length kc, .slice none 0 0] 82)) (fun b => g < b ∧ b < M) io m.im ∧ ∃ n, HasP (w4.alloc (.cells #[.string m.nm, .slice io m.im.length ic, .bool m.wet, .int .i64 m.wa.op, .string m.wa.text, .int .u64 m.wa.s0, .int .u64 m.wa.s1, .int .u64 m.wa.s2, .int .u64 m.wa.s3, .slice ko m.wa.kids.length kc, .slice none 0 0] 82)) (fun b => g < b ∧ b < M) n ko m.wa.kids) := by
   cases rh with
   | error f =>
    obtain ⟨k', h1, h2⟩ := HQ4.o
    exact ⟨k', some f, h1, h2.below hbl1, ⟨HSQ.o, h2.2.2.2 f rfl⟩, fun h => by cases h⟩
   | ok p =>
    obtain ⟨x, k⟩ := p
    obtain ⟨rfl, h1, h2, h3, n1, h4⟩ := HQ4.o
    refine ⟨k, none, h1, h2.below hbl1, ⟨by simp, L.length + 1, HSQ.o, by omega⟩, fun _ => ⟨?_, n1, ?_⟩⟩
    ·
     exact (h3.mono (T := fun b => g < b ∧ b < M) (fun b hlt hb => by have hb' : w3.heap.size ≤ b := hb; exact ⟨by have := HG4.o; omega, by omega⟩)).but (But.of_below (S := fun _ => False) hbl1) (fun _ _ _ h => h)
    ·
     exact ((HasP.ofE h4).mono (fun b hlt hb => by have hb' : w3.heap.size ≤ b := hb.1; exact ⟨by have := HG4.o; omega, by omega⟩)).but (But.of_below (S := fun _ => False) hbl1) (fun _ _ _ h => h)
  obtain ⟨kk0, F0, q1, q2, q3, q4⟩ := H0
  have HK0 := aH q1
  have HP0 := aH q2
  have HR0 := aH q3
  have HI0 := aH q4
  rw [hM] at HM5 HMS
  clear hbu hh hbl1 HA3 HF3 HB3 HP3 HA4 HF4 HB4 HU4 HQ4 HHD HSQ hrh q1 q2 q3 q4 HO3 HC3
  go_wp2_with fail
  try rw [hM]
  have HMW0 := aH (show w3.heap.size ≤ M from by have := HG4.o; omega)
  have HMG := aH (show g < M ∧ F < g from by have := HG4.o; have := HS2.o; have := HG.o; omega)
  clear hM
  generalize w4.alloc _ = w5 at *
  go_loopw [8] (fun v8 wr => ∃ (kk : Nat) (F1 : Option Ft2) (RL : List (ByteArray × Ex)) (ro no : Option Addr) (rc nc : Nat), v8 = .slice no RL.length nc ∧ (RL.length : Int) ≤ 25 ∧ aQ (kk ≤ NN) ∧ aQ (Pd wr g lo lc L kk F1) ∧ aQ (RuQ L RES m RL kk F1) ∧
    aQ (Own wr M 82 [.string m.nm, .slice io m.im.length ic, .bool m.wet, .int .i64 m.wa.op, .string m.wa.text, .int .u64 m.wa.s0, .int .u64 m.wa.s1, .int .u64 m.wa.s2, .int .u64 m.wa.s3, .slice ko m.wa.kids.length kc, .slice ro RL.length rc]) ∧ aQ (Own wr A 82 [.string ⟨#[]⟩, .slice none 0 0, .bool false, .int .i64 0, .string ⟨#[]⟩, .int .u64 0, .int .u64 0, .int .u64 0, .int .u64 0, .slice none 0 0, .slice none 0 0]) ∧ aQ (Own wr F 57 [.int .i64 0, .int .i64 0, .int .i64 0, .int .i64 0]) ∧ aQ (RB (F1 = none) wr (M + 1) (.slice no RL.length nc) (.slice ro RL.length rc) RL) ∧ aQ (Below A w wr) ∧ aQ (M + 1 ≤ wr.heap.size) ∧
    aQ (F1 = none → HasNR wr (fun b => g < b ∧ b < M) io m.im ∧ ∃ n, HasP wr (fun b => g < b ∧ b < M) n ko m.wa.kids) ∧ aQ (But (fun j => j = g) w3 wr)) (fun v8 _ => 26 - sliceLen v8)
  case atStart => exact ⟨kk0, F0, [], none, none, 0, 0, rfl, by decide, HK0, HP0, HR0, HM5, HA5, HF5, aH (RB.start _ _ _), HB5, HMS, HI0, HU5⟩
  case round =>
   obtain ⟨kk, F1, RL, ro, no, rc, nc, rfl, hrl, HK, HP, HR, HM, HA, HF, HRB, HB, HMZ, HI, HU⟩ := hrel
   clear HK0 HP0 HR0 HM5 HA5 HF5 HB5 HMS HI0 HU5
   have hkL : kk < L.length := by have := HK.o; have := HLL.o; omega
   have neM1 : ¬ A = M := by have := HMG.o; have := HN.o; omega
   have neM2 : ¬ M = A := fun e => neM1 e.symm
   have neM3 : ¬ F = M := by have := HMG.o; omega
   have neM4 : ¬ M = F := fun e => neM3 e.symm
   have neM5 : ¬ g = M := by have := HMG.o; omega
   have neM6 : ¬ M = g := fun e => neM5 e.symm
   cases F1 with
   | some f =>
    have HE := aH (show RES = .error f from HR.o.1)
    have HNF := aH (show f.1 ≠ 0 from HR.o.2)
    obtain ⟨c0, c1, c2, c3, c4, c5, cg⟩ := HP.o.1.six_r
    simp only [fE, fA] at c2 c3
    have ef : (f.1 == 0) = false := aN.2 HNF.o
    have ef2 : (f.1 != 0) = true := bne_iff_ne.2 HNF.o
    go_wp2_with fail
    go_quiet (fail)
    clear c0 c1 c2 c3 c4 c5 cg
    have hbl : Below wr.heap.size wr (wr.drewN nq) := below_drewN (Below.refl _ _) nq
    have HA1 := aH (HA.o.on_drewN nq)
    have HF1 := aH (HF.o.on_drewN nq)
    have HB1 := aH (below_drewN HB.o nq)
    have HP1 := aH (HP.o.below hbl)
    clear hbl HA HF HB HP HM HRB HMZ HI HR
    generalize wr.drewN nq = wt at *
    obtain ⟨b0, b1, b2, b3, b4, b5, b6, b7, b8, b9, bA⟩ := HA1.o.elev
    obtain ⟨f0, f1, f2, f3, f4, f5, f6, f7, f8, f9, fA⟩ := HA1.o.elevf
    have bl := HA1.o.lt
    obtain ⟨g0, g1, g2, g3, h0, h1, h2, h3⟩ := HF1.o.four
    have gl := HF1.o.lt
    obtain ⟨c0, c1, c2, c3, c4, c5, cg⟩ := HP1.o.1.six_r
    have c2e : wt.cell? ⟨g, 2, none⟩ = some (.int .i64 f.1) := c2
    have c3e : wt.cell? ⟨g, 3, none⟩ = some (.int .i64 f.2) := c3
    clear c0 c1 c2 c3
    go_wp2_with fail
    go_region
    go_wp2
    rw [setEl_fold, set4_fold]
    have HAA := (Own.but (Own.putEl HA1.o (.string ⟨#[]⟩) (.slice none 0 0) (.bool false) (.int .i64 0) (.string ⟨#[]⟩) (.int .u64 0) (.int .u64 0) (.int .u64 0) (.int .u64 0) (.slice none 0 0) (.slice none 0 0)) (But.set4 _ F (.int .i64 f.1) (.int .i64 f.2) (.int .i64 0) (.int .i64 0)) ne1).on_drew
    have HFF := (Own.put4 (Own.but HF1.o (But.setEl wt A (.string ⟨#[]⟩) (.slice none 0 0) (.bool false) (.int .i64 0) (.string ⟨#[]⟩) (.int .u64 0) (.int .u64 0) (.int .u64 0) (.int .u64 0) (.slice none 0 0) (.slice none 0 0)) ne2) (u0 := .int .i64 f.1) (u1 := .int .i64 f.2) (u2 := .int .i64 0) (u3 := .int .i64 0)).on_drew
    have HBB := (below_put4 (HB1.o.trans ((But.setEl wt A (.string ⟨#[]⟩) (.slice none 0 0) (.bool false) (.int .i64 0) (.string ⟨#[]⟩) (.int .u64 0) (.int .u64 0) (.int .u64 0) (.int .u64 0) (.slice none 0 0) (.slice none 0 0)).below (B := A) (by have := bl; omega) (fun j hj => by omega))) (g := F) (by have := HN.o; omega) (.int .i64 f.1) (.int .i64 f.2) (.int .i64 0) (.int .i64 0)).drew
    have HUU := aH (((But.refl (fun j => j = A ∨ j = F) wt).trans (But.setEl wt A (.string ⟨#[]⟩) (.slice none 0 0) (.bool false) (.int .i64 0) (.string ⟨#[]⟩) (.int .u64 0) (.int .u64 0) (.int .u64 0) (.int .u64 0) (.slice none 0 0) (.slice none 0 0)) (fun j _ h => .inl h)).trans (But.set4 _ F (.int .i64 f.1) (.int .i64 f.2) (.int .i64 0) (.int .i64 0)) (fun j _ h => .inr h)).drew
    clear b0 b1 b2 b3 b4 b5 b6 b7 b8 b9 bA f0 f1 f2 f3 f4 f5 f6 f7 f8 f9 fA bl g0 g1 g2 g3 h0 h1 h2 h3 gl c2e c3e c4 c5 cg
    generalize World.drew (set4 (setEl _ A _ _ _ _ _ _ _ _ _ _ _) F _ _ _ _) = w99 at *
    obtain ⟨z0, z1, z2, z3, z4, z5, z6, z7, z8, z9, zA⟩ := HAA.elev
    obtain ⟨y0, y1, y2, y3, -⟩ := HFF.four
    refine bodyPost_ret (by simp [results, Try.results46, go_sem, z0, z1, z2, z3, z4, z5, z6, z7, z8, z9, zA, y0, y1, y2, y3]; rfl) rfl ?_
    rw [HE.o, HN.o.2]
    exact ⟨⟨rfl, HNF.o⟩, HBB⟩
   | none =>
    obtain ⟨t, ht⟩ : ∃ t, L[kk]? = some t := ⟨_, aG hkL⟩
    have HTA := aH (tkA_in ht)
    obtain ⟨hR24, f, hf, hff⟩ := HR.o
    have HGO := aH (hf.trans (rulL_q L m (by have := HK.o; have := HLL.o; omega) RL kk))
    have HFF := aH hff
    obtain ⟨b, off, hlo, hb, t0', -⟩ := HP.o.2.1 kk t ht
    obtain ⟨c0, c1, c2, c3, c4, c5, cg⟩ := HP.o.1.six_r
    simp only [fE, fA] at c2 c3
    have hk1 : (kk : Int) < n := by have := HLN.o; omega
    rw [HLN.o] at c0
    rw [HTA.o] at HGO
    have HRL := aH hR24
    clear hf hff HR ht hR24 c3 c4 c5
    subst hlo
    obtain ⟨nr, hnr⟩ : ∃ n, RL.length = n := ⟨_, rfl⟩
    have HNR := aH hnr
    rw [hnr] at HM HRB HRL hrl
    rw [hnr]
    clear hnr
    by_cases q : t.kd = 0
    ·
     have i0 : ((t.kd : Int) != 0) = false := by simp [q]
     have HE := aH (show RES = .ok { m with ru := RL } from HGO.o.trans (if_pos q))
     clear q HGO
     go_wp2_with fail
     go_quiet (fail)
     clear c0 c1 c2 cg hb t0'
     have hbl : Below wr.heap.size wr (wr.drewN nq) := below_drewN (Below.refl _ _) nq
     have HA1 := aH (HA.o.on_drewN nq)
     have HF1 := aH (HF.o.on_drewN nq)
     have HM1 := aH (HM.o.on_drewN nq)
     have HB1 := aH (below_drewN HB.o nq)
     have HP1 := aH (HP.o.below hbl)
     have HRB1 := aH (HRB.o.below hbl)
     have HI1 := aH (show HasNR (wr.drewN nq) (fun b => g < b ∧ b < M) io m.im ∧ ∃ n, HasP (wr.drewN nq) (fun b => g < b ∧ b < M) n ko m.wa.kids from by
      obtain ⟨h1, n1, h2⟩ := HI.o (by first | trivial | rfl)
      exact ⟨h1.but (But.of_below (S := fun _ => False) hbl) (fun _ _ _ h => h), n1, h2.but (But.of_below (S := fun _ => False) hbl) (fun _ _ _ h => h)⟩)
     clear hbl HA HF HB HP HM HRB HMZ HI
     generalize wr.drewN nq = wt at *
     obtain ⟨hnr1, n1, hp1⟩ := HI1.o
     obtain ⟨n2, hru⟩ := HRB1.o.rules (by first | trivial | rfl)
     have HROOM := aH HRB1.o.room
     have HNR1 := aH hnr1
     have HPP := aH hp1
     have HRU := aH hru
     clear hnr1 hp1 hru HI1 HRB1
     obtain ⟨b0, b1, b2, b3, b4, b5, b6, b7, b8, b9, bA⟩ := HA1.o.elev
     obtain ⟨f0, f1, f2, f3, f4, f5, f6, f7, f8, f9, fA⟩ := HA1.o.elevf
     have bl := HA1.o.lt
     obtain ⟨g0, g1, g2, g3, h0, h1, h2, h3⟩ := HF1.o.four
     have gl := HF1.o.lt
     obtain ⟨c0, c1, c2, c3, c4, c5, cg⟩ := HP1.o.1.six_r
     have c2e : wt.cell? ⟨g, 2, none⟩ = some (.int .i64 0) := c2
     clear c0 c1 c2 c3 c4 c5
     obtain ⟨a0, a1, a2, a3, a4, a5, a6, a7, a8, a9, aA⟩ := HM1.o.elev
     have ml := HM1.o.lt
     go_wp2_with fail
     skip
     go_wp2
     rw [setEl_fold, set4_fold]
     have HAA := (Own.but (Own.putEl HA1.o (.string m.nm) (.slice io m.im.length ic) (.bool m.wet) (.int .i64 m.wa.op) (.string m.wa.text) (.int .u64 m.wa.s0) (.int .u64 m.wa.s1) (.int .u64 m.wa.s2) (.int .u64 m.wa.s3) (.slice ko m.wa.kids.length kc) (.slice ro nr rc)) (But.set4 _ F (.int .i64 0) (.int .i64 0) (.int .i64 0) (.int .i64 0)) ne1)
     have HFF := (Own.put4 (Own.but HF1.o (But.setEl wt A (.string m.nm) (.slice io m.im.length ic) (.bool m.wet) (.int .i64 m.wa.op) (.string m.wa.text) (.int .u64 m.wa.s0) (.int .u64 m.wa.s1) (.int .u64 m.wa.s2) (.int .u64 m.wa.s3) (.slice ko m.wa.kids.length kc) (.slice ro nr rc)) ne2) (u0 := .int .i64 0) (u1 := .int .i64 0) (u2 := .int .i64 0) (u3 := .int .i64 0))
     have HBB := (below_put4 (HB1.o.trans ((But.setEl wt A (.string m.nm) (.slice io m.im.length ic) (.bool m.wet) (.int .i64 m.wa.op) (.string m.wa.text) (.int .u64 m.wa.s0) (.int .u64 m.wa.s1) (.int .u64 m.wa.s2) (.int .u64 m.wa.s3) (.slice ko m.wa.kids.length kc) (.slice ro nr rc)).below (B := A) (by have := bl; omega) (fun j hj => by omega))) (g := F) (by have := HN.o; omega) (.int .i64 0) (.int .i64 0) (.int .i64 0) (.int .i64 0))
     have HUU := aH (((But.refl (fun j => j = A ∨ j = F) wt).trans (But.setEl wt A (.string m.nm) (.slice io m.im.length ic) (.bool m.wet) (.int .i64 m.wa.op) (.string m.wa.text) (.int .u64 m.wa.s0) (.int .u64 m.wa.s1) (.int .u64 m.wa.s2) (.int .u64 m.wa.s3) (.slice ko m.wa.kids.length kc) (.slice ro nr rc)) (fun j _ h => .inl h)).trans (But.set4 _ F (.int .i64 0) (.int .i64 0) (.int .i64 0) (.int .i64 0)) (fun j _ h => .inr h))
     clear b0 b1 b2 b3 b4 b5 b6 b7 b8 b9 bA f0 f1 f2 f3 f4 f5 f6 f7 f8 f9 fA bl g0 g1 g2 g3 h0 h1 h2 h3 gl c2e cg a0 a1 a2 a3 a4 a5 a6 a7 a8 a9 aA ml
     generalize set4 (setEl _ A _ _ _ _ _ _ _ _ _ _ _) F _ _ _ _ = w99 at *
     obtain ⟨z0, z1, z2, z3, z4, z5, z6, z7, z8, z9, zA⟩ := HAA.elev
     obtain ⟨y0, y1, y2, y3, -⟩ := HFF.four
     refine bodyPost_ret (by simp [results, Try.results46, go_sem, z0, z1, z2, z3, z4, z5, z6, z7, z8, z9, zA, y0, y1, y2, y3]; rfl) rfl ?_
     rw [HE.o, HN.o.2]
     have hl := HMG.o
     have hl2 := HN.o
     have hAF : ∀ j, (j = A ∨ j = F) → j < M + 1 ∧ ¬ g < j := fun j e => by rcases e with rfl | rfl <;> omega
     refine ⟨⟨io, ic, ko, kc, ro, rc, max n1 n2, (by rw [← HNR.o] <;> rfl), HIC.o, HROOM.o, (HNR1.o.but HUU.o (fun j _ hj e => (hAF j e).2 hj.1)).mono (fun b _ hb => by have hb' : g < b := hb.1; omega), ((HPP.o.but HUU.o (fun j _ hj e => (hAF j e).2 hj.1)).toE (fun b hb => by have hb' : g < b := hb.1; omega)).upto _ (Nat.le_max_left _ _), ((HRU.o.but HUU.o (fun j e => (hAF j e).1)).low (by omega)).upto _ (Nat.le_max_right _ _)⟩, HBB⟩
    ·
     have i0 : ((t.kd : Int) != 0) = true := bne_iff_ne.2 (by omega)
     have HGN := aH (HGO.o.trans (if_neg q))
     have HNC := aH (fun W (hW : Pd W g (some ⟨b, off, none⟩) lc L kk none) (hN : HasN W no (RL.map (·.1))) => p_name_g (RL.map (·.1)) no nc (by rw [List.length_map]; have := HNR.o; omega) g (some ⟨b, off, none⟩) lc L kk hLn hkL HTX.o W hW hN)
     rw [List.length_map, HNR.o] at HNC
     have HKB := aH (fun x k1 (h : nmeO L (RL.map (·.1)) kk = .ok (x, k1)) => nmeO_be HNB.o h)
     obtain ⟨r1, hr1⟩ : ∃ r, nmeO L (RL.map (·.1)) kk = r := ⟨_, rfl⟩
     rw [hr1] at HNC HGN HKB
     obtain ⟨nm1, hnm1⟩ : ∃ x, (nmG kk r1).1 = x := ⟨_, rfl⟩
     rw [hnm1] at HNC
     have HNM1 := aH hnm1
     clear q HGO hr1 hnm1
     go_wp2_with fail
     go_quiet (fail)
     clear c0 c1 c2 cg hb t0'
     have hbl : Below wr.heap.size wr (wr.drewN nq) := below_drewN (Below.refl _ _) nq
     have HA1 := aH (HA.o.on_drewN nq)
     have HF1 := aH (HF.o.on_drewN nq)
     have HM1 := aH (HM.o.on_drewN nq)
     have HB1 := aH (below_drewN HB.o nq)
     have HP1 := aH (HP.o.below hbl)
     have HRB1 := aH (HRB.o.below hbl)
     have HU1 := aH (HU.o.drewN nq)
     have HMZ1 := aH (show M + 1 ≤ (wr.drewN nq).heap.size from HMZ.o)
     have HI1 := aH (show HasNR (wr.drewN nq) (fun b => g < b ∧ b < M) io m.im ∧ ∃ n, HasP (wr.drewN nq) (fun b => g < b ∧ b < M) n ko m.wa.kids from by
      obtain ⟨h1, n1, h2⟩ := HI.o (by first | trivial | rfl)
      exact ⟨h1.but (But.of_below (S := fun _ => False) hbl) (fun _ _ _ h => h), n1, h2.but (But.of_below (S := fun _ => False) hbl) (fun _ _ _ h => h)⟩)
     clear hbl HA HF HB HP HM HRB HMZ HI HU
     generalize wr.drewN nq = wt at *
     obtain ⟨c0, c1, c2, c3, c4, c5, cg⟩ := HP1.o.1.six_r
     clear c0 c2 c3 c4 c5
     go_wp2_with fail
     refine (HNC.o _ HP1.o HRB1.o.names).mono ?_
     rintro e wn ⟨rfl, hp, hbu⟩
     have hgD : ∀ j, j = g → j < M + 1 := fun j e => by have := HMG.o; omega
     have HA2 := aH (HA1.o.but hbu ne3)
     have HF2 := aH (HF1.o.but hbu ne5)
     have HM2 := aH (HM1.o.but hbu neM6)
     have HB2 := aH (HB1.o.trans (hbu.below (B := A) (by have := HA1.o.lt; omega) (fun j hj => by have hj' : j = g := hj; have := HMG.o; have := HN.o; omega)))
     have HRB2 := aH (HRB1.o.keep hbu hgD)
     have HMZ2 := aH (show M + 1 ≤ wn.heap.size from Nat.le_trans HMZ1.o hbu.size)
     have HI2 := aH (show HasNR wn (fun b => g < b ∧ b < M) io m.im ∧ ∃ n, HasP wn (fun b => g < b ∧ b < M) n ko m.wa.kids from by
      obtain ⟨h1, n1, h2⟩ := HI1.o
      exact ⟨h1.but hbu (fun j _ hj e => by have hj' : g < j := hj.1; have e' : j = g := e; omega), n1, h2.but hbu (fun j _ hj e => by have hj' : g < j := hj.1; have e' : j = g := e; omega)⟩)
     have HP2 := aH hp
     have HU2 := aH (HU1.o.trans hbu (fun _ _ e => e))
     have HMW := aH (show w3.heap.size ≤ M from HMW0.o)
     clear hbu hp HA1 HF1 HM1 HB1 HP1 HRB1 HMZ1 HI1 HNC c1 cg HU1
     cases r1
     case error f1 =>
      have HP3 := aH (show Pd wn g (some ⟨b, off, none⟩) lc L kk (some f1) from HP2.o)
      have HBX0 := aH (p_body_x g (some ⟨b, off, none⟩) lc L kk f1 hLn hkL wn HP3.o)
      obtain ⟨X, hX⟩ : ∃ X, ex0 = X := ⟨_, rfl⟩
      rw [hX] at HBX0
      obtain ⟨ko2, hko⟩ : ∃ z : Option Addr, none = z := ⟨_, rfl⟩
      obtain ⟨kc2, hkc⟩ : ∃ z : Nat, 0 = z := ⟨_, rfl⟩
      have HQb := aH (show RuQ L RES m (RL ++ [(nm1, X)]) kk (some f1) from ⟨HGN.o, HP3.o.2.2.2 f1 rfl⟩)
      have HBX := aH (show Calls Try.prog 68 #[.pointer (some ⟨g, 0, none⟩)] wn fun e w' => But (fun j => j = g) wn w' ∧ e = .returned (exv X ko2 kc2) ∧ Pd w' g (some ⟨b, off, none⟩) lc L kk (some f1) from by rw [← hko, ← hkc]; exact HBX0.o)
      obtain ⟨c0, c1, c2, c3, c4, c5, cg⟩ := HP3.o.1.six_r
      have c2e : wn.cell? ⟨g, 2, none⟩ = some (.int .i64 f1.1) := c2
      have ef : (f1.1 == 0) = false := aN.2 HQb.o.2
      have HKP := HK
      clear hX hko hkc HBX0 c0 c1 c2 c3 c4 c5
      go_wp2_with fail
      refine HBX.o.mono ?_
      rintro e wb ⟨hbu, rfl, hp⟩
      unfold exv
      have HPb := aH hp
      have HEb := aH (show some f1 = none → ∃ n', HasE wb wn.heap.size n' ko2 X.kids from fun h => by cases h)
      have HAb := aH (HA2.o.but hbu ne3)
      have HFb := aH (HF2.o.but hbu ne5)
      have HMb := aH (HM2.o.but hbu neM6)
      have HBb := aH (HB2.o.trans (hbu.below (B := A) (by have := HA2.o.lt; omega) (fun j hj => by have hj' : j = g := hj; have := HMG.o; have := HN.o; omega)))
      have HUb := aH hbu
      clear hbu hp c2e cg
      have hbl3 : Below wb.heap.size wb (wb.alloc (.cells #[.int .i64 X.op, .string X.text, .int .u64 X.s0, .int .u64 X.s1, .int .u64 X.s2, .int .u64 X.s3, .slice ko2 X.kids.length kc2] 79)) := bA _
      have HA3 := aH (HAb.o.under hbl3 HAb.o.lt)
      have HF3 := aH (HFb.o.under hbl3 HFb.o.lt)
      have HM3 := aH (HMb.o.under hbl3 HMb.o.lt)
      have HB3 := aH (HBb.o.trans (hbl3.mono (by have := HAb.o.lt; omega)))
      have HP3 := aH (HPb.o.below hbl3)
      have HX3 := aH (Own.fresh wb 79 [.int .i64 X.op, .string X.text, .int .u64 X.s0, .int .u64 X.s1, .int .u64 X.s2, .int .u64 X.s3, .slice ko2 X.kids.length kc2])
      have HBE := aH hbl3
      have HU3 := aH ((HU2.o.trans HUb.o (fun _ _ e => e)).then_below hbl3)
      clear hbl3
      go_upto_region 14 with fail
      generalize wb.alloc (.cells #[.int .i64 X.op, .string X.text, .int .u64 X.s0, .int .u64 X.s1, .int .u64 X.s2, .int .u64 X.s3, .slice ko2 X.kids.length kc2] 79) = wx at *
      obtain ⟨S1, S2, R, Z, nz, s1, s2, s3, s4, s5, s6, s7⟩ := HRB2.o
      have HLZ := aH (show Z.length = nr from by rw [← HNR.o, ← s4, List.length_map])
      have HS1 := aH s1
      have HS2 := aH s2
      have HS3 := aH s3
      have HS4 := aH s4
      have HS7 := aH s7
      have hng : ∀ j, S1 j ∨ S2 j ∨ R j → ¬ j = g := fun j hj e => by have := s1 j hj; have := HMG.o; omega
      have HW1 := aH ((s5.keep HUb.o (fun j _ hs e => hng j (.inl hs) e)).below HBE.o)
      have HW2 := aH ((s6.keep HUb.o (fun j _ hs e => hng j (.inr (.inl hs)) e)).below HBE.o)
      rw [HLZ.o] at HW1 HW2
      clear s1 s2 s3 s4 s5 s6 s7 hng
      obtain ⟨i0', hi, hz0, hz1, hz2⟩ := info_parts7 info_str
      obtain ⟨j0', gi, gz0, gz1, gz2⟩ := info_parts7 info_rule
      have HNEW := aH (fun W => fresh_news W 9 [.string nm1])
      have HNEW2 := aH (fun W => fresh_news W 90 (rrow (nm1, X, ko2, kc2)))
      have HCEL := aH (show ∀ u ∈ rrow (nm1, X, ko2, kc2), u.oneCell' = true by intro u hu; simp [rrow, xrow] at hu; rcases hu with rfl | rfl | rfl | rfl | rfl | rfl | rfl | rfl <;> rfl)
      go_wp2_with (first
       | (at_builtin; refine wpList_append_win _ rfl _ _ 22 rfl S1 9 i0' _ 1 16 Try.underlying22 hi hz0 hz1 hz2 rfl (by decide) _ nr (Z.map (fun z => Value.string z.1)) rfl (HW1.o.below (bA _)) ⟨wx.heap.size, 0, none⟩ 1 1 [.string nm1] rfl rfl (HNEW.o wx) (by intro u hu; rw [List.mem_singleton.1 hu]; rfl) (by unfold maxLen; omega) (by omega) ?_))
      intro v1' wy hw1' hb1'
      have hblx : Below wx.heap.size wx (wx.alloc (.cells #[.string nm1] 9)) := bA _
      have HBX := aH hblx
      have HSA1 := aH (show ∀ j, S1 j → M < j from fun j hj => by have := HS1.o j (.inl hj); omega)
      have HSA2 := aH (show ∀ j, S2 j → M < j from fun j hj => by have := HS1.o j (.inr (.inl hj)); omega)
      have HW1' := aH hw1'
      have HB1' := aH hb1'
      have HA4 := aH ((HA3.o.under hblx HA3.o.lt).but hb1' (fun hs => by have := HSA1.o _ hs; have := HMG.o; have := HN.o; omega))
      have HF4 := aH ((HF3.o.under hblx HF3.o.lt).but hb1' (fun hs => by have := HSA1.o _ hs; have := HMG.o; omega))
      have HM4 := aH ((HM3.o.under hblx HM3.o.lt).but hb1' (fun hs => by have := HSA1.o _ hs; omega))
      have HX4 := aH ((HX3.o.under hblx HX3.o.lt).but hb1' (fun hs => by have := HS1.o _ (.inl hs); have := HUb.o.size; omega))
      have HB4 := aH ((HB3.o.trans (hblx.mono (by have := HA3.o.lt; omega))).trans (hb1'.below (B := A) (by have := HA3.o.lt; have := hblx.size; omega) (fun j hs => by have := HSA1.o j hs; have := HMG.o; have := HN.o; omega)))
      have HU4 := aH (show But (fun j => j = g) w3 wy from (HU3.o.then_below hblx).trans hb1' (fun j hj hs => by have := HSA1.o j hs; have := HMW.o; omega))
      have HP4 := aH (Pd.butx HH.o HU4.o (HP3.o.below hblx) hb1' (fun hs => by have := HSA1.o _ hs; have := HMG.o; omega))
      have HW2' := aH ((HW2.o.below hblx).keep hb1' (fun j _ hs hs1 => HS3.o j hs1 hs))
      have HSZ4 := aH (show wx.heap.size < wy.heap.size from by have h1 := hb1'.size; have h2 : (wx.alloc (.cells #[.string nm1] 9)).heap.size = wx.heap.size + 1 := (by simp); omega)
      clear hw1' hb1' hblx HA3 HF3 HM3 HX3 HB3 HP3 HU3 HW1 HW2 HNEW
      obtain ⟨no', nc', hv1, -⟩ := HW1'.o.form
      subst hv1
      obtain ⟨a0, a1, a2, a3, a4, a5, a6, a7, a8, a9, aA⟩ := HM4.o.elev
      obtain ⟨f0, f1, f2, f3, f4, f5, f6, f7, f8, f9, fA⟩ := HM4.o.elevf
      have ml := HM4.o.lt
      obtain ⟨x0, x1, x2, x3, x4, x5, x6⟩ := HX4.o.seven
      have xl := HX4.o.lt
      go_wp2_with (first
       | (at_builtin; refine wpList_append_win _ rfl _ _ 80 rfl S2 90 j0' _ 8 96 Try.underlying80 gi gz0 gz1 gz2 rfl (by decide) _ nr (Z.flatMap rrow) rfl (HW2'.o.below (bA _)) ⟨wy.heap.size, 0, none⟩ 1 1 (rrow (nm1, X, ko2, kc2)) rfl rfl (HNEW2.o wy) HCEL.o (by unfold maxLen; omega) (by omega) ?_))
      intro v2' wz hw2' hb2'
      clear a0 a1 a2 a3 a4 a5 a6 a7 a8 a9 aA f0 f1 f2 f3 f4 f5 f6 f7 f8 f9 fA ml x0 x1 x2 x3 x4 x5 x6 xl
      have hbly : Below wy.heap.size wy (wy.alloc (.cells #[.string nm1, .int .i64 X.op, .string X.text, .int .u64 X.s0, .int .u64 X.s1, .int .u64 X.s2, .int .u64 X.s3, .slice ko2 X.kids.length kc2] 90)) := bA _
      have HRBz := aH (show RB ((some f1) = none) wz (M + 1) (.slice no' (nr + 1) nc') v2' (RL ++ [(nm1, X)]) from by
       rw [← HS4.o]
       by_cases hfp : (some f1) = none
       ·
        obtain ⟨n', hE'⟩ := HEb.o hfp
        exact RB.add (G := (some f1) = none) (n' := n') (g := g) (w2 := wx.alloc (.cells #[.string nm1] 9)) (w3 := wy) (w4 := wy.alloc (.cells #[.string nm1, .int .i64 X.op, .string X.text, .int .u64 X.s0, .int .u64 X.s1, .int .u64 X.s2, .int .u64 X.s3, .slice ko2 X.kids.length kc2] 90)) (by have := HMG.o; omega) HMZ2.o HS1.o HS2.o HS3.o (fun _ => HS7.o (by first | trivial | rfl)) HUb.o (fun _ => hE') (HBE.o.trans (HBX.o.mono HBE.o.size)) (by rw [HLZ.o]; exact HW1'.o.mono (fun j _ h => by simpa using h)) HB1'.o hbly (by rw [HLZ.o]; exact hw2'.mono (fun j _ h => by simpa using h)) hb2'
       ·
        exact RB.add (G := (some f1) = none) (n' := 0) (n := 0) (g := g) (w2 := wx.alloc (.cells #[.string nm1] 9)) (w3 := wy) (w4 := wy.alloc (.cells #[.string nm1, .int .i64 X.op, .string X.text, .int .u64 X.s0, .int .u64 X.s1, .int .u64 X.s2, .int .u64 X.s3, .slice ko2 X.kids.length kc2] 90)) (by have := HMG.o; omega) HMZ2.o HS1.o HS2.o HS3.o (fun h => absurd h hfp) HUb.o (fun h => absurd h hfp) (HBE.o.trans (HBX.o.mono HBE.o.size)) (by rw [HLZ.o]; exact HW1'.o.mono (fun j _ h => by simpa using h)) HB1'.o hbly (by rw [HLZ.o]; exact hw2'.mono (fun j _ h => by simpa using h)) hb2')
      have HA5 := aH ((HA4.o.under hbly HA4.o.lt).but hb2' (fun hs => by have := HSA2.o _ hs; have := HMG.o; have := HN.o; omega))
      have HF5 := aH ((HF4.o.under hbly HF4.o.lt).but hb2' (fun hs => by have := HSA2.o _ hs; have := HMG.o; omega))
      have HM5 := aH ((HM4.o.under hbly HM4.o.lt).but hb2' (fun hs => by have := HSA2.o _ hs; omega))
      have HB5 := aH ((HB4.o.trans (hbly.mono (by have := HA4.o.lt; omega))).trans (hb2'.below (B := A) (by have := HA4.o.lt; have := hbly.size; omega) (fun j hs => by have := HSA2.o j hs; have := HMG.o; have := HN.o; omega)))
      have HU5 := aH (show But (fun j => j = g) w3 wz from (HU4.o.then_below hbly).trans hb2' (fun j hj hs => by have := HSA2.o j hs; have := HMW.o; omega))
      have HP5 := aH (Pd.butx HH.o HU5.o (HP4.o.below hbly) hb2' (fun hs => by have := HSA2.o _ hs; have := HMG.o; omega))
      have HIz := aH (show (some f1) = none → HasNR wz (fun b => g < b ∧ b < M) io m.im ∧ ∃ n, HasP wz (fun b => g < b ∧ b < M) n ko m.wa.kids from fun h => by
       obtain ⟨q1, n1, q2⟩ := HI2.o
       have key1 : ∀ (S : Nat → Prop) (W W' : World), But S W W' → (∀ j, S j → M < j) → HasNR W (fun b => g < b ∧ b < M) io m.im → HasNR W' (fun b => g < b ∧ b < M) io m.im := fun S W W' hb hS q => q.but hb (fun j _ hj hs => by have := hS j hs; have h2 : j < M := hj.2; omega)
       have key2 : ∀ (S : Nat → Prop) (W W' : World), But S W W' → (∀ j, S j → M < j) → HasP W (fun b => g < b ∧ b < M) n1 ko m.wa.kids → HasP W' (fun b => g < b ∧ b < M) n1 ko m.wa.kids := fun S W W' hb hS q => q.but hb (fun j _ hj hs => by have := hS j hs; have h2 : j < M := hj.2; omega)
       have f0 : ∀ j, (fun _ : Nat => False) j → M < j := fun j h => h.elim
       have p1 := q1.but HUb.o (fun j _ hj e => by have h1 : g < j := hj.1; have h2 : j = g := e; omega)
       have p2 := q2.but HUb.o (fun j _ hj e => by have h1 : g < j := hj.1; have h2 : j = g := e; omega)
       exact ⟨key1 _ _ _ hb2' HSA2.o (key1 _ _ _ (But.of_below hbly) f0 (key1 _ _ _ HB1'.o HSA1.o (key1 _ _ _ (But.of_below HBX.o) f0 (key1 _ _ _ (But.of_below HBE.o) f0 p1)))),
        n1, key2 _ _ _ hb2' HSA2.o (key2 _ _ _ (But.of_below hbly) f0 (key2 _ _ _ HB1'.o HSA1.o (key2 _ _ _ (But.of_below HBX.o) f0 (key2 _ _ _ (But.of_below HBE.o) f0 p2))))⟩)
      obtain ⟨ro', rc', hv2⟩ := HRBz.o.form.2
      have hln : (RL ++ [(nm1, X)]).length = nr + 1 := by rw [List.length_append, HNR.o]; rfl
      rw [hln] at hv2
      subst hv2
      have HLNn := aH hln
      clear hw2' hb2' hbly hln HA4 HF4 HM4 HX4 HB4 HP4 HU4 HW2' HW1' HB1'
      have mA := HM5.o.thaw 10
      have mc := HM5.o.cell 10
      have ml := HM5.o.lt
      have hbp := But.put wz M 10 (.slice ro' (nr + 1) rc')
      have HA6 := aH (HA5.o.but hbp neM1)
      have HF6 := aH (HF5.o.but hbp neM3)
      have HM6 := aH (HM5.o.put 10 (.slice ro' (nr + 1) rc'))
      have HB6 := aH (HB5.o.setCell (p := ⟨M, 10, none⟩) (by have := HMG.o; have := HN.o; show A ≤ M; omega) (.slice ro' (nr + 1) rc'))
      have HU6 := aH (HU5.o.trans hbp (fun j hj e => by have h1 : j = M := e; have := HMW.o; omega))
      have HP6 := aH (Pd.butx HH.o HU6.o HP5.o hbp neM5)
      have HRB6 := aH (HRBz.o.keep hbp (fun j e => by have h1 : j = M := e; omega))
      have HMZ6 := aH (show M + 1 ≤ (wz.setCell ⟨M, 10, none⟩ (.slice ro' (nr + 1) rc')).heap.size from HM6.o.lt)
      have HI6 := aH (show (some f1) = none → HasNR (wz.setCell ⟨M, 10, none⟩ (.slice ro' (nr + 1) rc')) (fun b => g < b ∧ b < M) io m.im ∧ ∃ n, HasP (wz.setCell ⟨M, 10, none⟩ (.slice ro' (nr + 1) rc')) (fun b => g < b ∧ b < M) n ko m.wa.kids from fun h => by
       obtain ⟨q1, n1, q2⟩ := HIz.o h
       exact ⟨q1.but hbp (fun j _ hj e => by have h1 : j = M := e; have h2 : j < M := hj.2; omega), n1, q2.but hbp (fun j _ hj e => by have h1 : j = M := e; have h2 : j < M := hj.2; omega)⟩)
      clear hbp HA5 HF5 HM5 HB5 HU5 HP5 HRBz HIz
      go_wp2
      go_roundw
      case rel => exact ⟨kk, (some f1), RL ++ [(nm1, X)], ro', no', rc', nc', by rw [HLNn.o], by rw [HLNn.o]; have := HRL.o; omega, HKP, HP6, HQb, by rw [HLNn.o]; exact HM6, HA6, HF6, by rw [HLNn.o]; exact HRB6, HB6, HMZ6, HI6, HU6⟩
      case measure => simp [sliceLen]; omega
     case ok xk =>
      obtain ⟨x, k1⟩ := xk
      have HKK := aH (HKB.o x k1 rfl)
      have HP3 := aH (show Pd wn g (some ⟨b, off, none⟩) lc L k1 none from HP2.o)
      obtain rfl : x = nm1 := HNM1.o
      have HS3 := aH (show RES = if RL.length = 24 then .error (faultAt L 3 kk) else rulR L m (f - 1) RL x (bodO L k1) from HGN.o)
      rw [HNR.o] at HS3
      have hk1L : k1 < L.length := by have := HKK.o; have := HLL.o; omega
      obtain ⟨c0, c1, c2, c3, c4, c5, cg⟩ := HP3.o.1.six_r
      have c2e : wn.cell? ⟨g, 2, none⟩ = some (.int .i64 0) := c2
      obtain ⟨a0, a1, a2, a3, a4, a5, a6, a7, a8, a9, aA⟩ := HM2.o.elev
      have ml := HM2.o.lt
      clear HNM1 c0 c2 c3 c4 c5
      by_cases h24 : nr = 24
      ·
       have e24 : ((nr : Int) == 24) = true := by simp [h24]
       have HE := aH (show RES = .error (faultAt L 3 kk) from HS3.o.trans (if_pos h24))
       have HNF := aH (show (3 : Int) ≠ 0 by decide)
       obtain ⟨d1, d2, d3, d4, d5⟩ := HP3.o.1.six_f
       have hbp := But.put wn g 1 (.int .i64 (kk : Int))
       have HP4 := aH (HP3.o.at1 kk (.int .i64 (kk : Int)) rfl)
       have HA3 := aH (HA2.o.but hbp ne3)
       have HF3 := aH (HF2.o.but hbp ne5)
       have HB3 := aH (HB2.o.setCell (p := ⟨g, 1, none⟩) (by have := HMG.o; have := HN.o; show A ≤ g; omega) (.int .i64 (kk : Int)))
       have HFC := aH (fun W (hW : Pd W g (some ⟨b, off, none⟩) lc L kk none) => p_fail 3 (by decide) g (some ⟨b, off, none⟩) lc L kk none hLn hkL W hW)
       clear h24 hbp
       go_upto_region 12 with fail
       clear c1 c2e cg d1 d2 d3 d4 d5 a0 a1 a2 a3 a4 a5 a6 a7 a8 a9 aA ml
       generalize World.setCell wn _ _ = wq at *
       go_wp2_with fail
       refine (HFC.o _ HP4.o).mono ?_
       rintro e wv ⟨rfl, hbu, hp⟩
       have HA4 := aH (HA3.o.but hbu ne3)
       have HF4 := aH (HF3.o.but hbu ne5)
       have HB4 := aH (HB3.o.trans (hbu.below (B := A) (by have := HA3.o.lt; omega) (fun j hj => by have hj' : j = g := hj; have := HMG.o; have := HN.o; omega)))
       have HP5 := aH (show Pd wv g (some ⟨b, off, none⟩) lc L kk (some (faultAt L 3 kk)) from hp)
       clear hbu hp HA3 HF3 HB3 HP4
       obtain ⟨b0, b1, b2, b3, b4, b5, b6, b7, b8, b9, bA⟩ := HA4.o.elev
       obtain ⟨f0, f1, f2, f3, f4, f5, f6, f7, f8, f9, fA⟩ := HA4.o.elevf
       have bl := HA4.o.lt
       obtain ⟨g0, g1, g2, g3, h0, h1, h2, h3⟩ := HF4.o.four
       have gl := HF4.o.lt
       obtain ⟨c0, c1, c2, c3, c4, c5, cg⟩ := HP5.o.1.six_r
       have c2e : wv.cell? ⟨g, 2, none⟩ = some (.int .i64 3) := c2
       have c3e : wv.cell? ⟨g, 3, none⟩ = some (.int .i64 ((tkA L kk).pos : Int)) := c3
       clear c0 c1 c2 c3
       go_wp2_with fail
       go_region
       go_wp2
       rw [setEl_fold, set4_fold]
       have HAA := (Own.but (Own.putEl HA4.o (.string ⟨#[]⟩) (.slice none 0 0) (.bool false) (.int .i64 0) (.string ⟨#[]⟩) (.int .u64 0) (.int .u64 0) (.int .u64 0) (.int .u64 0) (.slice none 0 0) (.slice none 0 0)) (But.set4 _ F (.int .i64 3) (.int .i64 ((tkA L kk).pos : Int)) (.int .i64 0) (.int .i64 0)) ne1).on_drew
       have HFF := (Own.put4 (Own.but HF4.o (But.setEl wv A (.string ⟨#[]⟩) (.slice none 0 0) (.bool false) (.int .i64 0) (.string ⟨#[]⟩) (.int .u64 0) (.int .u64 0) (.int .u64 0) (.int .u64 0) (.slice none 0 0) (.slice none 0 0)) ne2) (u0 := .int .i64 3) (u1 := .int .i64 ((tkA L kk).pos : Int)) (u2 := .int .i64 0) (u3 := .int .i64 0)).on_drew
       have HBB := (below_put4 (HB4.o.trans ((But.setEl wv A (.string ⟨#[]⟩) (.slice none 0 0) (.bool false) (.int .i64 0) (.string ⟨#[]⟩) (.int .u64 0) (.int .u64 0) (.int .u64 0) (.int .u64 0) (.slice none 0 0) (.slice none 0 0)).below (B := A) (by have := bl; omega) (fun j hj => by omega))) (g := F) (by have := HN.o; omega) (.int .i64 3) (.int .i64 ((tkA L kk).pos : Int)) (.int .i64 0) (.int .i64 0)).drew
       have HUU := aH (((But.refl (fun j => j = A ∨ j = F) wv).trans (But.setEl wv A (.string ⟨#[]⟩) (.slice none 0 0) (.bool false) (.int .i64 0) (.string ⟨#[]⟩) (.int .u64 0) (.int .u64 0) (.int .u64 0) (.int .u64 0) (.slice none 0 0) (.slice none 0 0)) (fun j _ h => .inl h)).trans (But.set4 _ F (.int .i64 3) (.int .i64 ((tkA L kk).pos : Int)) (.int .i64 0) (.int .i64 0)) (fun j _ h => .inr h)).drew
       clear b0 b1 b2 b3 b4 b5 b6 b7 b8 b9 bA f0 f1 f2 f3 f4 f5 f6 f7 f8 f9 fA bl g0 g1 g2 g3 h0 h1 h2 h3 gl c2e c3e c4 c5 cg
       generalize World.drew (set4 (setEl _ A _ _ _ _ _ _ _ _ _ _ _) F _ _ _ _) = w99 at *
       obtain ⟨z0, z1, z2, z3, z4, z5, z6, z7, z8, z9, zA⟩ := HAA.elev
       obtain ⟨y0, y1, y2, y3, -⟩ := HFF.four
       refine bodyPost_ret (by simp [results, Try.results46, go_sem, z0, z1, z2, z3, z4, z5, z6, z7, z8, z9, zA, y0, y1, y2, y3]; rfl) rfl ?_
       rw [HE.o, HN.o.2]
       exact ⟨⟨rfl, HNF.o⟩, HBB⟩
      ·
       have e24 : ((nr : Int) == 24) = false := aN.2 (by omega)
       have h24' : nr < 24 := by have := HRL.o; omega
       have HS4 := aH (show RES = rulR L m (f - 1) RL x (bodO L k1) from HS3.o.trans (if_neg h24))
       have HBC := aH (p_body NN g (some ⟨b, off, none⟩) lc L k1 hLn hk1L HTX.o (by have := HLL.o; omega) HNB.o wn HP3.o)
       have HBE0 := aH (fun y k2 (h : bodO L k1 = .ok (y, k2)) => bodO_be HNB.o h)
       obtain ⟨rb, hrb⟩ : ∃ r, bodO L k1 = r := ⟨_, rfl⟩
       rw [hrb] at HS4 HBC HBE0
       have HN24 := aH h24'
       clear hrb h24 h24' HS3
       go_wp2_with fail
       refine HBC.o.mono ?_
       rintro e wb ⟨hbu, X, ko2, kc2, rfl, hq⟩
       unfold exv
       have H0 : ∃ (k' : Nat) (Fp : Option Ft2), k' ≤ NN ∧ Pd wb g (some ⟨b, off, none⟩) lc L k' Fp ∧ RuQ L RES m (RL ++ [(x, X)]) k' Fp ∧ (Fp = none → ∃ n', HasE wb wn.heap.size n' ko2 X.kids) := by
        cases rb with
        | error f2 =>
         obtain ⟨k', h1, h2⟩ := hq
         exact ⟨k', some f2, by have := HLL.o; omega, h2, ⟨HS4.o, h2.2.2.2 f2 rfl⟩, fun h => by cases h⟩
        | ok p =>
         obtain ⟨y, k2⟩ := p
         obtain ⟨h1, rfl, h2⟩ := hq
         have h3 := HBE0.o y k2 rfl
         exact ⟨k2, none, h3.2, h1, ⟨by rw [List.length_append, HNR.o]; show nr + 1 ≤ 24; have := HN24.o; omega, f - 1, HS4.o, by have := HFF.o; have := HKK.o; omega⟩, fun _ => h2⟩
       obtain ⟨k', Fp, q1, q2, q3, q4⟩ := H0
       have HKP := aH q1
       have HPb := aH q2
       have HQb := aH q3
       have HEb := aH q4
       have HAb := aH (HA2.o.but hbu ne3)
       have HFb := aH (HF2.o.but hbu ne5)
       have HMb := aH (HM2.o.but hbu neM6)
       have HBb := aH (HB2.o.trans (hbu.below (B := A) (by have := HA2.o.lt; omega) (fun j hj => by have hj' : j = g := hj; have := HMG.o; have := HN.o; omega)))
       have HUb := aH hbu
       clear hbu hq c1 c2e cg q1 q2 q3 q4 a0 a1 a2 a3 a4 a5 a6 a7 a8 a9 aA ml HBC
       have hbl3 : Below wb.heap.size wb (wb.alloc (.cells #[.int .i64 X.op, .string X.text, .int .u64 X.s0, .int .u64 X.s1, .int .u64 X.s2, .int .u64 X.s3, .slice ko2 X.kids.length kc2] 79)) := bA _
       have HA3 := aH (HAb.o.under hbl3 HAb.o.lt)
       have HF3 := aH (HFb.o.under hbl3 HFb.o.lt)
       have HM3 := aH (HMb.o.under hbl3 HMb.o.lt)
       have HB3 := aH (HBb.o.trans (hbl3.mono (by have := HAb.o.lt; omega)))
       have HP3 := aH (HPb.o.below hbl3)
       have HX3 := aH (Own.fresh wb 79 [.int .i64 X.op, .string X.text, .int .u64 X.s0, .int .u64 X.s1, .int .u64 X.s2, .int .u64 X.s3, .slice ko2 X.kids.length kc2])
       have HBE := aH hbl3
       have HU3 := aH ((HU2.o.trans HUb.o (fun _ _ e => e)).then_below hbl3)
       clear hbl3
       go_upto_region 14 with fail
       generalize wb.alloc (.cells #[.int .i64 X.op, .string X.text, .int .u64 X.s0, .int .u64 X.s1, .int .u64 X.s2, .int .u64 X.s3, .slice ko2 X.kids.length kc2] 79) = wx at *
       obtain ⟨S1, S2, R, Z, nz, s1, s2, s3, s4, s5, s6, s7⟩ := HRB2.o
       have HLZ := aH (show Z.length = nr from by rw [← HNR.o, ← s4, List.length_map])
       have HS1 := aH s1
       have HS2 := aH s2
       have HS3 := aH s3
       have HS4 := aH s4
       have HS7 := aH s7
       have hng : ∀ j, S1 j ∨ S2 j ∨ R j → ¬ j = g := fun j hj e => by have := s1 j hj; have := HMG.o; omega
       have HW1 := aH ((s5.keep HUb.o (fun j _ hs e => hng j (.inl hs) e)).below HBE.o)
       have HW2 := aH ((s6.keep HUb.o (fun j _ hs e => hng j (.inr (.inl hs)) e)).below HBE.o)
       rw [HLZ.o] at HW1 HW2
       clear s1 s2 s3 s4 s5 s6 s7 hng
       obtain ⟨i0', hi, hz0, hz1, hz2⟩ := info_parts7 info_str
       obtain ⟨j0', gi, gz0, gz1, gz2⟩ := info_parts7 info_rule
       have HNEW := aH (fun W => fresh_news W 9 [.string x])
       have HNEW2 := aH (fun W => fresh_news W 90 (rrow (x, X, ko2, kc2)))
       have HCEL := aH (show ∀ u ∈ rrow (x, X, ko2, kc2), u.oneCell' = true by intro u hu; simp [rrow, xrow] at hu; rcases hu with rfl | rfl | rfl | rfl | rfl | rfl | rfl | rfl <;> rfl)
       go_wp2_with (first
        | (at_builtin; refine wpList_append_win _ rfl _ _ 22 rfl S1 9 i0' _ 1 16 Try.underlying22 hi hz0 hz1 hz2 rfl (by decide) _ nr (Z.map (fun z => Value.string z.1)) rfl (HW1.o.below (bA _)) ⟨wx.heap.size, 0, none⟩ 1 1 [.string x] rfl rfl (HNEW.o wx) (by intro u hu; rw [List.mem_singleton.1 hu]; rfl) (by unfold maxLen; omega) (by omega) ?_))
       intro v1' wy hw1' hb1'
       have hblx : Below wx.heap.size wx (wx.alloc (.cells #[.string x] 9)) := bA _
       have HBX := aH hblx
       have HSA1 := aH (show ∀ j, S1 j → M < j from fun j hj => by have := HS1.o j (.inl hj); omega)
       have HSA2 := aH (show ∀ j, S2 j → M < j from fun j hj => by have := HS1.o j (.inr (.inl hj)); omega)
       have HW1' := aH hw1'
       have HB1' := aH hb1'
       have HA4 := aH ((HA3.o.under hblx HA3.o.lt).but hb1' (fun hs => by have := HSA1.o _ hs; have := HMG.o; have := HN.o; omega))
       have HF4 := aH ((HF3.o.under hblx HF3.o.lt).but hb1' (fun hs => by have := HSA1.o _ hs; have := HMG.o; omega))
       have HM4 := aH ((HM3.o.under hblx HM3.o.lt).but hb1' (fun hs => by have := HSA1.o _ hs; omega))
       have HX4 := aH ((HX3.o.under hblx HX3.o.lt).but hb1' (fun hs => by have := HS1.o _ (.inl hs); have := HUb.o.size; omega))
       have HB4 := aH ((HB3.o.trans (hblx.mono (by have := HA3.o.lt; omega))).trans (hb1'.below (B := A) (by have := HA3.o.lt; have := hblx.size; omega) (fun j hs => by have := HSA1.o j hs; have := HMG.o; have := HN.o; omega)))
       have HU4 := aH (show But (fun j => j = g) w3 wy from (HU3.o.then_below hblx).trans hb1' (fun j hj hs => by have := HSA1.o j hs; have := HMW.o; omega))
       have HP4 := aH (Pd.butx HH.o HU4.o (HP3.o.below hblx) hb1' (fun hs => by have := HSA1.o _ hs; have := HMG.o; omega))
       have HW2' := aH ((HW2.o.below hblx).keep hb1' (fun j _ hs hs1 => HS3.o j hs1 hs))
       have HSZ4 := aH (show wx.heap.size < wy.heap.size from by have h1 := hb1'.size; have h2 : (wx.alloc (.cells #[.string x] 9)).heap.size = wx.heap.size + 1 := (by simp); omega)
       clear hw1' hb1' hblx HA3 HF3 HM3 HX3 HB3 HP3 HU3 HW1 HW2 HNEW
       obtain ⟨no', nc', hv1, -⟩ := HW1'.o.form
       subst hv1
       obtain ⟨a0, a1, a2, a3, a4, a5, a6, a7, a8, a9, aA⟩ := HM4.o.elev
       obtain ⟨f0, f1, f2, f3, f4, f5, f6, f7, f8, f9, fA⟩ := HM4.o.elevf
       have ml := HM4.o.lt
       obtain ⟨x0, x1, x2, x3, x4, x5, x6⟩ := HX4.o.seven
       have xl := HX4.o.lt
       go_wp2_with (first
        | (at_builtin; refine wpList_append_win _ rfl _ _ 80 rfl S2 90 j0' _ 8 96 Try.underlying80 gi gz0 gz1 gz2 rfl (by decide) _ nr (Z.flatMap rrow) rfl (HW2'.o.below (bA _)) ⟨wy.heap.size, 0, none⟩ 1 1 (rrow (x, X, ko2, kc2)) rfl rfl (HNEW2.o wy) HCEL.o (by unfold maxLen; omega) (by omega) ?_))
       intro v2' wz hw2' hb2'
       clear a0 a1 a2 a3 a4 a5 a6 a7 a8 a9 aA f0 f1 f2 f3 f4 f5 f6 f7 f8 f9 fA ml x0 x1 x2 x3 x4 x5 x6 xl
       have hbly : Below wy.heap.size wy (wy.alloc (.cells #[.string x, .int .i64 X.op, .string X.text, .int .u64 X.s0, .int .u64 X.s1, .int .u64 X.s2, .int .u64 X.s3, .slice ko2 X.kids.length kc2] 90)) := bA _
       have HRBz := aH (show RB (Fp = none) wz (M + 1) (.slice no' (nr + 1) nc') v2' (RL ++ [(x, X)]) from by
        rw [← HS4.o]
        by_cases hfp : Fp = none
        ·
         obtain ⟨n', hE'⟩ := HEb.o hfp
         exact RB.add (G := Fp = none) (n' := n') (g := g) (w2 := wx.alloc (.cells #[.string x] 9)) (w3 := wy) (w4 := wy.alloc (.cells #[.string x, .int .i64 X.op, .string X.text, .int .u64 X.s0, .int .u64 X.s1, .int .u64 X.s2, .int .u64 X.s3, .slice ko2 X.kids.length kc2] 90)) (by have := HMG.o; omega) HMZ2.o HS1.o HS2.o HS3.o (fun _ => HS7.o (by first | trivial | rfl)) HUb.o (fun _ => hE') (HBE.o.trans (HBX.o.mono HBE.o.size)) (by rw [HLZ.o]; exact HW1'.o.mono (fun j _ h => by simpa using h)) HB1'.o hbly (by rw [HLZ.o]; exact hw2'.mono (fun j _ h => by simpa using h)) hb2'
        ·
         exact RB.add (G := Fp = none) (n' := 0) (n := 0) (g := g) (w2 := wx.alloc (.cells #[.string x] 9)) (w3 := wy) (w4 := wy.alloc (.cells #[.string x, .int .i64 X.op, .string X.text, .int .u64 X.s0, .int .u64 X.s1, .int .u64 X.s2, .int .u64 X.s3, .slice ko2 X.kids.length kc2] 90)) (by have := HMG.o; omega) HMZ2.o HS1.o HS2.o HS3.o (fun h => absurd h hfp) HUb.o (fun h => absurd h hfp) (HBE.o.trans (HBX.o.mono HBE.o.size)) (by rw [HLZ.o]; exact HW1'.o.mono (fun j _ h => by simpa using h)) HB1'.o hbly (by rw [HLZ.o]; exact hw2'.mono (fun j _ h => by simpa using h)) hb2')
       have HA5 := aH ((HA4.o.under hbly HA4.o.lt).but hb2' (fun hs => by have := HSA2.o _ hs; have := HMG.o; have := HN.o; omega))
       have HF5 := aH ((HF4.o.under hbly HF4.o.lt).but hb2' (fun hs => by have := HSA2.o _ hs; have := HMG.o; omega))
       have HM5 := aH ((HM4.o.under hbly HM4.o.lt).but hb2' (fun hs => by have := HSA2.o _ hs; omega))
       have HB5 := aH ((HB4.o.trans (hbly.mono (by have := HA4.o.lt; omega))).trans (hb2'.below (B := A) (by have := HA4.o.lt; have := hbly.size; omega) (fun j hs => by have := HSA2.o j hs; have := HMG.o; have := HN.o; omega)))
       have HU5 := aH (show But (fun j => j = g) w3 wz from (HU4.o.then_below hbly).trans hb2' (fun j hj hs => by have := HSA2.o j hs; have := HMW.o; omega))
       have HP5 := aH (Pd.butx HH.o HU5.o (HP4.o.below hbly) hb2' (fun hs => by have := HSA2.o _ hs; have := HMG.o; omega))
       have HIz := aH (show Fp = none → HasNR wz (fun b => g < b ∧ b < M) io m.im ∧ ∃ n, HasP wz (fun b => g < b ∧ b < M) n ko m.wa.kids from fun h => by
        obtain ⟨q1, n1, q2⟩ := HI2.o
        have key1 : ∀ (S : Nat → Prop) (W W' : World), But S W W' → (∀ j, S j → M < j) → HasNR W (fun b => g < b ∧ b < M) io m.im → HasNR W' (fun b => g < b ∧ b < M) io m.im := fun S W W' hb hS q => q.but hb (fun j _ hj hs => by have := hS j hs; have h2 : j < M := hj.2; omega)
        have key2 : ∀ (S : Nat → Prop) (W W' : World), But S W W' → (∀ j, S j → M < j) → HasP W (fun b => g < b ∧ b < M) n1 ko m.wa.kids → HasP W' (fun b => g < b ∧ b < M) n1 ko m.wa.kids := fun S W W' hb hS q => q.but hb (fun j _ hj hs => by have := hS j hs; have h2 : j < M := hj.2; omega)
        have f0 : ∀ j, (fun _ : Nat => False) j → M < j := fun j h => h.elim
        have p1 := q1.but HUb.o (fun j _ hj e => by have h1 : g < j := hj.1; have h2 : j = g := e; omega)
        have p2 := q2.but HUb.o (fun j _ hj e => by have h1 : g < j := hj.1; have h2 : j = g := e; omega)
        exact ⟨key1 _ _ _ hb2' HSA2.o (key1 _ _ _ (But.of_below hbly) f0 (key1 _ _ _ HB1'.o HSA1.o (key1 _ _ _ (But.of_below HBX.o) f0 (key1 _ _ _ (But.of_below HBE.o) f0 p1)))),
         n1, key2 _ _ _ hb2' HSA2.o (key2 _ _ _ (But.of_below hbly) f0 (key2 _ _ _ HB1'.o HSA1.o (key2 _ _ _ (But.of_below HBX.o) f0 (key2 _ _ _ (But.of_below HBE.o) f0 p2))))⟩)
       obtain ⟨ro', rc', hv2⟩ := HRBz.o.form.2
       have hln : (RL ++ [(x, X)]).length = nr + 1 := by rw [List.length_append, HNR.o]; rfl
       rw [hln] at hv2
       subst hv2
       have HLNn := aH hln
       clear hw2' hb2' hbly hln HA4 HF4 HM4 HX4 HB4 HP4 HU4 HW2' HW1' HB1'
       have mA := HM5.o.thaw 10
       have mc := HM5.o.cell 10
       have ml := HM5.o.lt
       have hbp := But.put wz M 10 (.slice ro' (nr + 1) rc')
       have HA6 := aH (HA5.o.but hbp neM1)
       have HF6 := aH (HF5.o.but hbp neM3)
       have HM6 := aH (HM5.o.put 10 (.slice ro' (nr + 1) rc'))
       have HB6 := aH (HB5.o.setCell (p := ⟨M, 10, none⟩) (by have := HMG.o; have := HN.o; show A ≤ M; omega) (.slice ro' (nr + 1) rc'))
       have HU6 := aH (HU5.o.trans hbp (fun j hj e => by have h1 : j = M := e; have := HMW.o; omega))
       have HP6 := aH (Pd.butx HH.o HU6.o HP5.o hbp neM5)
       have HRB6 := aH (HRBz.o.keep hbp (fun j e => by have h1 : j = M := e; omega))
       have HMZ6 := aH (show M + 1 ≤ (wz.setCell ⟨M, 10, none⟩ (.slice ro' (nr + 1) rc')).heap.size from HM6.o.lt)
       have HI6 := aH (show Fp = none → HasNR (wz.setCell ⟨M, 10, none⟩ (.slice ro' (nr + 1) rc')) (fun b => g < b ∧ b < M) io m.im ∧ ∃ n, HasP (wz.setCell ⟨M, 10, none⟩ (.slice ro' (nr + 1) rc')) (fun b => g < b ∧ b < M) n ko m.wa.kids from fun h => by
        obtain ⟨q1, n1, q2⟩ := HIz.o h
        exact ⟨q1.but hbp (fun j _ hj e => by have h1 : j = M := e; have h2 : j < M := hj.2; omega), n1, q2.but hbp (fun j _ hj e => by have h1 : j = M := e; have h2 : j < M := hj.2; omega)⟩)
       clear hbp HA5 HF5 HM5 HB5 HU5 HP5 HRBz HIz
       go_wp2
       go_roundw
       case rel => exact ⟨k', Fp, RL ++ [(x, X)], ro', no', rc', nc', by rw [HLNn.o], by rw [HLNn.o]; have := HRL.o; omega, HKP, HP6, HQb, by rw [HLNn.o]; exact HM6, HA6, HF6, by rw [HLNn.o]; exact HRB6, HB6, HMZ6, HI6, HU6⟩
       case measure => simp [sliceLen]; omega
end Go.Proofs.Ytbjgojdpfehnmaa
