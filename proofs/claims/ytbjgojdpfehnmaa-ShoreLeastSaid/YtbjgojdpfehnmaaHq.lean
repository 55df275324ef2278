import Derived.Test.YtbjgojdpfehnmaaHu
import Derived.Test.YtbjgojdpfehnmaaHp
namespace Go.Proofs.Ytbjgojdpfehnmaa
set_option linter.unusedVariables false
section
variable {P : Program} {ops : Array Oper} {Q : Exit → Act → World → Prop} {md : Region.Mode} {S : World → Prop}
theorem held_two {i k : Nat} {fuel : Nat} {l : Array Bool} {a : Act} {w : World} (hr : Region.ready md ops l = [i, k]) (h1 : wpOp P ops Q i (fun a' w' => S w' ∧ wpAnyH P md ops Q S fuel (l.setIfInBounds i true) a' w') a w)
  (h2 : wpOp P ops Q k (fun a' w' => S w' ∧ wpAnyH P md ops Q S fuel (l.setIfInBounds k true) a' w') a w) : wpAnyH P md ops Q S (fuel + 1) l a w :=
 wpAnyH_all hr (by simp) fun x hx => by
  simp only [List.mem_cons, List.not_mem_nil, or_false] at hx
  rcases hx with rfl | rfl
  ·
   exact h1
  ·
   exact h2
theorem held_tri {i j k : Nat} {fuel : Nat} {l : Array Bool} {a : Act} {w : World} (hr : Region.ready md ops l = [i, j, k]) (h1 : wpOp P ops Q i (fun a' w' => S w' ∧ wpAnyH P md ops Q S fuel (l.setIfInBounds i true) a' w') a w)
  (h2 : wpOp P ops Q j (fun a' w' => S w' ∧ wpAnyH P md ops Q S fuel (l.setIfInBounds j true) a' w') a w)
  (h3 : wpOp P ops Q k (fun a' w' => S w' ∧ wpAnyH P md ops Q S fuel (l.setIfInBounds k true) a' w') a w) : wpAnyH P md ops Q S (fuel + 1) l a w :=
 wpAnyH_all hr (by simp) fun x hx => by
  simp only [List.mem_cons, List.not_mem_nil, or_false] at hx
  rcases hx with rfl | rfl | rfl
  ·
   exact h1
  ·
   exact h2
  ·
   exact h3
end
open Go.RowKit Go.Sort
theorem sgnO_be {NN : Nat} {L : List Tok} (HN : ∀ k, (tkA L k).kd ≠ 0 → k < NN) {s : List UInt8} {k m : Nat} (h : sgnO L s k = .ok m) : m = k + 1 ∧ m ≤ NN := by
 unfold sgnO at h
 split at h
 ·
  rename_i hw
  injection h with h
  subst h
  unfold wdB at hw
  rw [Bool.and_eq_true, beq_iff_eq] at hw
  exact ⟨rfl, HN k (by rw [hw.1]; decide)⟩
 ·
  cases h
theorem bodO_be {NN : Nat} {L : List Tok} (HN : ∀ k, (tkA L k).kd ≠ 0 → k < NN) {k m : Nat} {x : Ex} (h : bodO L k = .ok (x, m)) : k < m ∧ m ≤ NN := by
 unfold bodO at h
 cases h1 : sgnO L [61] k with
 | error e => simp [h1] at h
 | ok k1 =>
  have b1 := sgnO_be HN h1
  simp only [h1] at h
  cases h2 : rdO L k1 with
  | error e => simp [h2] at h
  | ok p =>
   obtain ⟨y, j⟩ := p
   simp only [h2] at h
   have b2 : k1 < j ∧ j ≤ NN := by
    unfold rdO at h2
    cases h4 : exO L 12 k1 with
    | error e => simp [h4] at h2
    | ok q =>
     obtain ⟨z, i⟩ := q
     have := exO_be HN 12 k1 z i h4
     simp only [h4] at h2
     split at h2
     ·
      unfold badF at h2; cases h2
     ·
      injection h2 with h2
      injection h2 with _ h3
      omega
   cases h3 : sgnO L [59] j with
   | error e => simp [h3] at h
   | ok j' =>
    have b3 := sgnO_be HN h3
    simp only [h3] at h
    injection h with h
    injection h with _ h
    omega
theorem rdO_be {NN : Nat} {L : List Tok} (HN : ∀ k, (tkA L k).kd ≠ 0 → k < NN) {k m : Nat} {x : Ex} (h : rdO L k = .ok (x, m)) : k < m ∧ m ≤ NN := by
 unfold rdO at h
 cases h4 : exO L 12 k with
 | error e => simp [h4] at h
 | ok q =>
  obtain ⟨z, i⟩ := q
  have := exO_be HN 12 k z i h4
  simp only [h4] at h
  split at h
  ·
   unfold badF at h; cases h
  ·
   injection h with h
   injection h with _ h3
   omega
def bodT (x : Ex) : Except Ft2 Nat → Rs
 | .error e => .error e
 | .ok m' => .ok (x, m')
def bodR (L : List Tok) : Rs → Rs
 | .error e => .error e
 | .ok (x, m) => bodT x (sgnO L [59] m)
def bodQ (L : List Tok) : Except Ft2 Nat → Rs
 | .error e => .error e
 | .ok k1 => bodR L (rdO L k1)
theorem bodO_q (L : List Tok) (k : Nat) : bodO L k = bodQ L (sgnO L [61] k) := by
 unfold bodO
 cases sgnO L [61] k with
 | error e => rfl
 | ok k1 =>
  show _ = bodR L (rdO L k1)
  cases h : rdO L k1 with
  | error e => simp only [h]; rfl
  | ok p =>
   obtain ⟨x, m⟩ := p
   simp only [h]
   show _ = bodT x (sgnO L [59] m)
   cases h2 : sgnO L [59] m <;> rfl
theorem store4_run {w : World} {g : Nat} {v0 v1 v2 v3 : Value} (h : Own w g 57 [v0, v1, v2, v3]) (a b : Int) :
  (Instr.storeAt 57 (.pointer (some ⟨g, 0, none⟩)) (.agg #[.int .i64 a, .int .i64 b, .int .i64 0, .int .i64 0])).run Try.prog w = .ok () (set4 w g (.int .i64 a) (.int .i64 b) (.int .i64 0) (.int .i64 0)) := by
 obtain ⟨z0, z1, z2, z3, y0, y1, y2, y3⟩ := h.four
 have zl := h.lt
 rw [← set4_fold]
 go_simp
def RdR (r : Rs) (lo hi : Nat) (X : Ex) (ko : Option Addr) (m f1 f2 : Int) (w : World) : Prop := match r with
 | .ok (x, j) => X = x ∧ m = (j : Int) ∧ f1 = 0 ∧ f2 = 0 ∧ ∃ n, HasP w (fun b => lo ≤ b ∧ b < hi) n ko x.kids
 | .error f => f1 = f.1 ∧ f2 = f.2 ∧ f.1 ≠ 0
theorem RdR.keep {S : Nat → Prop} {r : Rs} {lo hi : Nat} {X : Ex} {ko : Option Addr} {m f1 f2 : Int} {w w' : World} (h : RdR r lo hi X ko m f1 f2 w) (hb : But S w w') (hS : ∀ b, S b → b < lo ∨ hi ≤ b) : RdR r lo hi X ko m f1 f2 w' := by
 cases r with
 | error f => exact h
 | ok p =>
  obtain ⟨x, j⟩ := p
  obtain ⟨e1, e2, e3, e4, n, h3⟩ := h
  exact ⟨e1, e2, e3, e4, n, h3.but hb fun b _ hr hs => by have := hS b hs; omega⟩
theorem RdR.of {r : Rs} {D : Nat} {e : Ending} {w' : World} (h : RdE D r e w') : ∃ (X : Ex) (ko : Option Addr) (kc : Nat) (m f1 f2 : Int), e = .returned (.tuple #[.agg #[.int .i64 X.op, .string X.text, .int .u64 X.s0, .int .u64 X.s1, .int .u64 X.s2, .int .u64 X.s3, .slice ko X.kids.length kc], .int .i64 m, .agg #[.int .i64 f1, .int .i64 f2, .int .i64 0, .int .i64 0]]) ∧ RdR r D w'.heap.size X ko m f1 f2 w' := by
 cases r with
 | error f =>
  obtain ⟨h1, h2⟩ := h
  exact ⟨ex0, none, 0, 0, f.1, f.2, h1, rfl, rfl, h2⟩
 | ok p =>
  obtain ⟨x, j⟩ := p
  obtain ⟨ko, kc, n, h1, h2⟩ := h
  exact ⟨x, ko, kc, j, 0, 0, h1, rfl, rfl, rfl, rfl, n, HasP.ofE h2⟩
def BodE (D g : Nat) (lo : Option Addr) (lc : Nat) (L : List Tok) (r : Rs) (X : Ex) (ko : Option Addr) (w' : World) : Prop := match r with
 | .ok (x, m) => Pd w' g lo lc L m none ∧ x = X ∧ ∃ n, HasE w' D n ko X.kids
 | .error f => ∃ k', k' < L.length ∧ Pd w' g lo lc L k' (some f)
theorem Pd.fin {w w3 : World} {g N k0 k : Nat} {lo : Option Addr} {lc : Nat} {L : List Tok} {F0 F : Option Ft2} (H0 : Pd w g lo lc L k0 F0) (hN : w.heap.size ≤ N) (HU : But (fun j => j = g) w w3) (H3 : Pd w3 g lo lc L k F) (u0 u1 u2 u3 u4 u5 u6 : Value) :
  But (fun j => j = g) w (set7t w3 N u0 u1 u2 u3 u4 u5 u6) ∧ Pd (set7t w3 N u0 u1 u2 u3 u4 u5 u6) g lo lc L k F := by
 have hU : But (fun j => j = g) w (set7t w3 N u0 u1 u2 u3 u4 u5 u6) := HU.trans (But.set7 w3 N u0 u1 u2 u3 u4 u5 u6) (fun j hj e => by omega)
 have hg := H0.1.lt
 exact ⟨hU, H3.1.but (But.set7 w3 N u0 u1 u2 u3 u4 u5 u6) (by omega), H0.2.1.but H0.2.2.1 hU, H0.2.2.1, H3.2.2.2⟩
theorem Pd.butx {S : Nat → Prop} {w w2 w3 : World} {g k0 k : Nat} {lo : Option Addr} {lc : Nat} {L : List Tok} {F0 F : Option Ft2} (H0 : Pd w g lo lc L k0 F0) (HU : But (fun j => j = g) w w3) (H2 : Pd w2 g lo lc L k F) (hb : But S w2 w3) (hS : ¬ S g) : Pd w3 g lo lc L k F :=
 ⟨H2.1.but hb hS, H0.2.1.but H0.2.2.1 HU, H0.2.2.1, H2.2.2.2⟩
set_option maxRecDepth 1000000 in
set_option maxHeartbeats 1600000 in
theorem p_body (NN g : Nat) (lo : Option Addr) (lc : Nat) (L : List Tok) (k : Nat) (hn : (L.length : Int) ≤ 90000) (hk : k < L.length) (htx : ∀ t ∈ L, t.tx.size ≤ 1000000) (hNN : NN < L.length) (HNB : ∀ k, (tkA L k).kd ≠ 0 → k < NN) (w : World) (h : Pd w g lo lc L k none) :
  Calls Try.prog 68 #[.pointer (some ⟨g, 0, none⟩)] w fun e w' => But (fun j => j = g) w w' ∧ ∃ X ko kc, e = .returned (exv X ko kc) ∧ BodE w.heap.size g lo lc L (bodO L k) X ko w' := by
 have HH := aH h
 have HBB := aH HNB
 have HSG := aH (fun (s : ByteArray) (m : Nat) (hm : m < L.length) W (hW : Pd W g lo lc L m none) => p_sign s g lo lc L m hn hm W hW)
 have HRD := aH (fun (m : Nat) (hm : m < L.length) W (hW : HasT W lo L) => rdread_any lo lc L m hn hm htx W hW)
 have HR := aH (Own.fresh w 79 [.int .i64 0, .string ⟨#[]⟩, .int .u64 0, .int .u64 0, .int .u64 0, .int .u64 0, .slice none 0 0])
 have H1 := aH (h.below (bA (.cells #[.int .i64 0, .string ⟨#[]⟩, .int .u64 0, .int .u64 0, .int .u64 0, .int .u64 0, .slice none 0 0] 79)))
 have HU := aH (But.of_below (S := fun j => j = g) ((Below.refl w.heap.size w).alloc (Nat.le_refl _) (.cells #[.int .i64 0, .string ⟨#[]⟩, .int .u64 0, .int .u64 0, .int .u64 0, .int .u64 0, .slice none 0 0] 79)))
 have HGN := aH (show g < w.heap.size from h.1.lt)
 obtain ⟨r1, hr1⟩ : ∃ r, sgnO L [61] k = r := ⟨_, rfl⟩
 have HR1 := aH hr1
 have HSP := aH (show bodO L k = bodQ L r1 from by rw [bodO_q, hr1])
 generalize bodO L k = RES at *
 have HS1 := aH (HSG.o ⟨#[61]⟩ k hk)
 rw [show (⟨#[61]⟩ : ByteArray).data.toList = [61] from rfl, hr1] at HS1
 clear h htx HNB hr1
 go_enter Try.func68, Try.ntmps68
 go_upto_region 1 with fail
 generalize World.alloc w _ = w1 at *
 obtain ⟨N, hN⟩ : ∃ N, w.heap.size = N := ⟨_, rfl⟩
 rw [hN] at HR HGN
 rw [hN]
 have HNN := aH hN
 clear hN
 go_wp2_with fail
 refine (HS1.o _ H1.o).mono ?_
 rintro e w2 ⟨rfl, hbu, hp⟩
 have HR2 := aH (HR.o.but hbu (by have := HGN.o; omega))
 have HU2 := aH (HU.o.trans hbu (fun _ _ h => h))
 have HP2 := aH hp
 clear hbu hp HR HU H1 HS1
 cases r1
 case error f =>
  have HP3 := aH (show Pd w2 g lo lc L k (some f) from HP2.o)
  have HE := aH (show RES = .error f from HSP.o)
  obtain ⟨c0, c1, c2, c3, c4, c5, cg⟩ := HP3.o.1.six_r
  have c2' : w2.cell? ⟨g, 2, none⟩ = some (.int .i64 f.1) := c2
  have ef : (f.1 != 0) = true := bne_iff_ne.2 (HP3.o.2.2.2 f rfl)
  clear c0 c1 c2 c3 c4 c5
  obtain ⟨z0, z1, z2, z3, z4, z5, z6, y0, y1, y2, y3, y4, y5, y6⟩ := HR2.o.seven2
  have zl := HR2.o.lt
  go_wp2
  rw [set7t_fold]
  have HF := HR2.o.put7 (u0 := .int .i64 0) (u1 := .string ⟨#[]⟩) (u2 := .int .u64 0) (u3 := .int .u64 0) (u4 := .int .u64 0) (u5 := .int .u64 0) (u6 := .slice none 0 0)
  obtain ⟨hU, hR⟩ := Pd.fin HH.o (Nat.le_of_eq HNN.o) HU2.o HP3.o (.int .i64 0) (.string ⟨#[]⟩) (.int .u64 0) (.int .u64 0) (.int .u64 0) (.int .u64 0) (.slice none 0 0)
  have HBW := aH (But.set7 w2 N (.int .i64 0) (.string ⟨#[]⟩) (.int .u64 0) (.int .u64 0) (.int .u64 0) (.int .u64 0) (.slice none 0 0))
  clear z0 z1 z2 z3 z4 z5 z6 y0 y1 y2 y3 y4 y5 y6
  generalize set7t _ N _ _ _ _ _ _ _ = w99 at *
  obtain ⟨z0, z1, z2, z3, z4, z5, z6⟩ := HF.seven
  refine bodyPost_ret (by simp [results, Try.results68, go_sem, z0, z1, z2, z3, z4, z5, z6]; rfl) rfl ?_
  rw [HE.o, HNN.o]
  exact ⟨hU, ex0, none, 0, rfl, ⟨k, hk, hR⟩⟩
 case ok k1 =>
  have HP3 := aH (show Pd w2 g lo lc L k1 none from HP2.o)
  obtain ⟨hk1, hk1N⟩ := sgnO_be HBB.o HR1.o
  have hk1L : k1 < L.length := by omega
  clear hk1
  obtain ⟨r, hr⟩ : ∃ r, rdO L k1 = r := ⟨_, rfl⟩
  have HRR := aH hr
  have HRC := aH (HRD.o k1 hk1L)
  have HSR := aH (show RES = bodR L r from by rw [HSP.o, ← hr]; rfl)
  rw [hr] at HRC
  obtain ⟨c0, c1, c2, c3, c4, c5, cg⟩ := HP3.o.1.six_r
  have c2' : w2.cell? ⟨g, 2, none⟩ = some (.int .i64 0) := c2
  have HPb := aH (HP3.o.below (Below.refl _ _).drew)
  have HRb := aH HR2.o.on_drew
  have HUb := aH HU2.o.drew
  obtain ⟨n, hnn⟩ : ∃ n, L.length = n := ⟨_, rfl⟩
  rw [hnn] at c0 HRC
  have HLN := aH hnn
  clear c3 c4 c5 c2 HP2 hr HRD HR1 hnn
  go_upto_region 4 with fail
  have HGB := aH (show g < w2.heap.size from cg)
  clear c0 c1 c2' cg HP3 HR2 HU2
  go_cut [3, 4, 5] (fun b3 b4 b5 wx => ∃ (A B : Nat) (X : Ex) (ko : Option Addr) (kc : Nat) (m f1 f2 : Int), b3 = .pointer (some ⟨A, 0, none⟩) ∧ b4 = .int .i64 m ∧ b5 = .pointer (some ⟨B, 0, none⟩) ∧
   aQ (Own wx A 79 [.int .i64 X.op, .string X.text, .int .u64 X.s0, .int .u64 X.s1, .int .u64 X.s2, .int .u64 X.s3, .slice ko X.kids.length kc]) ∧ aQ (Own wx B 57 [.int .i64 f1, .int .i64 f2, .int .i64 0, .int .i64 0]) ∧ aQ (But (fun j => j = g) w wx) ∧ aQ (Pd wx g lo lc L k1 none) ∧ aQ (Own wx N 79 [.int .i64 0, .string ⟨#[]⟩, .int .u64 0, .int .u64 0, .int .u64 0, .int .u64 0, .slice none 0 0]) ∧
   aQ (A ≠ B ∧ w2.heap.size ≤ A ∧ w2.heap.size ≤ B) ∧ aQ (∃ l h, w2.heap.size ≤ l ∧ RdR r l h X ko m f1 f2 wx))
  case first =>
   refine wp_region_held (S := fun Wx => g < Wx.heap.size ∧ Wx.cell? ⟨g, 0, none⟩ = some (.slice lo n lc) ∧ Wx.cell? ⟨g, 1, none⟩ = some (.int .i64 (k1 : Int))) (by kernel_rfl) ?_
   change wpAnyH _ _ _ _ _ _ _ _ (World.drew _)
   have HZb := aH (show w2.drew.heap.size = w2.heap.size from rfl)
   generalize World.drew _ = wb at *
   have HS := aH (show g < wb.heap.size ∧ wb.cell? ⟨g, 0, none⟩ = some (.slice lo n lc) ∧ wb.cell? ⟨g, 1, none⟩ = some (.int .i64 (k1 : Int)) from ⟨HPb.o.1.lt, by rw [← HLN.o]; exact HPb.o.1.cell 0, HPb.o.1.cell 1⟩)
   have HB0 := aH (Below.refl wb.heap.size wb)
   refine wpAnyH_take (i := 0) (v := ?_) rfl (by kernel_rfl) (by kernel_rfl) (by kernel_rfl) (fun _ _ _ h => h) (Or.inl ⟨by rfl, ?_⟩) HS.o ?_
   rotate_left
   ·
    intro Wx hWx
    obtain ⟨q0, q1, q2⟩ := hWx
    go_simp
    try with_reducible rfl
   go_simp
   refine wpAnyH_take (i := 1) (v := ?_) rfl (by kernel_rfl) (by kernel_rfl) (by kernel_rfl) (fun _ _ _ h => h) (Or.inl ⟨by rfl, ?_⟩) HS.o ?_
   rotate_left
   ·
    intro Wx hWx
    obtain ⟨q0, q1, q2⟩ := hWx
    go_simp
    try with_reducible rfl
   go_simp
   refine wpAnyH_take (i := 2) (v := ?_) rfl (by kernel_rfl) (by kernel_rfl) (by kernel_rfl) (fun _ _ _ h => h) (Or.inl ⟨by rfl, ?_⟩) HS.o ?_
   rotate_left
   ·
    intro Wx hWx
    obtain ⟨q0, q1, q2⟩ := hWx
    go_simp
    try with_reducible rfl
   go_simp
   refine wpAnyH_take (i := 3) (v := ?_) rfl (by kernel_rfl) (by kernel_rfl) (by kernel_rfl) (fun _ _ _ h => h) (Or.inl ⟨by rfl, ?_⟩) HS.o ?_
   rotate_left
   ·
    intro Wx hWx
    obtain ⟨q0, q1, q2⟩ := hWx
    go_simp
    try with_reducible rfl
   go_simp
   refine wpAnyH_take (i := 4) (v := ?_) rfl (by kernel_rfl) (by kernel_rfl) (by kernel_rfl) (fun _ _ _ h => h) (Or.inl ⟨by rfl, ?_⟩) HS.o ?_
   rotate_left
   ·
    intro Wx hWx
    obtain ⟨q0, q1, q2⟩ := hWx
    go_simp
    try with_reducible rfl
   go_simp
   refine wpAnyH_take (i := 5) (v := ?_) rfl (by kernel_rfl) (by kernel_rfl) (by kernel_rfl) (fun _ _ _ h => h) (Or.inl ⟨by rfl, ?_⟩) HS.o ?_
   rotate_left
   ·
    intro Wx hWx
    obtain ⟨q0, q1, q2⟩ := hWx
    go_simp
    try with_reducible rfl
   go_simp
   refine wpAnyH_take (i := 6) (v := ?_) rfl (by kernel_rfl) (by kernel_rfl) (by kernel_rfl) (fun _ _ _ h => h) (Or.inl ⟨by rfl, ?_⟩) HS.o ?_
   rotate_left
   ·
    intro Wx hWx
    obtain ⟨q0, q1, q2⟩ := hWx
    go_simp
    try with_reducible rfl
   go_simp
   refine wpAnyH_take (i := 7) (v := ?_) rfl (by kernel_rfl) (by kernel_rfl) (by kernel_rfl) (fun _ _ _ h => h) (Or.inl ⟨by rfl, ?_⟩) HS.o ?_
   rotate_left
   ·
    intro Wx hWx
    obtain ⟨q0, q1, q2⟩ := hWx
    go_simp
    try with_reducible rfl
   go_simp
   refine held_tri (i := 8) (j := 13) (k := 14) (by kernel_rfl) ?_ ?_ ?_
   ·
    refine op_call (f := 85) (vs := #[.slice lo n lc, .int .i64 (k1 : Int)]) rfl (by kernel_rfl) (by go_simp) ((HRC.o wb (HPb.o.2.1.below HB0.o)).mono ?_)
    rintro e wq1 ⟨hre, hbw⟩
    obtain ⟨X, ko, kc, m, f1, f2, rfl, hrr⟩ := RdR.of hre
    have HBY := aH hbw
    have HVR := aH hrr
    clear hre hbw hrr
    have HB1 := aH (HB0.o.trans (HBY.o.mono HB0.o.size))
    have HZ1 := aH (show wb.heap.size ≤ wq1.heap.size from HBY.o.size)
    have HS1 := aH (show g < wq1.heap.size ∧ wq1.cell? ⟨g, 0, none⟩ = some (.slice lo n lc) ∧ wq1.cell? ⟨g, 1, none⟩ = some (.int .i64 (k1 : Int)) from ⟨aL HS.o.1 HBY.o.size, keepc HS.o.2.1 HBY.o, keepc HS.o.2.2 HBY.o⟩)
    refine ⟨_, rfl, HS1.o, ?_⟩
    clear HS HBY
    have HS := HS1
    clear HS1
    go_simp
    refine wpAnyH_take (i := 9) (v := ?_) rfl (by kernel_rfl) (by kernel_rfl) (by kernel_rfl) (fun _ _ _ h => h) (Or.inl ⟨by rfl, ?_⟩) HS.o ?_
    rotate_left
    ·
     intro Wx hWx
     go_simp
     try with_reducible rfl
    go_simp
    refine wpAnyH_take (i := 10) (v := ?_) rfl (by kernel_rfl) (by kernel_rfl) (by kernel_rfl) (fun _ _ _ h => h) (Or.inl ⟨by rfl, ?_⟩) HS.o ?_
    rotate_left
    ·
     intro Wx hWx
     go_simp
     try with_reducible rfl
    go_simp
    refine wpAnyH_take (i := 11) (v := ?_) rfl (by kernel_rfl) (by kernel_rfl) (by kernel_rfl) (fun _ _ _ h => h) (Or.inl ⟨by rfl, ?_⟩) HS.o ?_
    rotate_left
    ·
     intro Wx hWx
     go_simp
     try with_reducible rfl
    go_simp
    refine wpAnyH_take (i := 12) (v := ?_) rfl (by kernel_rfl) (by kernel_rfl) (by kernel_rfl) (fun _ _ _ h => h) (Or.inl ⟨by rfl, ?_⟩) HS.o ?_
    rotate_left
    ·
     intro Wx hWx
     go_simp
     try with_reducible rfl
    go_simp
    refine held_two (i := 13) (k := 14) (by kernel_rfl) ?_ ?_
    ·
     refine op_value (v := .pointer (some ⟨wq1.heap.size, 0, none⟩)) (w' := wq1.alloc (.cells #[.int .i64 0, .string ⟨#[]⟩, .int .u64 0, .int .u64 0, .int .u64 0, .int .u64 0, .slice none 0 0] 79)) rfl (by kernel_rfl) (by go_simp) ?_
     have HBY := aH (show Below wq1.heap.size wq1 (wq1.alloc (.cells #[.int .i64 0, .string ⟨#[]⟩, .int .u64 0, .int .u64 0, .int .u64 0, .int .u64 0, .slice none 0 0] 79)) from bA _)
     have HE := aH (Own.fresh wq1 79 [.int .i64 0, .string ⟨#[]⟩, .int .u64 0, .int .u64 0, .int .u64 0, .int .u64 0, .slice none 0 0])
     have HNE := aH (show (wq1.alloc (.cells #[.int .i64 0, .string ⟨#[]⟩, .int .u64 0, .int .u64 0, .int .u64 0, .int .u64 0, .slice none 0 0] 79)).heap.size = wq1.heap.size + 1 from by simp)
     generalize wq1.alloc (.cells #[.int .i64 0, .string ⟨#[]⟩, .int .u64 0, .int .u64 0, .int .u64 0, .int .u64 0, .slice none 0 0] 79) = wq2 at *
     obtain ⟨A, hA⟩ : ∃ z, wq1.heap.size = z := ⟨_, rfl⟩
     rw [hA] at HE
     try rw [hA]
     have HZE := aH hA
     clear hA
     have HB2 := aH (HB1.o.trans (HBY.o.mono HB1.o.size))
     have HZ2 := aH (show wq1.heap.size ≤ wq2.heap.size from HBY.o.size)
     replace HVR := aH (HVR.o.keep (S := fun _ => False) (But.of_below HBY.o) (fun _ h => h.elim))
     have HS2 := aH (show g < wq2.heap.size ∧ wq2.cell? ⟨g, 0, none⟩ = some (.slice lo n lc) ∧ wq2.cell? ⟨g, 1, none⟩ = some (.int .i64 (k1 : Int)) from ⟨aL HS.o.1 HBY.o.size, keepc HS.o.2.1 HBY.o, keepc HS.o.2.2 HBY.o⟩)
     refine ⟨HS2.o, ?_⟩
     clear HS HBY
     have HS := HS2
     clear HS2
     go_simp
     refine held_one (i := 14) (by kernel_rfl) ?_
     refine op_value (v := .pointer (some ⟨wq2.heap.size, 0, none⟩)) (w' := wq2.alloc (.cells #[.int .i64 0, .int .i64 0, .int .i64 0, .int .i64 0] 57)) rfl (by kernel_rfl) (by go_simp) ?_
     have HBY := aH (show Below wq2.heap.size wq2 (wq2.alloc (.cells #[.int .i64 0, .int .i64 0, .int .i64 0, .int .i64 0] 57)) from bA _)
     have HF := aH (Own.fresh wq2 57 [.int .i64 0, .int .i64 0, .int .i64 0, .int .i64 0])
     have HNF := aH (show (wq2.alloc (.cells #[.int .i64 0, .int .i64 0, .int .i64 0, .int .i64 0] 57)).heap.size = wq2.heap.size + 1 from by simp)
     generalize wq2.alloc (.cells #[.int .i64 0, .int .i64 0, .int .i64 0, .int .i64 0] 57) = wq3 at *
     obtain ⟨B, hB⟩ : ∃ z, wq2.heap.size = z := ⟨_, rfl⟩
     rw [hB] at HF
     try rw [hB]
     have HZF := aH hB
     clear hB
     have HB3 := aH (HB2.o.trans (HBY.o.mono HB2.o.size))
     have HZ3 := aH (show wq2.heap.size ≤ wq3.heap.size from HBY.o.size)
     replace HVR := aH (HVR.o.keep (S := fun _ => False) (But.of_below HBY.o) (fun _ h => h.elim))
     replace HE := aH (HE.o.under HBY.o HE.o.lt)
     have HS3 := aH (show g < wq3.heap.size ∧ wq3.cell? ⟨g, 0, none⟩ = some (.slice lo n lc) ∧ wq3.cell? ⟨g, 1, none⟩ = some (.int .i64 (k1 : Int)) from ⟨aL HS.o.1 HBY.o.size, keepc HS.o.2.1 HBY.o, keepc HS.o.2.2 HBY.o⟩)
     refine ⟨HS3.o, ?_⟩
     clear HS HBY
     have HS := HS3
     clear HS3
     go_simp
     have HAB := aH (show A ≠ B from by have := HZE.o; have := HZF.o; have := HNE.o; have := HNF.o; have := HZ1.o; have := HZ2.o; have := HZ3.o; omega)
     have HSZ := aH (show wb.heap.size ≤ A ∧ wb.heap.size ≤ B from by have := HZE.o; have := HZF.o; have := HZ1.o; have := HZ2.o; have := HZ3.o; omega)
     have HST := aH (store7_run HE.o X.op X.text X.s0 X.s1 X.s2 X.s3 ko X.kids.length kc)
     have HB7 := aH (But.set7 wq3 A (.int .i64 X.op) (.string X.text) (.int .u64 X.s0) (.int .u64 X.s1) (.int .u64 X.s2) (.int .u64 X.s3) (.slice ko X.kids.length kc))
     have HA5 := aH (HE.o.put7 (u0 := .int .i64 X.op) (u1 := .string X.text) (u2 := .int .u64 X.s0) (u3 := .int .u64 X.s1) (u4 := .int .u64 X.s2) (u5 := .int .u64 X.s3) (u6 := .slice ko X.kids.length kc))
     obtain ⟨w5, hw5⟩ : ∃ w5, set7t wq3 A (.int .i64 X.op) (.string X.text) (.int .u64 X.s0) (.int .u64 X.s1) (.int .u64 X.s2) (.int .u64 X.s3) (.slice ko X.kids.length kc) = w5 := ⟨_, rfl⟩
     rw [hw5] at HST HB7 HA5
     clear hw5
     have HF5 := aH (HF.o.but HB7.o (fun e => HAB.o e.symm))
     have HP5 := aH (Pd.butx HH.o ((HUb.o.then_below HB3.o).trans HB7.o (fun j hj e => by have := HSZ.o; have := HUb.o.size; omega)) (HPb.o.below HB3.o) HB7.o (by have := HPb.o.1.lt; have := HSZ.o; omega))
     have HV5 := aH (HVR.o.keep HB7.o (fun b hb => by have := HZE.o; have := HZF.o; have := HNE.o; have := HNF.o; have := HZ1.o; have := HZ2.o; have := HZ3.o; omega))
     refine held_one (i := 15) (by kernel_rfl) (op_store rfl (by kernel_rfl) _ _ _ rfl (.pointer (some ⟨A, 0, none⟩)) (.agg #[.int .i64 X.op, .string X.text, .int .u64 X.s0, .int .u64 X.s1, .int .u64 X.s2, .int .u64 X.s3, .slice ko X.kids.length kc]) rfl rfl HST.o ?_)
     clear HS
     have HS := aH (show g < w5.heap.size ∧ w5.cell? ⟨g, 0, none⟩ = some (.slice lo n lc) ∧ w5.cell? ⟨g, 1, none⟩ = some (.int .i64 (k1 : Int)) from ⟨HP5.o.1.lt, by rw [← HLN.o]; exact HP5.o.1.cell 0, HP5.o.1.cell 1⟩)
     refine ⟨HS.o, ?_⟩
     go_simp
     refine wpAnyH_take (i := 16) (v := ?_) rfl (by kernel_rfl) (by kernel_rfl) (by kernel_rfl) (fun _ _ _ h => h) (Or.inl ⟨by rfl, ?_⟩) HS.o ?_
     rotate_left
     ·
      intro Wx hWx
      go_simp
      try with_reducible rfl
     go_simp
     have HST4 := aH (store4_run HF5.o f1 f2)
     have HB8 := aH (But.set4 w5 B (.int .i64 f1) (.int .i64 f2) (.int .i64 0) (.int .i64 0))
     have HB6 := aH (HF5.o.put4 (u0 := .int .i64 f1) (u1 := .int .i64 f2) (u2 := .int .i64 0) (u3 := .int .i64 0))
     obtain ⟨w6, hw6⟩ : ∃ w6, set4 w5 B (.int .i64 f1) (.int .i64 f2) (.int .i64 0) (.int .i64 0) = w6 := ⟨_, rfl⟩
     rw [hw6] at HST4 HB8 HB6
     clear hw6
     have HA6 := aH (HA5.o.but HB8.o HAB.o)
     have HU6 := aH (show But (fun j => j = g) w w6 from ((HUb.o.then_below HB3.o).trans HB7.o (fun j hj e => by have := HSZ.o; have := HUb.o.size; omega)).trans HB8.o (fun j hj e => by have := HSZ.o; have := HUb.o.size; omega))
     have HP6 := aH (Pd.butx HH.o HU6.o HP5.o HB8.o (by have := HPb.o.1.lt; have := HSZ.o; omega))
     have HR6 := aH (((HRb.o.under HB3.o HRb.o.lt).but HB7.o (by have := HSZ.o; have := HRb.o.lt; omega)).but HB8.o (by have := HSZ.o; have := HRb.o.lt; omega))
     have HV6 := aH (HV5.o.keep HB8.o (fun b hb => by have := HZE.o; have := HZF.o; have := HNE.o; have := HNF.o; have := HZ1.o; have := HZ2.o; have := HZ3.o; omega))
     have HLH := aH (show wb.heap.size ≤ wq1.heap.size ∧ wq1.heap.size ≤ wq2.heap.size from ⟨HZ1.o, HZ2.o⟩)
     refine held_one (i := 17) (by kernel_rfl) (op_store rfl (by kernel_rfl) _ _ _ rfl (.pointer (some ⟨B, 0, none⟩)) (.agg #[.int .i64 f1, .int .i64 f2, .int .i64 0, .int .i64 0]) rfl rfl HST4.o ?_)
     refine ⟨⟨HP6.o.1.lt, by rw [← HLN.o]; exact HP6.o.1.cell 0, HP6.o.1.cell 1⟩, ?_⟩
     refine wpAnyH_done (by kernel_rfl) ?_ _
     go_wp2_with fail
     go_meet
     exact ⟨A, B, X, ko, kc, m, f1, f2, rfl, rfl, rfl, HA6, HB6, HU6, HP6, HR6, aH ⟨HAB.o, by have := HSZ.o; have := HZb.o; omega, by have := HSZ.o; have := HZb.o; omega⟩, aH ⟨_, _, by have := HLH.o; have := HZb.o; omega, HV6.o⟩⟩
    ·
     refine op_value (v := .pointer (some ⟨wq1.heap.size, 0, none⟩)) (w' := wq1.alloc (.cells #[.int .i64 0, .int .i64 0, .int .i64 0, .int .i64 0] 57)) rfl (by kernel_rfl) (by go_simp) ?_
     have HBY := aH (show Below wq1.heap.size wq1 (wq1.alloc (.cells #[.int .i64 0, .int .i64 0, .int .i64 0, .int .i64 0] 57)) from bA _)
     have HF := aH (Own.fresh wq1 57 [.int .i64 0, .int .i64 0, .int .i64 0, .int .i64 0])
     have HNF := aH (show (wq1.alloc (.cells #[.int .i64 0, .int .i64 0, .int .i64 0, .int .i64 0] 57)).heap.size = wq1.heap.size + 1 from by simp)
     generalize wq1.alloc (.cells #[.int .i64 0, .int .i64 0, .int .i64 0, .int .i64 0] 57) = wq2 at *
     obtain ⟨B, hB⟩ : ∃ z, wq1.heap.size = z := ⟨_, rfl⟩
     rw [hB] at HF
     try rw [hB]
     have HZF := aH hB
     clear hB
     have HB2 := aH (HB1.o.trans (HBY.o.mono HB1.o.size))
     have HZ2 := aH (show wq1.heap.size ≤ wq2.heap.size from HBY.o.size)
     replace HVR := aH (HVR.o.keep (S := fun _ => False) (But.of_below HBY.o) (fun _ h => h.elim))
     have HS2 := aH (show g < wq2.heap.size ∧ wq2.cell? ⟨g, 0, none⟩ = some (.slice lo n lc) ∧ wq2.cell? ⟨g, 1, none⟩ = some (.int .i64 (k1 : Int)) from ⟨aL HS.o.1 HBY.o.size, keepc HS.o.2.1 HBY.o, keepc HS.o.2.2 HBY.o⟩)
     refine ⟨HS2.o, ?_⟩
     clear HS HBY
     have HS := HS2
     clear HS2
     go_simp
     refine held_one (i := 13) (by kernel_rfl) ?_
     refine op_value (v := .pointer (some ⟨wq2.heap.size, 0, none⟩)) (w' := wq2.alloc (.cells #[.int .i64 0, .string ⟨#[]⟩, .int .u64 0, .int .u64 0, .int .u64 0, .int .u64 0, .slice none 0 0] 79)) rfl (by kernel_rfl) (by go_simp) ?_
     have HBY := aH (show Below wq2.heap.size wq2 (wq2.alloc (.cells #[.int .i64 0, .string ⟨#[]⟩, .int .u64 0, .int .u64 0, .int .u64 0, .int .u64 0, .slice none 0 0] 79)) from bA _)
     have HE := aH (Own.fresh wq2 79 [.int .i64 0, .string ⟨#[]⟩, .int .u64 0, .int .u64 0, .int .u64 0, .int .u64 0, .slice none 0 0])
     have HNE := aH (show (wq2.alloc (.cells #[.int .i64 0, .string ⟨#[]⟩, .int .u64 0, .int .u64 0, .int .u64 0, .int .u64 0, .slice none 0 0] 79)).heap.size = wq2.heap.size + 1 from by simp)
     generalize wq2.alloc (.cells #[.int .i64 0, .string ⟨#[]⟩, .int .u64 0, .int .u64 0, .int .u64 0, .int .u64 0, .slice none 0 0] 79) = wq3 at *
     obtain ⟨A, hA⟩ : ∃ z, wq2.heap.size = z := ⟨_, rfl⟩
     rw [hA] at HE
     try rw [hA]
     have HZE := aH hA
     clear hA
     have HB3 := aH (HB2.o.trans (HBY.o.mono HB2.o.size))
     have HZ3 := aH (show wq2.heap.size ≤ wq3.heap.size from HBY.o.size)
     replace HVR := aH (HVR.o.keep (S := fun _ => False) (But.of_below HBY.o) (fun _ h => h.elim))
     replace HF := aH (HF.o.under HBY.o HF.o.lt)
     have HS3 := aH (show g < wq3.heap.size ∧ wq3.cell? ⟨g, 0, none⟩ = some (.slice lo n lc) ∧ wq3.cell? ⟨g, 1, none⟩ = some (.int .i64 (k1 : Int)) from ⟨aL HS.o.1 HBY.o.size, keepc HS.o.2.1 HBY.o, keepc HS.o.2.2 HBY.o⟩)
     refine ⟨HS3.o, ?_⟩
     clear HS HBY
     have HS := HS3
     clear HS3
     go_simp
     have HAB := aH (show A ≠ B from by have := HZE.o; have := HZF.o; have := HNE.o; have := HNF.o; have := HZ1.o; have := HZ2.o; have := HZ3.o; omega)
     have HSZ := aH (show wb.heap.size ≤ A ∧ wb.heap.size ≤ B from by have := HZE.o; have := HZF.o; have := HZ1.o; have := HZ2.o; have := HZ3.o; omega)
     have HST := aH (store7_run HE.o X.op X.text X.s0 X.s1 X.s2 X.s3 ko X.kids.length kc)
     have HB7 := aH (But.set7 wq3 A (.int .i64 X.op) (.string X.text) (.int .u64 X.s0) (.int .u64 X.s1) (.int .u64 X.s2) (.int .u64 X.s3) (.slice ko X.kids.length kc))
     have HA5 := aH (HE.o.put7 (u0 := .int .i64 X.op) (u1 := .string X.text) (u2 := .int .u64 X.s0) (u3 := .int .u64 X.s1) (u4 := .int .u64 X.s2) (u5 := .int .u64 X.s3) (u6 := .slice ko X.kids.length kc))
     obtain ⟨w5, hw5⟩ : ∃ w5, set7t wq3 A (.int .i64 X.op) (.string X.text) (.int .u64 X.s0) (.int .u64 X.s1) (.int .u64 X.s2) (.int .u64 X.s3) (.slice ko X.kids.length kc) = w5 := ⟨_, rfl⟩
     rw [hw5] at HST HB7 HA5
     clear hw5
     have HF5 := aH (HF.o.but HB7.o (fun e => HAB.o e.symm))
     have HP5 := aH (Pd.butx HH.o ((HUb.o.then_below HB3.o).trans HB7.o (fun j hj e => by have := HSZ.o; have := HUb.o.size; omega)) (HPb.o.below HB3.o) HB7.o (by have := HPb.o.1.lt; have := HSZ.o; omega))
     have HV5 := aH (HVR.o.keep HB7.o (fun b hb => by have := HZE.o; have := HZF.o; have := HNE.o; have := HNF.o; have := HZ1.o; have := HZ2.o; have := HZ3.o; omega))
     refine held_one (i := 15) (by kernel_rfl) (op_store rfl (by kernel_rfl) _ _ _ rfl (.pointer (some ⟨A, 0, none⟩)) (.agg #[.int .i64 X.op, .string X.text, .int .u64 X.s0, .int .u64 X.s1, .int .u64 X.s2, .int .u64 X.s3, .slice ko X.kids.length kc]) rfl rfl HST.o ?_)
     clear HS
     have HS := aH (show g < w5.heap.size ∧ w5.cell? ⟨g, 0, none⟩ = some (.slice lo n lc) ∧ w5.cell? ⟨g, 1, none⟩ = some (.int .i64 (k1 : Int)) from ⟨HP5.o.1.lt, by rw [← HLN.o]; exact HP5.o.1.cell 0, HP5.o.1.cell 1⟩)
     refine ⟨HS.o, ?_⟩
     go_simp
     refine wpAnyH_take (i := 16) (v := ?_) rfl (by kernel_rfl) (by kernel_rfl) (by kernel_rfl) (fun _ _ _ h => h) (Or.inl ⟨by rfl, ?_⟩) HS.o ?_
     rotate_left
     ·
      intro Wx hWx
      go_simp
      try with_reducible rfl
     go_simp
     have HST4 := aH (store4_run HF5.o f1 f2)
     have HB8 := aH (But.set4 w5 B (.int .i64 f1) (.int .i64 f2) (.int .i64 0) (.int .i64 0))
     have HB6 := aH (HF5.o.put4 (u0 := .int .i64 f1) (u1 := .int .i64 f2) (u2 := .int .i64 0) (u3 := .int .i64 0))
     obtain ⟨w6, hw6⟩ : ∃ w6, set4 w5 B (.int .i64 f1) (.int .i64 f2) (.int .i64 0) (.int .i64 0) = w6 := ⟨_, rfl⟩
     rw [hw6] at HST4 HB8 HB6
     clear hw6
     have HA6 := aH (HA5.o.but HB8.o HAB.o)
     have HU6 := aH (show But (fun j => j = g) w w6 from ((HUb.o.then_below HB3.o).trans HB7.o (fun j hj e => by have := HSZ.o; have := HUb.o.size; omega)).trans HB8.o (fun j hj e => by have := HSZ.o; have := HUb.o.size; omega))
     have HP6 := aH (Pd.butx HH.o HU6.o HP5.o HB8.o (by have := HPb.o.1.lt; have := HSZ.o; omega))
     have HR6 := aH (((HRb.o.under HB3.o HRb.o.lt).but HB7.o (by have := HSZ.o; have := HRb.o.lt; omega)).but HB8.o (by have := HSZ.o; have := HRb.o.lt; omega))
     have HV6 := aH (HV5.o.keep HB8.o (fun b hb => by have := HZE.o; have := HZF.o; have := HNE.o; have := HNF.o; have := HZ1.o; have := HZ2.o; have := HZ3.o; omega))
     have HLH := aH (show wb.heap.size ≤ wq1.heap.size ∧ wq1.heap.size ≤ wq2.heap.size from ⟨HZ1.o, HZ2.o⟩)
     refine held_one (i := 17) (by kernel_rfl) (op_store rfl (by kernel_rfl) _ _ _ rfl (.pointer (some ⟨B, 0, none⟩)) (.agg #[.int .i64 f1, .int .i64 f2, .int .i64 0, .int .i64 0]) rfl rfl HST4.o ?_)
     refine ⟨⟨HP6.o.1.lt, by rw [← HLN.o]; exact HP6.o.1.cell 0, HP6.o.1.cell 1⟩, ?_⟩
     refine wpAnyH_done (by kernel_rfl) ?_ _
     go_wp2_with fail
     go_meet
     exact ⟨A, B, X, ko, kc, m, f1, f2, rfl, rfl, rfl, HA6, HB6, HU6, HP6, HR6, aH ⟨HAB.o, by have := HSZ.o; have := HZb.o; omega, by have := HSZ.o; have := HZb.o; omega⟩, aH ⟨_, _, by have := HLH.o; have := HZb.o; omega, HV6.o⟩⟩
   ·
    refine op_value (v := .pointer (some ⟨wb.heap.size, 0, none⟩)) (w' := wb.alloc (.cells #[.int .i64 0, .string ⟨#[]⟩, .int .u64 0, .int .u64 0, .int .u64 0, .int .u64 0, .slice none 0 0] 79)) rfl (by kernel_rfl) (by go_simp) ?_
    have HBY := aH (show Below wb.heap.size wb (wb.alloc (.cells #[.int .i64 0, .string ⟨#[]⟩, .int .u64 0, .int .u64 0, .int .u64 0, .int .u64 0, .slice none 0 0] 79)) from bA _)
    have HE := aH (Own.fresh wb 79 [.int .i64 0, .string ⟨#[]⟩, .int .u64 0, .int .u64 0, .int .u64 0, .int .u64 0, .slice none 0 0])
    have HNE := aH (show (wb.alloc (.cells #[.int .i64 0, .string ⟨#[]⟩, .int .u64 0, .int .u64 0, .int .u64 0, .int .u64 0, .slice none 0 0] 79)).heap.size = wb.heap.size + 1 from by simp)
    generalize wb.alloc (.cells #[.int .i64 0, .string ⟨#[]⟩, .int .u64 0, .int .u64 0, .int .u64 0, .int .u64 0, .slice none 0 0] 79) = wq1 at *
    obtain ⟨A, hA⟩ : ∃ z, wb.heap.size = z := ⟨_, rfl⟩
    rw [hA] at HE
    try rw [hA]
    have HZE := aH hA
    clear hA
    have HB1 := aH (HB0.o.trans (HBY.o.mono HB0.o.size))
    have HZ1 := aH (show wb.heap.size ≤ wq1.heap.size from HBY.o.size)
    have HS1 := aH (show g < wq1.heap.size ∧ wq1.cell? ⟨g, 0, none⟩ = some (.slice lo n lc) ∧ wq1.cell? ⟨g, 1, none⟩ = some (.int .i64 (k1 : Int)) from ⟨aL HS.o.1 HBY.o.size, keepc HS.o.2.1 HBY.o, keepc HS.o.2.2 HBY.o⟩)
    refine ⟨HS1.o, ?_⟩
    clear HS HBY
    have HS := HS1
    clear HS1
    go_simp
    refine held_two (i := 8) (k := 14) (by kernel_rfl) ?_ ?_
    ·
     refine op_call (f := 85) (vs := #[.slice lo n lc, .int .i64 (k1 : Int)]) rfl (by kernel_rfl) (by go_simp) ((HRC.o wq1 (HPb.o.2.1.below HB1.o)).mono ?_)
     rintro e wq2 ⟨hre, hbw⟩
     obtain ⟨X, ko, kc, m, f1, f2, rfl, hrr⟩ := RdR.of hre
     have HBY := aH hbw
     have HVR := aH hrr
     clear hre hbw hrr
     have HB2 := aH (HB1.o.trans (HBY.o.mono HB1.o.size))
     have HZ2 := aH (show wq1.heap.size ≤ wq2.heap.size from HBY.o.size)
     replace HE := aH (HE.o.under HBY.o HE.o.lt)
     have HS2 := aH (show g < wq2.heap.size ∧ wq2.cell? ⟨g, 0, none⟩ = some (.slice lo n lc) ∧ wq2.cell? ⟨g, 1, none⟩ = some (.int .i64 (k1 : Int)) from ⟨aL HS.o.1 HBY.o.size, keepc HS.o.2.1 HBY.o, keepc HS.o.2.2 HBY.o⟩)
     refine ⟨_, rfl, HS2.o, ?_⟩
     clear HS HBY
     have HS := HS2
     clear HS2
     go_simp
     refine wpAnyH_take (i := 9) (v := ?_) rfl (by kernel_rfl) (by kernel_rfl) (by kernel_rfl) (fun _ _ _ h => h) (Or.inl ⟨by rfl, ?_⟩) HS.o ?_
     rotate_left
     ·
      intro Wx hWx
      go_simp
      try with_reducible rfl
     go_simp
     refine wpAnyH_take (i := 10) (v := ?_) rfl (by kernel_rfl) (by kernel_rfl) (by kernel_rfl) (fun _ _ _ h => h) (Or.inl ⟨by rfl, ?_⟩) HS.o ?_
     rotate_left
     ·
      intro Wx hWx
      go_simp
      try with_reducible rfl
     go_simp
     refine wpAnyH_take (i := 11) (v := ?_) rfl (by kernel_rfl) (by kernel_rfl) (by kernel_rfl) (fun _ _ _ h => h) (Or.inl ⟨by rfl, ?_⟩) HS.o ?_
     rotate_left
     ·
      intro Wx hWx
      go_simp
      try with_reducible rfl
     go_simp
     refine wpAnyH_take (i := 12) (v := ?_) rfl (by kernel_rfl) (by kernel_rfl) (by kernel_rfl) (fun _ _ _ h => h) (Or.inl ⟨by rfl, ?_⟩) HS.o ?_
     rotate_left
     ·
      intro Wx hWx
      go_simp
      try with_reducible rfl
     go_simp
     refine held_one (i := 14) (by kernel_rfl) ?_
     refine op_value (v := .pointer (some ⟨wq2.heap.size, 0, none⟩)) (w' := wq2.alloc (.cells #[.int .i64 0, .int .i64 0, .int .i64 0, .int .i64 0] 57)) rfl (by kernel_rfl) (by go_simp) ?_
     have HBY := aH (show Below wq2.heap.size wq2 (wq2.alloc (.cells #[.int .i64 0, .int .i64 0, .int .i64 0, .int .i64 0] 57)) from bA _)
     have HF := aH (Own.fresh wq2 57 [.int .i64 0, .int .i64 0, .int .i64 0, .int .i64 0])
     have HNF := aH (show (wq2.alloc (.cells #[.int .i64 0, .int .i64 0, .int .i64 0, .int .i64 0] 57)).heap.size = wq2.heap.size + 1 from by simp)
     generalize wq2.alloc (.cells #[.int .i64 0, .int .i64 0, .int .i64 0, .int .i64 0] 57) = wq3 at *
     obtain ⟨B, hB⟩ : ∃ z, wq2.heap.size = z := ⟨_, rfl⟩
     rw [hB] at HF
     try rw [hB]
     have HZF := aH hB
     clear hB
     have HB3 := aH (HB2.o.trans (HBY.o.mono HB2.o.size))
     have HZ3 := aH (show wq2.heap.size ≤ wq3.heap.size from HBY.o.size)
     replace HE := aH (HE.o.under HBY.o HE.o.lt)
     replace HVR := aH (HVR.o.keep (S := fun _ => False) (But.of_below HBY.o) (fun _ h => h.elim))
     have HS3 := aH (show g < wq3.heap.size ∧ wq3.cell? ⟨g, 0, none⟩ = some (.slice lo n lc) ∧ wq3.cell? ⟨g, 1, none⟩ = some (.int .i64 (k1 : Int)) from ⟨aL HS.o.1 HBY.o.size, keepc HS.o.2.1 HBY.o, keepc HS.o.2.2 HBY.o⟩)
     refine ⟨HS3.o, ?_⟩
     clear HS HBY
     have HS := HS3
     clear HS3
     go_simp
     have HAB := aH (show A ≠ B from by have := HZE.o; have := HZF.o; have := HNE.o; have := HNF.o; have := HZ1.o; have := HZ2.o; have := HZ3.o; omega)
     have HSZ := aH (show wb.heap.size ≤ A ∧ wb.heap.size ≤ B from by have := HZE.o; have := HZF.o; have := HZ1.o; have := HZ2.o; have := HZ3.o; omega)
     have HST := aH (store7_run HE.o X.op X.text X.s0 X.s1 X.s2 X.s3 ko X.kids.length kc)
     have HB7 := aH (But.set7 wq3 A (.int .i64 X.op) (.string X.text) (.int .u64 X.s0) (.int .u64 X.s1) (.int .u64 X.s2) (.int .u64 X.s3) (.slice ko X.kids.length kc))
     have HA5 := aH (HE.o.put7 (u0 := .int .i64 X.op) (u1 := .string X.text) (u2 := .int .u64 X.s0) (u3 := .int .u64 X.s1) (u4 := .int .u64 X.s2) (u5 := .int .u64 X.s3) (u6 := .slice ko X.kids.length kc))
     obtain ⟨w5, hw5⟩ : ∃ w5, set7t wq3 A (.int .i64 X.op) (.string X.text) (.int .u64 X.s0) (.int .u64 X.s1) (.int .u64 X.s2) (.int .u64 X.s3) (.slice ko X.kids.length kc) = w5 := ⟨_, rfl⟩
     rw [hw5] at HST HB7 HA5
     clear hw5
     have HF5 := aH (HF.o.but HB7.o (fun e => HAB.o e.symm))
     have HP5 := aH (Pd.butx HH.o ((HUb.o.then_below HB3.o).trans HB7.o (fun j hj e => by have := HSZ.o; have := HUb.o.size; omega)) (HPb.o.below HB3.o) HB7.o (by have := HPb.o.1.lt; have := HSZ.o; omega))
     have HV5 := aH (HVR.o.keep HB7.o (fun b hb => by have := HZE.o; have := HZF.o; have := HNE.o; have := HNF.o; have := HZ1.o; have := HZ2.o; have := HZ3.o; omega))
     refine held_one (i := 15) (by kernel_rfl) (op_store rfl (by kernel_rfl) _ _ _ rfl (.pointer (some ⟨A, 0, none⟩)) (.agg #[.int .i64 X.op, .string X.text, .int .u64 X.s0, .int .u64 X.s1, .int .u64 X.s2, .int .u64 X.s3, .slice ko X.kids.length kc]) rfl rfl HST.o ?_)
     clear HS
     have HS := aH (show g < w5.heap.size ∧ w5.cell? ⟨g, 0, none⟩ = some (.slice lo n lc) ∧ w5.cell? ⟨g, 1, none⟩ = some (.int .i64 (k1 : Int)) from ⟨HP5.o.1.lt, by rw [← HLN.o]; exact HP5.o.1.cell 0, HP5.o.1.cell 1⟩)
     refine ⟨HS.o, ?_⟩
     go_simp
     refine wpAnyH_take (i := 16) (v := ?_) rfl (by kernel_rfl) (by kernel_rfl) (by kernel_rfl) (fun _ _ _ h => h) (Or.inl ⟨by rfl, ?_⟩) HS.o ?_
     rotate_left
     ·
      intro Wx hWx
      go_simp
      try with_reducible rfl
     go_simp
     have HST4 := aH (store4_run HF5.o f1 f2)
     have HB8 := aH (But.set4 w5 B (.int .i64 f1) (.int .i64 f2) (.int .i64 0) (.int .i64 0))
     have HB6 := aH (HF5.o.put4 (u0 := .int .i64 f1) (u1 := .int .i64 f2) (u2 := .int .i64 0) (u3 := .int .i64 0))
     obtain ⟨w6, hw6⟩ : ∃ w6, set4 w5 B (.int .i64 f1) (.int .i64 f2) (.int .i64 0) (.int .i64 0) = w6 := ⟨_, rfl⟩
     rw [hw6] at HST4 HB8 HB6
     clear hw6
     have HA6 := aH (HA5.o.but HB8.o HAB.o)
     have HU6 := aH (show But (fun j => j = g) w w6 from ((HUb.o.then_below HB3.o).trans HB7.o (fun j hj e => by have := HSZ.o; have := HUb.o.size; omega)).trans HB8.o (fun j hj e => by have := HSZ.o; have := HUb.o.size; omega))
     have HP6 := aH (Pd.butx HH.o HU6.o HP5.o HB8.o (by have := HPb.o.1.lt; have := HSZ.o; omega))
     have HR6 := aH (((HRb.o.under HB3.o HRb.o.lt).but HB7.o (by have := HSZ.o; have := HRb.o.lt; omega)).but HB8.o (by have := HSZ.o; have := HRb.o.lt; omega))
     have HV6 := aH (HV5.o.keep HB8.o (fun b hb => by have := HZE.o; have := HZF.o; have := HNE.o; have := HNF.o; have := HZ1.o; have := HZ2.o; have := HZ3.o; omega))
     have HLH := aH (show wb.heap.size ≤ wq1.heap.size ∧ wq1.heap.size ≤ wq2.heap.size from ⟨HZ1.o, HZ2.o⟩)
     refine held_one (i := 17) (by kernel_rfl) (op_store rfl (by kernel_rfl) _ _ _ rfl (.pointer (some ⟨B, 0, none⟩)) (.agg #[.int .i64 f1, .int .i64 f2, .int .i64 0, .int .i64 0]) rfl rfl HST4.o ?_)
     refine ⟨⟨HP6.o.1.lt, by rw [← HLN.o]; exact HP6.o.1.cell 0, HP6.o.1.cell 1⟩, ?_⟩
     refine wpAnyH_done (by kernel_rfl) ?_ _
     go_wp2_with fail
     go_meet
     exact ⟨A, B, X, ko, kc, m, f1, f2, rfl, rfl, rfl, HA6, HB6, HU6, HP6, HR6, aH ⟨HAB.o, by have := HSZ.o; have := HZb.o; omega, by have := HSZ.o; have := HZb.o; omega⟩, aH ⟨_, _, by have := HLH.o; have := HZb.o; omega, HV6.o⟩⟩
    ·
     refine op_value (v := .pointer (some ⟨wq1.heap.size, 0, none⟩)) (w' := wq1.alloc (.cells #[.int .i64 0, .int .i64 0, .int .i64 0, .int .i64 0] 57)) rfl (by kernel_rfl) (by go_simp) ?_
     have HBY := aH (show Below wq1.heap.size wq1 (wq1.alloc (.cells #[.int .i64 0, .int .i64 0, .int .i64 0, .int .i64 0] 57)) from bA _)
     have HF := aH (Own.fresh wq1 57 [.int .i64 0, .int .i64 0, .int .i64 0, .int .i64 0])
     have HNF := aH (show (wq1.alloc (.cells #[.int .i64 0, .int .i64 0, .int .i64 0, .int .i64 0] 57)).heap.size = wq1.heap.size + 1 from by simp)
     generalize wq1.alloc (.cells #[.int .i64 0, .int .i64 0, .int .i64 0, .int .i64 0] 57) = wq2 at *
     obtain ⟨B, hB⟩ : ∃ z, wq1.heap.size = z := ⟨_, rfl⟩
     rw [hB] at HF
     try rw [hB]
     have HZF := aH hB
     clear hB
     have HB2 := aH (HB1.o.trans (HBY.o.mono HB1.o.size))
     have HZ2 := aH (show wq1.heap.size ≤ wq2.heap.size from HBY.o.size)
     replace HE := aH (HE.o.under HBY.o HE.o.lt)
     have HS2 := aH (show g < wq2.heap.size ∧ wq2.cell? ⟨g, 0, none⟩ = some (.slice lo n lc) ∧ wq2.cell? ⟨g, 1, none⟩ = some (.int .i64 (k1 : Int)) from ⟨aL HS.o.1 HBY.o.size, keepc HS.o.2.1 HBY.o, keepc HS.o.2.2 HBY.o⟩)
     refine ⟨HS2.o, ?_⟩
     clear HS HBY
     have HS := HS2
     clear HS2
     go_simp
     refine held_one (i := 8) (by kernel_rfl) ?_
     refine op_call (f := 85) (vs := #[.slice lo n lc, .int .i64 (k1 : Int)]) rfl (by kernel_rfl) (by go_simp) ((HRC.o wq2 (HPb.o.2.1.below HB2.o)).mono ?_)
     rintro e wq3 ⟨hre, hbw⟩
     obtain ⟨X, ko, kc, m, f1, f2, rfl, hrr⟩ := RdR.of hre
     have HBY := aH hbw
     have HVR := aH hrr
     clear hre hbw hrr
     have HB3 := aH (HB2.o.trans (HBY.o.mono HB2.o.size))
     have HZ3 := aH (show wq2.heap.size ≤ wq3.heap.size from HBY.o.size)
     replace HE := aH (HE.o.under HBY.o HE.o.lt)
     replace HF := aH (HF.o.under HBY.o HF.o.lt)
     have HS3 := aH (show g < wq3.heap.size ∧ wq3.cell? ⟨g, 0, none⟩ = some (.slice lo n lc) ∧ wq3.cell? ⟨g, 1, none⟩ = some (.int .i64 (k1 : Int)) from ⟨aL HS.o.1 HBY.o.size, keepc HS.o.2.1 HBY.o, keepc HS.o.2.2 HBY.o⟩)
     refine ⟨_, rfl, HS3.o, ?_⟩
     clear HS HBY
     have HS := HS3
     clear HS3
     go_simp
     refine wpAnyH_take (i := 9) (v := ?_) rfl (by kernel_rfl) (by kernel_rfl) (by kernel_rfl) (fun _ _ _ h => h) (Or.inl ⟨by rfl, ?_⟩) HS.o ?_
     rotate_left
     ·
      intro Wx hWx
      go_simp
      try with_reducible rfl
     go_simp
     refine wpAnyH_take (i := 10) (v := ?_) rfl (by kernel_rfl) (by kernel_rfl) (by kernel_rfl) (fun _ _ _ h => h) (Or.inl ⟨by rfl, ?_⟩) HS.o ?_
     rotate_left
     ·
      intro Wx hWx
      go_simp
      try with_reducible rfl
     go_simp
     refine wpAnyH_take (i := 11) (v := ?_) rfl (by kernel_rfl) (by kernel_rfl) (by kernel_rfl) (fun _ _ _ h => h) (Or.inl ⟨by rfl, ?_⟩) HS.o ?_
     rotate_left
     ·
      intro Wx hWx
      go_simp
      try with_reducible rfl
     go_simp
     refine wpAnyH_take (i := 12) (v := ?_) rfl (by kernel_rfl) (by kernel_rfl) (by kernel_rfl) (fun _ _ _ h => h) (Or.inl ⟨by rfl, ?_⟩) HS.o ?_
     rotate_left
     ·
      intro Wx hWx
      go_simp
      try with_reducible rfl
     go_simp
     have HAB := aH (show A ≠ B from by have := HZE.o; have := HZF.o; have := HNE.o; have := HNF.o; have := HZ1.o; have := HZ2.o; have := HZ3.o; omega)
     have HSZ := aH (show wb.heap.size ≤ A ∧ wb.heap.size ≤ B from by have := HZE.o; have := HZF.o; have := HZ1.o; have := HZ2.o; have := HZ3.o; omega)
     have HST := aH (store7_run HE.o X.op X.text X.s0 X.s1 X.s2 X.s3 ko X.kids.length kc)
     have HB7 := aH (But.set7 wq3 A (.int .i64 X.op) (.string X.text) (.int .u64 X.s0) (.int .u64 X.s1) (.int .u64 X.s2) (.int .u64 X.s3) (.slice ko X.kids.length kc))
     have HA5 := aH (HE.o.put7 (u0 := .int .i64 X.op) (u1 := .string X.text) (u2 := .int .u64 X.s0) (u3 := .int .u64 X.s1) (u4 := .int .u64 X.s2) (u5 := .int .u64 X.s3) (u6 := .slice ko X.kids.length kc))
     obtain ⟨w5, hw5⟩ : ∃ w5, set7t wq3 A (.int .i64 X.op) (.string X.text) (.int .u64 X.s0) (.int .u64 X.s1) (.int .u64 X.s2) (.int .u64 X.s3) (.slice ko X.kids.length kc) = w5 := ⟨_, rfl⟩
     rw [hw5] at HST HB7 HA5
     clear hw5
     have HF5 := aH (HF.o.but HB7.o (fun e => HAB.o e.symm))
     have HP5 := aH (Pd.butx HH.o ((HUb.o.then_below HB3.o).trans HB7.o (fun j hj e => by have := HSZ.o; have := HUb.o.size; omega)) (HPb.o.below HB3.o) HB7.o (by have := HPb.o.1.lt; have := HSZ.o; omega))
     have HV5 := aH (HVR.o.keep HB7.o (fun b hb => by have := HZE.o; have := HZF.o; have := HNE.o; have := HNF.o; have := HZ1.o; have := HZ2.o; have := HZ3.o; omega))
     refine held_one (i := 15) (by kernel_rfl) (op_store rfl (by kernel_rfl) _ _ _ rfl (.pointer (some ⟨A, 0, none⟩)) (.agg #[.int .i64 X.op, .string X.text, .int .u64 X.s0, .int .u64 X.s1, .int .u64 X.s2, .int .u64 X.s3, .slice ko X.kids.length kc]) rfl rfl HST.o ?_)
     clear HS
     have HS := aH (show g < w5.heap.size ∧ w5.cell? ⟨g, 0, none⟩ = some (.slice lo n lc) ∧ w5.cell? ⟨g, 1, none⟩ = some (.int .i64 (k1 : Int)) from ⟨HP5.o.1.lt, by rw [← HLN.o]; exact HP5.o.1.cell 0, HP5.o.1.cell 1⟩)
     refine ⟨HS.o, ?_⟩
     go_simp
     refine wpAnyH_take (i := 16) (v := ?_) rfl (by kernel_rfl) (by kernel_rfl) (by kernel_rfl) (fun _ _ _ h => h) (Or.inl ⟨by rfl, ?_⟩) HS.o ?_
     rotate_left
     ·
      intro Wx hWx
      go_simp
      try with_reducible rfl
     go_simp
     have HST4 := aH (store4_run HF5.o f1 f2)
     have HB8 := aH (But.set4 w5 B (.int .i64 f1) (.int .i64 f2) (.int .i64 0) (.int .i64 0))
     have HB6 := aH (HF5.o.put4 (u0 := .int .i64 f1) (u1 := .int .i64 f2) (u2 := .int .i64 0) (u3 := .int .i64 0))
     obtain ⟨w6, hw6⟩ : ∃ w6, set4 w5 B (.int .i64 f1) (.int .i64 f2) (.int .i64 0) (.int .i64 0) = w6 := ⟨_, rfl⟩
     rw [hw6] at HST4 HB8 HB6
     clear hw6
     have HA6 := aH (HA5.o.but HB8.o HAB.o)
     have HU6 := aH (show But (fun j => j = g) w w6 from ((HUb.o.then_below HB3.o).trans HB7.o (fun j hj e => by have := HSZ.o; have := HUb.o.size; omega)).trans HB8.o (fun j hj e => by have := HSZ.o; have := HUb.o.size; omega))
     have HP6 := aH (Pd.butx HH.o HU6.o HP5.o HB8.o (by have := HPb.o.1.lt; have := HSZ.o; omega))
     have HR6 := aH (((HRb.o.under HB3.o HRb.o.lt).but HB7.o (by have := HSZ.o; have := HRb.o.lt; omega)).but HB8.o (by have := HSZ.o; have := HRb.o.lt; omega))
     have HV6 := aH (HV5.o.keep HB8.o (fun b hb => by have := HZE.o; have := HZF.o; have := HNE.o; have := HNF.o; have := HZ1.o; have := HZ2.o; have := HZ3.o; omega))
     have HLH := aH (show wb.heap.size ≤ wq1.heap.size ∧ wq1.heap.size ≤ wq2.heap.size from ⟨HZ1.o, HZ2.o⟩)
     refine held_one (i := 17) (by kernel_rfl) (op_store rfl (by kernel_rfl) _ _ _ rfl (.pointer (some ⟨B, 0, none⟩)) (.agg #[.int .i64 f1, .int .i64 f2, .int .i64 0, .int .i64 0]) rfl rfl HST4.o ?_)
     refine ⟨⟨HP6.o.1.lt, by rw [← HLN.o]; exact HP6.o.1.cell 0, HP6.o.1.cell 1⟩, ?_⟩
     refine wpAnyH_done (by kernel_rfl) ?_ _
     go_wp2_with fail
     go_meet
     exact ⟨A, B, X, ko, kc, m, f1, f2, rfl, rfl, rfl, HA6, HB6, HU6, HP6, HR6, aH ⟨HAB.o, by have := HSZ.o; have := HZb.o; omega, by have := HSZ.o; have := HZb.o; omega⟩, aH ⟨_, _, by have := HLH.o; have := HZb.o; omega, HV6.o⟩⟩
   ·
    refine op_value (v := .pointer (some ⟨wb.heap.size, 0, none⟩)) (w' := wb.alloc (.cells #[.int .i64 0, .int .i64 0, .int .i64 0, .int .i64 0] 57)) rfl (by kernel_rfl) (by go_simp) ?_
    have HBY := aH (show Below wb.heap.size wb (wb.alloc (.cells #[.int .i64 0, .int .i64 0, .int .i64 0, .int .i64 0] 57)) from bA _)
    have HF := aH (Own.fresh wb 57 [.int .i64 0, .int .i64 0, .int .i64 0, .int .i64 0])
    have HNF := aH (show (wb.alloc (.cells #[.int .i64 0, .int .i64 0, .int .i64 0, .int .i64 0] 57)).heap.size = wb.heap.size + 1 from by simp)
    generalize wb.alloc (.cells #[.int .i64 0, .int .i64 0, .int .i64 0, .int .i64 0] 57) = wq1 at *
    obtain ⟨B, hB⟩ : ∃ z, wb.heap.size = z := ⟨_, rfl⟩
    rw [hB] at HF
    try rw [hB]
    have HZF := aH hB
    clear hB
    have HB1 := aH (HB0.o.trans (HBY.o.mono HB0.o.size))
    have HZ1 := aH (show wb.heap.size ≤ wq1.heap.size from HBY.o.size)
    have HS1 := aH (show g < wq1.heap.size ∧ wq1.cell? ⟨g, 0, none⟩ = some (.slice lo n lc) ∧ wq1.cell? ⟨g, 1, none⟩ = some (.int .i64 (k1 : Int)) from ⟨aL HS.o.1 HBY.o.size, keepc HS.o.2.1 HBY.o, keepc HS.o.2.2 HBY.o⟩)
    refine ⟨HS1.o, ?_⟩
    clear HS HBY
    have HS := HS1
    clear HS1
    go_simp
    refine held_two (i := 8) (k := 13) (by kernel_rfl) ?_ ?_
    ·
     refine op_call (f := 85) (vs := #[.slice lo n lc, .int .i64 (k1 : Int)]) rfl (by kernel_rfl) (by go_simp) ((HRC.o wq1 (HPb.o.2.1.below HB1.o)).mono ?_)
     rintro e wq2 ⟨hre, hbw⟩
     obtain ⟨X, ko, kc, m, f1, f2, rfl, hrr⟩ := RdR.of hre
     have HBY := aH hbw
     have HVR := aH hrr
     clear hre hbw hrr
     have HB2 := aH (HB1.o.trans (HBY.o.mono HB1.o.size))
     have HZ2 := aH (show wq1.heap.size ≤ wq2.heap.size from HBY.o.size)
     replace HF := aH (HF.o.under HBY.o HF.o.lt)
     have HS2 := aH (show g < wq2.heap.size ∧ wq2.cell? ⟨g, 0, none⟩ = some (.slice lo n lc) ∧ wq2.cell? ⟨g, 1, none⟩ = some (.int .i64 (k1 : Int)) from ⟨aL HS.o.1 HBY.o.size, keepc HS.o.2.1 HBY.o, keepc HS.o.2.2 HBY.o⟩)
     refine ⟨_, rfl, HS2.o, ?_⟩
     clear HS HBY
     have HS := HS2
     clear HS2
     go_simp
     refine wpAnyH_take (i := 9) (v := ?_) rfl (by kernel_rfl) (by kernel_rfl) (by kernel_rfl) (fun _ _ _ h => h) (Or.inl ⟨by rfl, ?_⟩) HS.o ?_
     rotate_left
     ·
      intro Wx hWx
      go_simp
      try with_reducible rfl
     go_simp
     refine wpAnyH_take (i := 10) (v := ?_) rfl (by kernel_rfl) (by kernel_rfl) (by kernel_rfl) (fun _ _ _ h => h) (Or.inl ⟨by rfl, ?_⟩) HS.o ?_
     rotate_left
     ·
      intro Wx hWx
      go_simp
      try with_reducible rfl
     go_simp
     refine wpAnyH_take (i := 11) (v := ?_) rfl (by kernel_rfl) (by kernel_rfl) (by kernel_rfl) (fun _ _ _ h => h) (Or.inl ⟨by rfl, ?_⟩) HS.o ?_
     rotate_left
     ·
      intro Wx hWx
      go_simp
      try with_reducible rfl
     go_simp
     refine wpAnyH_take (i := 12) (v := ?_) rfl (by kernel_rfl) (by kernel_rfl) (by kernel_rfl) (fun _ _ _ h => h) (Or.inl ⟨by rfl, ?_⟩) HS.o ?_
     rotate_left
     ·
      intro Wx hWx
      go_simp
      try with_reducible rfl
     go_simp
     refine held_one (i := 13) (by kernel_rfl) ?_
     refine op_value (v := .pointer (some ⟨wq2.heap.size, 0, none⟩)) (w' := wq2.alloc (.cells #[.int .i64 0, .string ⟨#[]⟩, .int .u64 0, .int .u64 0, .int .u64 0, .int .u64 0, .slice none 0 0] 79)) rfl (by kernel_rfl) (by go_simp) ?_
     have HBY := aH (show Below wq2.heap.size wq2 (wq2.alloc (.cells #[.int .i64 0, .string ⟨#[]⟩, .int .u64 0, .int .u64 0, .int .u64 0, .int .u64 0, .slice none 0 0] 79)) from bA _)
     have HE := aH (Own.fresh wq2 79 [.int .i64 0, .string ⟨#[]⟩, .int .u64 0, .int .u64 0, .int .u64 0, .int .u64 0, .slice none 0 0])
     have HNE := aH (show (wq2.alloc (.cells #[.int .i64 0, .string ⟨#[]⟩, .int .u64 0, .int .u64 0, .int .u64 0, .int .u64 0, .slice none 0 0] 79)).heap.size = wq2.heap.size + 1 from by simp)
     generalize wq2.alloc (.cells #[.int .i64 0, .string ⟨#[]⟩, .int .u64 0, .int .u64 0, .int .u64 0, .int .u64 0, .slice none 0 0] 79) = wq3 at *
     obtain ⟨A, hA⟩ : ∃ z, wq2.heap.size = z := ⟨_, rfl⟩
     rw [hA] at HE
     try rw [hA]
     have HZE := aH hA
     clear hA
     have HB3 := aH (HB2.o.trans (HBY.o.mono HB2.o.size))
     have HZ3 := aH (show wq2.heap.size ≤ wq3.heap.size from HBY.o.size)
     replace HF := aH (HF.o.under HBY.o HF.o.lt)
     replace HVR := aH (HVR.o.keep (S := fun _ => False) (But.of_below HBY.o) (fun _ h => h.elim))
     have HS3 := aH (show g < wq3.heap.size ∧ wq3.cell? ⟨g, 0, none⟩ = some (.slice lo n lc) ∧ wq3.cell? ⟨g, 1, none⟩ = some (.int .i64 (k1 : Int)) from ⟨aL HS.o.1 HBY.o.size, keepc HS.o.2.1 HBY.o, keepc HS.o.2.2 HBY.o⟩)
     refine ⟨HS3.o, ?_⟩
     clear HS HBY
     have HS := HS3
     clear HS3
     go_simp
     have HAB := aH (show A ≠ B from by have := HZE.o; have := HZF.o; have := HNE.o; have := HNF.o; have := HZ1.o; have := HZ2.o; have := HZ3.o; omega)
     have HSZ := aH (show wb.heap.size ≤ A ∧ wb.heap.size ≤ B from by have := HZE.o; have := HZF.o; have := HZ1.o; have := HZ2.o; have := HZ3.o; omega)
     have HST := aH (store7_run HE.o X.op X.text X.s0 X.s1 X.s2 X.s3 ko X.kids.length kc)
     have HB7 := aH (But.set7 wq3 A (.int .i64 X.op) (.string X.text) (.int .u64 X.s0) (.int .u64 X.s1) (.int .u64 X.s2) (.int .u64 X.s3) (.slice ko X.kids.length kc))
     have HA5 := aH (HE.o.put7 (u0 := .int .i64 X.op) (u1 := .string X.text) (u2 := .int .u64 X.s0) (u3 := .int .u64 X.s1) (u4 := .int .u64 X.s2) (u5 := .int .u64 X.s3) (u6 := .slice ko X.kids.length kc))
     obtain ⟨w5, hw5⟩ : ∃ w5, set7t wq3 A (.int .i64 X.op) (.string X.text) (.int .u64 X.s0) (.int .u64 X.s1) (.int .u64 X.s2) (.int .u64 X.s3) (.slice ko X.kids.length kc) = w5 := ⟨_, rfl⟩
     rw [hw5] at HST HB7 HA5
     clear hw5
     have HF5 := aH (HF.o.but HB7.o (fun e => HAB.o e.symm))
     have HP5 := aH (Pd.butx HH.o ((HUb.o.then_below HB3.o).trans HB7.o (fun j hj e => by have := HSZ.o; have := HUb.o.size; omega)) (HPb.o.below HB3.o) HB7.o (by have := HPb.o.1.lt; have := HSZ.o; omega))
     have HV5 := aH (HVR.o.keep HB7.o (fun b hb => by have := HZE.o; have := HZF.o; have := HNE.o; have := HNF.o; have := HZ1.o; have := HZ2.o; have := HZ3.o; omega))
     refine held_one (i := 15) (by kernel_rfl) (op_store rfl (by kernel_rfl) _ _ _ rfl (.pointer (some ⟨A, 0, none⟩)) (.agg #[.int .i64 X.op, .string X.text, .int .u64 X.s0, .int .u64 X.s1, .int .u64 X.s2, .int .u64 X.s3, .slice ko X.kids.length kc]) rfl rfl HST.o ?_)
     clear HS
     have HS := aH (show g < w5.heap.size ∧ w5.cell? ⟨g, 0, none⟩ = some (.slice lo n lc) ∧ w5.cell? ⟨g, 1, none⟩ = some (.int .i64 (k1 : Int)) from ⟨HP5.o.1.lt, by rw [← HLN.o]; exact HP5.o.1.cell 0, HP5.o.1.cell 1⟩)
     refine ⟨HS.o, ?_⟩
     go_simp
     refine wpAnyH_take (i := 16) (v := ?_) rfl (by kernel_rfl) (by kernel_rfl) (by kernel_rfl) (fun _ _ _ h => h) (Or.inl ⟨by rfl, ?_⟩) HS.o ?_
     rotate_left
     ·
      intro Wx hWx
      go_simp
      try with_reducible rfl
     go_simp
     have HST4 := aH (store4_run HF5.o f1 f2)
     have HB8 := aH (But.set4 w5 B (.int .i64 f1) (.int .i64 f2) (.int .i64 0) (.int .i64 0))
     have HB6 := aH (HF5.o.put4 (u0 := .int .i64 f1) (u1 := .int .i64 f2) (u2 := .int .i64 0) (u3 := .int .i64 0))
     obtain ⟨w6, hw6⟩ : ∃ w6, set4 w5 B (.int .i64 f1) (.int .i64 f2) (.int .i64 0) (.int .i64 0) = w6 := ⟨_, rfl⟩
     rw [hw6] at HST4 HB8 HB6
     clear hw6
     have HA6 := aH (HA5.o.but HB8.o HAB.o)
     have HU6 := aH (show But (fun j => j = g) w w6 from ((HUb.o.then_below HB3.o).trans HB7.o (fun j hj e => by have := HSZ.o; have := HUb.o.size; omega)).trans HB8.o (fun j hj e => by have := HSZ.o; have := HUb.o.size; omega))
     have HP6 := aH (Pd.butx HH.o HU6.o HP5.o HB8.o (by have := HPb.o.1.lt; have := HSZ.o; omega))
     have HR6 := aH (((HRb.o.under HB3.o HRb.o.lt).but HB7.o (by have := HSZ.o; have := HRb.o.lt; omega)).but HB8.o (by have := HSZ.o; have := HRb.o.lt; omega))
     have HV6 := aH (HV5.o.keep HB8.o (fun b hb => by have := HZE.o; have := HZF.o; have := HNE.o; have := HNF.o; have := HZ1.o; have := HZ2.o; have := HZ3.o; omega))
     have HLH := aH (show wb.heap.size ≤ wq1.heap.size ∧ wq1.heap.size ≤ wq2.heap.size from ⟨HZ1.o, HZ2.o⟩)
     refine held_one (i := 17) (by kernel_rfl) (op_store rfl (by kernel_rfl) _ _ _ rfl (.pointer (some ⟨B, 0, none⟩)) (.agg #[.int .i64 f1, .int .i64 f2, .int .i64 0, .int .i64 0]) rfl rfl HST4.o ?_)
     refine ⟨⟨HP6.o.1.lt, by rw [← HLN.o]; exact HP6.o.1.cell 0, HP6.o.1.cell 1⟩, ?_⟩
     refine wpAnyH_done (by kernel_rfl) ?_ _
     go_wp2_with fail
     go_meet
     exact ⟨A, B, X, ko, kc, m, f1, f2, rfl, rfl, rfl, HA6, HB6, HU6, HP6, HR6, aH ⟨HAB.o, by have := HSZ.o; have := HZb.o; omega, by have := HSZ.o; have := HZb.o; omega⟩, aH ⟨_, _, by have := HLH.o; have := HZb.o; omega, HV6.o⟩⟩
    ·
     refine op_value (v := .pointer (some ⟨wq1.heap.size, 0, none⟩)) (w' := wq1.alloc (.cells #[.int .i64 0, .string ⟨#[]⟩, .int .u64 0, .int .u64 0, .int .u64 0, .int .u64 0, .slice none 0 0] 79)) rfl (by kernel_rfl) (by go_simp) ?_
     have HBY := aH (show Below wq1.heap.size wq1 (wq1.alloc (.cells #[.int .i64 0, .string ⟨#[]⟩, .int .u64 0, .int .u64 0, .int .u64 0, .int .u64 0, .slice none 0 0] 79)) from bA _)
     have HE := aH (Own.fresh wq1 79 [.int .i64 0, .string ⟨#[]⟩, .int .u64 0, .int .u64 0, .int .u64 0, .int .u64 0, .slice none 0 0])
     have HNE := aH (show (wq1.alloc (.cells #[.int .i64 0, .string ⟨#[]⟩, .int .u64 0, .int .u64 0, .int .u64 0, .int .u64 0, .slice none 0 0] 79)).heap.size = wq1.heap.size + 1 from by simp)
     generalize wq1.alloc (.cells #[.int .i64 0, .string ⟨#[]⟩, .int .u64 0, .int .u64 0, .int .u64 0, .int .u64 0, .slice none 0 0] 79) = wq2 at *
     obtain ⟨A, hA⟩ : ∃ z, wq1.heap.size = z := ⟨_, rfl⟩
     rw [hA] at HE
     try rw [hA]
     have HZE := aH hA
     clear hA
     have HB2 := aH (HB1.o.trans (HBY.o.mono HB1.o.size))
     have HZ2 := aH (show wq1.heap.size ≤ wq2.heap.size from HBY.o.size)
     replace HF := aH (HF.o.under HBY.o HF.o.lt)
     have HS2 := aH (show g < wq2.heap.size ∧ wq2.cell? ⟨g, 0, none⟩ = some (.slice lo n lc) ∧ wq2.cell? ⟨g, 1, none⟩ = some (.int .i64 (k1 : Int)) from ⟨aL HS.o.1 HBY.o.size, keepc HS.o.2.1 HBY.o, keepc HS.o.2.2 HBY.o⟩)
     refine ⟨HS2.o, ?_⟩
     clear HS HBY
     have HS := HS2
     clear HS2
     go_simp
     refine held_one (i := 8) (by kernel_rfl) ?_
     refine op_call (f := 85) (vs := #[.slice lo n lc, .int .i64 (k1 : Int)]) rfl (by kernel_rfl) (by go_simp) ((HRC.o wq2 (HPb.o.2.1.below HB2.o)).mono ?_)
     rintro e wq3 ⟨hre, hbw⟩
     obtain ⟨X, ko, kc, m, f1, f2, rfl, hrr⟩ := RdR.of hre
     have HBY := aH hbw
     have HVR := aH hrr
     clear hre hbw hrr
     have HB3 := aH (HB2.o.trans (HBY.o.mono HB2.o.size))
     have HZ3 := aH (show wq2.heap.size ≤ wq3.heap.size from HBY.o.size)
     replace HF := aH (HF.o.under HBY.o HF.o.lt)
     replace HE := aH (HE.o.under HBY.o HE.o.lt)
     have HS3 := aH (show g < wq3.heap.size ∧ wq3.cell? ⟨g, 0, none⟩ = some (.slice lo n lc) ∧ wq3.cell? ⟨g, 1, none⟩ = some (.int .i64 (k1 : Int)) from ⟨aL HS.o.1 HBY.o.size, keepc HS.o.2.1 HBY.o, keepc HS.o.2.2 HBY.o⟩)
     refine ⟨_, rfl, HS3.o, ?_⟩
     clear HS HBY
     have HS := HS3
     clear HS3
     go_simp
     refine wpAnyH_take (i := 9) (v := ?_) rfl (by kernel_rfl) (by kernel_rfl) (by kernel_rfl) (fun _ _ _ h => h) (Or.inl ⟨by rfl, ?_⟩) HS.o ?_
     rotate_left
     ·
      intro Wx hWx
      go_simp
      try with_reducible rfl
     go_simp
     refine wpAnyH_take (i := 10) (v := ?_) rfl (by kernel_rfl) (by kernel_rfl) (by kernel_rfl) (fun _ _ _ h => h) (Or.inl ⟨by rfl, ?_⟩) HS.o ?_
     rotate_left
     ·
      intro Wx hWx
      go_simp
      try with_reducible rfl
     go_simp
     refine wpAnyH_take (i := 11) (v := ?_) rfl (by kernel_rfl) (by kernel_rfl) (by kernel_rfl) (fun _ _ _ h => h) (Or.inl ⟨by rfl, ?_⟩) HS.o ?_
     rotate_left
     ·
      intro Wx hWx
      go_simp
      try with_reducible rfl
     go_simp
     refine wpAnyH_take (i := 12) (v := ?_) rfl (by kernel_rfl) (by kernel_rfl) (by kernel_rfl) (fun _ _ _ h => h) (Or.inl ⟨by rfl, ?_⟩) HS.o ?_
     rotate_left
     ·
      intro Wx hWx
      go_simp
      try with_reducible rfl
     go_simp
     have HAB := aH (show A ≠ B from by have := HZE.o; have := HZF.o; have := HNE.o; have := HNF.o; have := HZ1.o; have := HZ2.o; have := HZ3.o; omega)
     have HSZ := aH (show wb.heap.size ≤ A ∧ wb.heap.size ≤ B from by have := HZE.o; have := HZF.o; have := HZ1.o; have := HZ2.o; have := HZ3.o; omega)
     have HST := aH (store7_run HE.o X.op X.text X.s0 X.s1 X.s2 X.s3 ko X.kids.length kc)
     have HB7 := aH (But.set7 wq3 A (.int .i64 X.op) (.string X.text) (.int .u64 X.s0) (.int .u64 X.s1) (.int .u64 X.s2) (.int .u64 X.s3) (.slice ko X.kids.length kc))
     have HA5 := aH (HE.o.put7 (u0 := .int .i64 X.op) (u1 := .string X.text) (u2 := .int .u64 X.s0) (u3 := .int .u64 X.s1) (u4 := .int .u64 X.s2) (u5 := .int .u64 X.s3) (u6 := .slice ko X.kids.length kc))
     obtain ⟨w5, hw5⟩ : ∃ w5, set7t wq3 A (.int .i64 X.op) (.string X.text) (.int .u64 X.s0) (.int .u64 X.s1) (.int .u64 X.s2) (.int .u64 X.s3) (.slice ko X.kids.length kc) = w5 := ⟨_, rfl⟩
     rw [hw5] at HST HB7 HA5
     clear hw5
     have HF5 := aH (HF.o.but HB7.o (fun e => HAB.o e.symm))
     have HP5 := aH (Pd.butx HH.o ((HUb.o.then_below HB3.o).trans HB7.o (fun j hj e => by have := HSZ.o; have := HUb.o.size; omega)) (HPb.o.below HB3.o) HB7.o (by have := HPb.o.1.lt; have := HSZ.o; omega))
     have HV5 := aH (HVR.o.keep HB7.o (fun b hb => by have := HZE.o; have := HZF.o; have := HNE.o; have := HNF.o; have := HZ1.o; have := HZ2.o; have := HZ3.o; omega))
     refine held_one (i := 15) (by kernel_rfl) (op_store rfl (by kernel_rfl) _ _ _ rfl (.pointer (some ⟨A, 0, none⟩)) (.agg #[.int .i64 X.op, .string X.text, .int .u64 X.s0, .int .u64 X.s1, .int .u64 X.s2, .int .u64 X.s3, .slice ko X.kids.length kc]) rfl rfl HST.o ?_)
     clear HS
     have HS := aH (show g < w5.heap.size ∧ w5.cell? ⟨g, 0, none⟩ = some (.slice lo n lc) ∧ w5.cell? ⟨g, 1, none⟩ = some (.int .i64 (k1 : Int)) from ⟨HP5.o.1.lt, by rw [← HLN.o]; exact HP5.o.1.cell 0, HP5.o.1.cell 1⟩)
     refine ⟨HS.o, ?_⟩
     go_simp
     refine wpAnyH_take (i := 16) (v := ?_) rfl (by kernel_rfl) (by kernel_rfl) (by kernel_rfl) (fun _ _ _ h => h) (Or.inl ⟨by rfl, ?_⟩) HS.o ?_
     rotate_left
     ·
      intro Wx hWx
      go_simp
      try with_reducible rfl
     go_simp
     have HST4 := aH (store4_run HF5.o f1 f2)
     have HB8 := aH (But.set4 w5 B (.int .i64 f1) (.int .i64 f2) (.int .i64 0) (.int .i64 0))
     have HB6 := aH (HF5.o.put4 (u0 := .int .i64 f1) (u1 := .int .i64 f2) (u2 := .int .i64 0) (u3 := .int .i64 0))
     obtain ⟨w6, hw6⟩ : ∃ w6, set4 w5 B (.int .i64 f1) (.int .i64 f2) (.int .i64 0) (.int .i64 0) = w6 := ⟨_, rfl⟩
     rw [hw6] at HST4 HB8 HB6
     clear hw6
     have HA6 := aH (HA5.o.but HB8.o HAB.o)
     have HU6 := aH (show But (fun j => j = g) w w6 from ((HUb.o.then_below HB3.o).trans HB7.o (fun j hj e => by have := HSZ.o; have := HUb.o.size; omega)).trans HB8.o (fun j hj e => by have := HSZ.o; have := HUb.o.size; omega))
     have HP6 := aH (Pd.butx HH.o HU6.o HP5.o HB8.o (by have := HPb.o.1.lt; have := HSZ.o; omega))
     have HR6 := aH (((HRb.o.under HB3.o HRb.o.lt).but HB7.o (by have := HSZ.o; have := HRb.o.lt; omega)).but HB8.o (by have := HSZ.o; have := HRb.o.lt; omega))
     have HV6 := aH (HV5.o.keep HB8.o (fun b hb => by have := HZE.o; have := HZF.o; have := HNE.o; have := HNF.o; have := HZ1.o; have := HZ2.o; have := HZ3.o; omega))
     have HLH := aH (show wb.heap.size ≤ wq1.heap.size ∧ wq1.heap.size ≤ wq2.heap.size from ⟨HZ1.o, HZ2.o⟩)
     refine held_one (i := 17) (by kernel_rfl) (op_store rfl (by kernel_rfl) _ _ _ rfl (.pointer (some ⟨B, 0, none⟩)) (.agg #[.int .i64 f1, .int .i64 f2, .int .i64 0, .int .i64 0]) rfl rfl HST4.o ?_)
     refine ⟨⟨HP6.o.1.lt, by rw [← HLN.o]; exact HP6.o.1.cell 0, HP6.o.1.cell 1⟩, ?_⟩
     refine wpAnyH_done (by kernel_rfl) ?_ _
     go_wp2_with fail
     go_meet
     exact ⟨A, B, X, ko, kc, m, f1, f2, rfl, rfl, rfl, HA6, HB6, HU6, HP6, HR6, aH ⟨HAB.o, by have := HSZ.o; have := HZb.o; omega, by have := HSZ.o; have := HZb.o; omega⟩, aH ⟨_, _, by have := HLH.o; have := HZb.o; omega, HV6.o⟩⟩
  case rest =>
   obtain ⟨A, B, X, ko, kc, m, f1, f2, rfl, rfl, rfl, HA6, HB6, HU6, HP6, HR6, HABS, HLR⟩ := hcut
   obtain ⟨l0, h0, hl0, hvr⟩ := HLR.o
   have HVR := aH hvr
   have HL0 := aH hl0
   have HAD := aH (show w2.heap.size ≤ A from HABS.o.2.1)
   have HBD := aH (show w2.heap.size ≤ B from HABS.o.2.2)
   have HNB := aH (show N < w2.heap.size from HRb.o.lt)
   clear hvr hl0 HLR HPb HRb HUb HRC
   cases r
   case error f =>
    obtain ⟨rfl, rfl, hf0⟩ := HVR.o
    have HNF := aH hf0
    have HE := aH (show RES = .error f from HSR.o)
    obtain ⟨c0, c1, c2, c3, c4, c5, cg⟩ := HP6.o.1.six_r
    have c2' : wc.cell? ⟨g, 2, none⟩ = some (.int .i64 0) := c2
    have c3' : wc.cell? ⟨g, 3, none⟩ = some (.int .i64 0) := c3
    obtain ⟨d1, d2, d3, d4, d5⟩ := HP6.o.1.six_f
    obtain ⟨b0, b1, b2, b3, -⟩ := HB6.o.four
    have bl := HB6.o.lt
    have ef : (f.1 != 0) = true := bne_iff_ne.2 hf0
    have ngB : ¬ g = B := by have := HGB.o; have := HBD.o; omega
    have nBg : ¬ B = g := fun e => ngB e.symm
    have HP7 := aH (HP6.o.fault f HNF.o)
    have HU7 := aH (((((HU6.o.setCell (p := ⟨g, 2, none⟩) (fun _ => rfl) (.int .i64 f.1)).setCell (p := ⟨g, 3, none⟩) (fun _ => rfl) (.int .i64 f.2)).setCell (p := ⟨g, 4, none⟩) (fun _ => rfl) (.int .i64 0)).setCell (p := ⟨g, 5, none⟩) (fun _ => rfl) (.int .i64 0)))
    have HR7 := aH ((((HR6.o.off (p := ⟨g, 2, none⟩) (by have := HGN.o; show N ≠ g; omega) (.int .i64 f.1)).off (p := ⟨g, 3, none⟩) (by have := HGN.o; show N ≠ g; omega) (.int .i64 f.2)).off (p := ⟨g, 4, none⟩) (by have := HGN.o; show N ≠ g; omega) (.int .i64 0)).off (p := ⟨g, 5, none⟩) (by have := HGN.o; show N ≠ g; omega) (.int .i64 0))
    clear c2 c3 hf0
    go_upto_region 7 with fail
    clear c0 c1 c2' c3' c4 c5 cg d1 d2 d3 d4 d5 b0 b1 b2 b3 bl HB6 HA6 HP6 HU6 HR6
    generalize World.setCell (World.setCell (World.setCell (World.setCell wc _ _) _ _) _ _) _ _ = w7 at *
    obtain ⟨z0, z1, z2, z3, z4, z5, z6, y0, y1, y2, y3, y4, y5, y6⟩ := HR7.o.seven2
    have zl := HR7.o.lt
    go_wp2
    rw [set7t_fold]
    have HF := HR7.o.put7 (u0 := .int .i64 0) (u1 := .string ⟨#[]⟩) (u2 := .int .u64 0) (u3 := .int .u64 0) (u4 := .int .u64 0) (u5 := .int .u64 0) (u6 := .slice none 0 0)
    obtain ⟨hU, hR⟩ := Pd.fin HH.o (Nat.le_of_eq HNN.o) HU7.o HP7.o (.int .i64 0) (.string ⟨#[]⟩) (.int .u64 0) (.int .u64 0) (.int .u64 0) (.int .u64 0) (.slice none 0 0)
    have HBW := aH (But.set7 w7 N (.int .i64 0) (.string ⟨#[]⟩) (.int .u64 0) (.int .u64 0) (.int .u64 0) (.int .u64 0) (.slice none 0 0))
    clear z0 z1 z2 z3 z4 z5 z6 y0 y1 y2 y3 y4 y5 y6
    generalize set7t _ N _ _ _ _ _ _ _ = w99 at *
    obtain ⟨z0, z1, z2, z3, z4, z5, z6⟩ := HF.seven
    refine bodyPost_ret (by simp [results, Try.results68, go_sem, z0, z1, z2, z3, z4, z5, z6]; rfl) rfl ?_
    rw [HE.o, HNN.o]
    exact ⟨hU, ex0, none, 0, rfl, ⟨k1, hk1L, hR⟩⟩
   case ok pq =>
    obtain ⟨x, j⟩ := pq
    obtain ⟨rfl, rfl, rfl, rfl, n3, hT3⟩ := HVR.o
    have HT6 := aH (show HasE wc w2.heap.size n3 ko X.kids from hT3.toE (fun b hb => by have := HL0.o; omega))
    obtain ⟨hj1, hj2⟩ := rdO_be HBB.o HRR.o
    have hjL : j < L.length := by omega
    obtain ⟨r2, hr2⟩ : ∃ r, sgnO L [59] j = r := ⟨_, rfl⟩
    have HSQ := aH (show RES = bodT X r2 from by rw [HSR.o, ← hr2]; rfl)
    have HS2 := aH (HSG.o ⟨#[59]⟩ j hjL)
    rw [show (⟨#[59]⟩ : ByteArray).data.toList = [59] from rfl, hr2] at HS2
    obtain ⟨c0, c1, c2, c3, c4, c5, cg⟩ := HP6.o.1.six_r
    obtain ⟨d1, d2, d3, d4, d5⟩ := HP6.o.1.six_f
    obtain ⟨b0, b1, b2, b3, -⟩ := HB6.o.four
    have bl := HB6.o.lt
    have HP7 := aH (HP6.o.at1 j (.int .i64 (j : Int)) rfl)
    have HU7 := aH (HU6.o.setCell (p := ⟨g, 1, none⟩) (fun _ => rfl) (.int .i64 (j : Int)))
    have HR7 := aH (HR6.o.off (p := ⟨g, 1, none⟩) (by have := HGN.o; show N ≠ g; omega) (.int .i64 (j : Int)))
    have HA7 := aH (HA6.o.off (p := ⟨g, 1, none⟩) (by have := HGB.o; have := HAD.o; show A ≠ g; omega) (.int .i64 (j : Int)))
    have HT7 := aH (HasE.but ((But.refl (fun i => i = g) wc).setCell (p := ⟨g, 1, none⟩) (fun _ => rfl) (.int .i64 (j : Int))) (fun i hi => by have := HGB.o; omega) HT6.o)
    clear c2 c3 c4 c5 d2 d3 d4 d5 hT3 hr2
    go_upto_region 9 with fail
    clear c0 c1 cg d1 b0 b1 b2 b3 bl HB6 HA6 HP6 HU6 HR6 HT6
    generalize World.setCell wc _ _ = w7 at *
    go_wp2_with fail
    refine (HS2.o _ HP7.o).mono ?_
    rintro e w8 ⟨rfl, hbu, hp⟩
    have HR8 := aH (HR7.o.but hbu (by have := HGN.o; omega))
    have HU8 := aH (HU7.o.trans hbu (fun _ _ h => h))
    have HA8 := aH (HA7.o.but hbu (by have := HGB.o; have := HAD.o; omega))
    have HT8 := aH (HasE.but hbu (fun i hi => by have := HGB.o; omega) HT7.o)
    have HP8 := aH hp
    have nNA : ¬ N = A := by have := HNB.o; have := HAD.o; omega
    have nAN : ¬ A = N := fun e => nNA e.symm
    obtain ⟨m0, m1, m2, m3, m4, m5, m6, -⟩ := HA8.o.seven2
    have ml := HA8.o.lt
    clear hbu hp HR7 HU7 HA7 HT7 HP7 HS2
    cases r2
    case error f =>
     have HE := aH (show RES = .error f from HSQ.o)
     have HP9 := aH (show Pd w8 g lo lc L j (some f) from HP8.o)
     obtain ⟨z0, z1, z2, z3, z4, z5, z6, y0, y1, y2, y3, y4, y5, y6⟩ := HR8.o.seven2
     have zl := HR8.o.lt
     go_wp2
     rw [set7t_fold]
     have HF := HR8.o.put7 (u0 := .int .i64 X.op) (u1 := .string X.text) (u2 := .int .u64 X.s0) (u3 := .int .u64 X.s1) (u4 := .int .u64 X.s2) (u5 := .int .u64 X.s3) (u6 := .slice ko X.kids.length kc)
     obtain ⟨hU, hR⟩ := Pd.fin HH.o (Nat.le_of_eq HNN.o) HU8.o HP9.o (.int .i64 X.op) (.string X.text) (.int .u64 X.s0) (.int .u64 X.s1) (.int .u64 X.s2) (.int .u64 X.s3) (.slice ko X.kids.length kc)
     have HBW := aH (But.set7 w8 N (.int .i64 X.op) (.string X.text) (.int .u64 X.s0) (.int .u64 X.s1) (.int .u64 X.s2) (.int .u64 X.s3) (.slice ko X.kids.length kc))
     clear z0 z1 z2 z3 z4 z5 z6 y0 y1 y2 y3 y4 y5 y6
     generalize set7t _ N _ _ _ _ _ _ _ = w99 at *
     obtain ⟨z0, z1, z2, z3, z4, z5, z6⟩ := HF.seven
     refine bodyPost_ret (by simp [results, Try.results68, go_sem, z0, z1, z2, z3, z4, z5, z6]; rfl) rfl ?_
     rw [HE.o, HNN.o]
     exact ⟨hU, X, ko, kc, rfl, j, hjL, hR⟩
    case ok j' =>
     have HE := aH (show RES = .ok (X, j') from HSQ.o)
     have HP9 := aH (show Pd w8 g lo lc L j' none from HP8.o)
     obtain ⟨z0, z1, z2, z3, z4, z5, z6, y0, y1, y2, y3, y4, y5, y6⟩ := HR8.o.seven2
     have zl := HR8.o.lt
     go_wp2
     rw [set7t_fold]
     have HF := HR8.o.put7 (u0 := .int .i64 X.op) (u1 := .string X.text) (u2 := .int .u64 X.s0) (u3 := .int .u64 X.s1) (u4 := .int .u64 X.s2) (u5 := .int .u64 X.s3) (u6 := .slice ko X.kids.length kc)
     obtain ⟨hU, hR⟩ := Pd.fin HH.o (Nat.le_of_eq HNN.o) HU8.o HP9.o (.int .i64 X.op) (.string X.text) (.int .u64 X.s0) (.int .u64 X.s1) (.int .u64 X.s2) (.int .u64 X.s3) (.slice ko X.kids.length kc)
     have HBW := aH (But.set7 w8 N (.int .i64 X.op) (.string X.text) (.int .u64 X.s0) (.int .u64 X.s1) (.int .u64 X.s2) (.int .u64 X.s3) (.slice ko X.kids.length kc))
     clear z0 z1 z2 z3 z4 z5 z6 y0 y1 y2 y3 y4 y5 y6
     generalize set7t _ N _ _ _ _ _ _ _ = w99 at *
     obtain ⟨z0, z1, z2, z3, z4, z5, z6⟩ := HF.seven
     refine bodyPost_ret (by simp [results, Try.results68, go_sem, z0, z1, z2, z3, z4, z5, z6]; rfl) rfl ?_
     rw [HE.o, HNN.o]
     exact ⟨hU, X, ko, kc, rfl, hR, rfl, n3, HasE.low (by have := HNB.o; omega) (HasE.but HBW.o (fun i hi => by have := HNB.o; omega) HT8.o)⟩
end Go.Proofs.Ytbjgojdpfehnmaa
