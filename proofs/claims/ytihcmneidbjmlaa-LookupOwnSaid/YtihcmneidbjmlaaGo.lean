/- What the reference reads among tokens, walked. How far an expression goes: past its first token, and never past the last that may be a part of it. -/
import Derived.Test.YtihcmneidbjmlaaGn
import Derived.Test.YtihcmneidbjmlaaRdL
namespace Go.Proofs.Ytihcmneidbjmlaa
set_option linter.unusedVariables false
open Go.RowKit Go.Sort

/-- The expression from a token's place on, and the place behind it; or the fault. -/
def rdO (L : List Tok) (k : Nat) : Rs := match exO L 12 k with
  | .error e => .error e
  | .ok (x, m) => if 12 < deepX 60 x then badF L 3 k else .ok (x, m)
def RdE (D : Nat) (r : Rs) (e : Ending) (w' : World) : Prop := match r with
  | .ok (x, m) => ∃ ko kc n, e = .returned (.tuple #[exv x ko kc, .int .i64 (m : Int), .agg #[.int .i64 0, .int .i64 0, .int .i64 0, .int .i64 0]]) ∧ HasE w' D n ko x.kids
  | .error f => e = .returned (.tuple #[exv ex0 none 0, .int .i64 0, .agg #[.int .i64 f.1, .int .i64 f.2, .int .i64 0, .int .i64 0]]) ∧ f.1 ≠ 0
def rdQ (L : List Tok) (k : Nat) : Rs → Rs
  | .error e => .error e
  | .ok (x, m) => if 12 < deepX 60 x then badF L 3 k else .ok (x, m)

set_option maxRecDepth 1000000 in
set_option maxHeartbeats 1600000 in
theorem rdread_any (lo : Option Addr) (lc : Nat) (L : List Tok) (k : Nat) (hn : (L.length : Int) ≤ 90000) (hk : k < L.length) (htx : ∀ t ∈ L, t.tx.size ≤ 1000000) (w : World) (hT : HasT w lo L) :
    Calls Try.prog 35 #[.slice lo L.length lc, .int .i64 (k : Int)] w fun e w' => RdE w.heap.size (rdO L k) e w' ∧ Below w.heap.size w w' := by
  have HTX := Lib.hid htx
  obtain ⟨n, hnn⟩ : ∃ n, L.length = n := ⟨_, rfl⟩
  have HLN := Lib.hid hnn
  obtain ⟨OS, hOS⟩ : ∃ OS : List Obj, OS = [.cells #[.int .i64 0, .string ⟨#[]⟩, .int .u64 0, .int .u64 0, .int .u64 0, .int .u64 0, .slice none 0 0] 36, .cells #[.int .i64 0, .int .i64 0, .int .i64 0, .int .i64 0] 48, .cells #[.slice lo n lc, .int .i64 (k : Int), .int .i64 0, .int .i64 0, .int .i64 0, .int .i64 0] 89] := ⟨_, rfl⟩
  obtain ⟨A, hA⟩ : ∃ A, w.heap.size = A := ⟨_, rfl⟩
  obtain ⟨F, hF⟩ : ∃ F, A + 1 = F := ⟨_, rfl⟩
  obtain ⟨g, hg⟩ : ∃ g, F + 1 = g := ⟨_, rfl⟩
  have HN := Lib.hid (show A + 1 = F ∧ F + 1 = g ∧ w.heap.size = A from ⟨hF, hg, hA⟩)
  have HB := Lib.hid (show Below A w (made w OS) by rw [← hA]; exact made_below w OS w (Below.refl _ _))
  have HA := Lib.hid (show Own (made w OS) A 36 [.int .i64 0, .string ⟨#[]⟩, .int .u64 0, .int .u64 0, .int .u64 0, .int .u64 0, .slice none 0 0] by rw [← hA]; exact made_own OS w 0 _ _ (by rw [hOS]; rfl))
  have HF := Lib.hid (show Own (made w OS) F 48 [.int .i64 0, .int .i64 0, .int .i64 0, .int .i64 0] by rw [← hF, ← hA]; exact made_own OS w 1 _ _ (by rw [hOS]; rfl))
  have HG := Lib.hid (show Rd (made w OS) g lo lc L k none from by
    refine ⟨?_, hT.below (made_below w OS w (Below.refl _ _)), fun a e => ?_⟩
    · rw [hnn, ← hg, ← hF, ← hA]; exact made_own OS w 2 _ _ (by rw [hOS]; rfl)
    · obtain ⟨b, off, h1, h2, -⟩ := hT k L[k] (List.getElem?_eq_getElem hk)
      rw [h1] at e
      injection e with e
      subst e
      show b ≠ g
      omega)
  have HX := Lib.hid (fun (W : World) (hW : Rd W g lo lc L k none) => show Calls Try.prog 45 #[.pointer (some ⟨g, 0, none⟩), .int .i64 0] W fun e w' => Out W g lo lc L (exO L 12 k) e w' from rd_all g lo lc L hn htx 12 (Nat.le_refl _) k (Nat.le_of_lt hk) W hW)
  have HFL := Lib.hid (fun (W : World) (hW : Rd W g lo lc L k none) => show Calls Try.prog 47 #[.pointer (some ⟨g, 0, none⟩), .int .i64 3] W fun e w' => e = .returned (.agg #[.int .i64 0, .string ⟨#[]⟩, .int .u64 0, .int .u64 0, .int .u64 0, .int .u64 0, .slice none 0 0]) ∧ But (fun j => j = g) W w' ∧ Rd w' g lo lc L k (some (3, ((tkA L k).pos : Int))) from rd_fail 3 g lo lc L k (by omega) (by omega) W hW)
  have HSP := Lib.hid (show rdO L k = rdQ L k (exO L 12 k) from rfl)
  have HBD := Lib.hid (exO_bd (L := L) 12 k)
  have HFT := Lib.hid (exO_ft (M := 90001) (L := L) (by omega) (by omega) 12 k)
  have hW : ((w.alloc (.cells #[.int .i64 0, .string ⟨#[]⟩, .int .u64 0, .int .u64 0, .int .u64 0, .int .u64 0, .slice none 0 0] 36)).alloc (.cells #[.int .i64 0, .int .i64 0, .int .i64 0, .int .i64 0] 48)).alloc (.cells #[.slice lo n lc, .int .i64 (k : Int), .int .i64 0, .int .i64 0, .int .i64 0, .int .i64 0] 89) = made w OS := by rw [hOS]; rfl
  have k0 : decide ((k : Int) < 0) = false := decide_eq_false (by omega)
  have k1 : decide ((n : Int) ≤ k) = false := decide_eq_false (by omega)
  have k1n : decide (n ≤ k) = false := decide_eq_false (by omega)
  rw [hnn]
  generalize exO L 12 k = r at *
  generalize rdO L k = RES at *
  clear hOS hT hk hnn htx
  go_enter Try.func35, Try.ntmps35
  go_upto_region 4 with fail
  try rw [hA]
  clear hA hF hg hW
  generalize made w OS = w1 at *
  go_wp2_with fail
  refine (HX.out _ HG.out).mono ?_
  rintro e w2 ⟨hbu, X2, ko, kc, rfl, hq⟩
  unfold exv
  have HA2 := Lib.hid ((HA.out.but hbu (by have := HN.out; omega)).on_alloc (.cells #[.int .i64 X2.op, .string X2.text, .int .u64 X2.s0, .int .u64 X2.s1, .int .u64 X2.s2, .int .u64 X2.s3, .slice ko X2.kids.length kc] 36))
  have HF2 := Lib.hid ((HF.out.but hbu (by have := HN.out; omega)).on_alloc (.cells #[.int .i64 X2.op, .string X2.text, .int .u64 X2.s0, .int .u64 X2.s1, .int .u64 X2.s2, .int .u64 X2.s3, .slice ko X2.kids.length kc] 36))
  have HB2 := Lib.hid ((HB.out.trans (hbu.below (B := A) (by have := HG.out.1.lt; have := HN.out; omega) (fun j hj => by have := HN.out; omega))).alloc (by have := HG.out.1.lt; have := hbu.size; have := HN.out; omega) (.cells #[.int .i64 X2.op, .string X2.text, .int .u64 X2.s0, .int .u64 X2.s1, .int .u64 X2.s2, .int .u64 X2.s3, .slice ko X2.kids.length kc] 36))
  have HQ2 := Lib.hid (show OutQ w g lo lc L r w1.heap.size X2 ko (w2.alloc (.cells #[.int .i64 X2.op, .string X2.text, .int .u64 X2.s0, .int .u64 X2.s1, .int .u64 X2.s2, .int .u64 X2.s3, .slice ko X2.kids.length kc] 36)) from OutQ.below hq ((Below.refl _ _).alloc (Nat.le_refl _) _))
  have HE2 := Lib.hid (Own.fresh w2 36 [.int .i64 X2.op, .string X2.text, .int .u64 X2.s0, .int .u64 X2.s1, .int .u64 X2.s2, .int .u64 X2.s3, .slice ko X2.kids.length kc])
  have HS2 := Lib.hid (show g < w1.heap.size ∧ w1.heap.size ≤ w2.heap.size from ⟨HG.out.1.lt, hbu.size⟩)
  clear hbu hq HA HF HG HB HX
  go_upto_region 5 with fail
  generalize w2.alloc _ = w3 at *
  generalize w2.heap.size = E at *
  cases r
  case error f =>
    obtain ⟨hf, kf, hR⟩ := HQ2.out
    have HD2 := Lib.hid hR
    have HNF := Lib.hid hf
    have HE := Lib.hid (show RES = .error f from HSP.out)
    clear hR hf HQ2 HSP HBD HFT
    obtain ⟨a0, a1, a2, a3, a4, a5, a6, e0, e1, e2, e3, e4, e5, e6⟩ := HA2.out.seven2
    have al := HA2.out.lt
    obtain ⟨b0, b1, b2, b3, d0, d1, d2, d3⟩ := HF2.out.four
    have bl := HF2.out.lt
    have ne1 : ¬ A = g := by have := HN.out; omega
    have ne2 : ¬ g = A := by have := HN.out; omega
    have ne3 : ¬ A = F := by have := HN.out; omega
    have ne4 : ¬ F = A := by have := HN.out; omega
    have ne5 : ¬ F = g := by have := HN.out; omega
    have ne6 : ¬ g = F := by have := HN.out; omega
    obtain ⟨c0, c1, c2, c3, c4, c5, cg⟩ := HD2.out.1.six_r
    simp only [fE, fA] at c2 c3
    have ef : (f.1 == 0) = false := beq_eq_false_iff_ne.2 HNF.out
    have ef2 : ¬ f.1 = 0 := HNF.out
    go_wp2_with fail
    go_region
    go_wp2
    rw [set7t_fold, set4_fold]
    have HFA := ((HA2.out.put7 (u0 := .int .i64 0) (u1 := .string ⟨#[]⟩) (u2 := .int .u64 0) (u3 := .int .u64 0) (u4 := .int .u64 0) (u5 := .int .u64 0) (u6 := .slice none 0 0)).but (But.set4 _ F (.int .i64 f.1) (.int .i64 f.2) (.int .i64 0) (.int .i64 0)) ne3).on_drew
    have HFF := ((HF2.out.but (But.set7 _ A (.int .i64 0) (.string ⟨#[]⟩) (.int .u64 0) (.int .u64 0) (.int .u64 0) (.int .u64 0) (.slice none 0 0)) ne4).put4 (u0 := .int .i64 f.1) (u1 := .int .i64 f.2) (u2 := .int .i64 0) (u3 := .int .i64 0)).on_drew
    have HBB := (below_put4 (below_put7 HB2.out (Nat.le_refl _) (.int .i64 0) (.string ⟨#[]⟩) (.int .u64 0) (.int .u64 0) (.int .u64 0) (.int .u64 0) (.slice none 0 0)) (g := F) (by have := HN.out; omega) (.int .i64 f.1) (.int .i64 f.2) (.int .i64 0) (.int .i64 0)).drew
    have HUU := (((But.refl (fun j => j = A ∨ j = F) w3).trans (But.set7 w3 A (.int .i64 0) (.string ⟨#[]⟩) (.int .u64 0) (.int .u64 0) (.int .u64 0) (.int .u64 0) (.slice none 0 0)) (fun j _ h => .inl h)).trans (But.set4 _ F (.int .i64 f.1) (.int .i64 f.2) (.int .i64 0) (.int .i64 0)) (fun j _ h => .inr h)).drew
    clear a0 a1 a2 a3 a4 a5 a6 e0 e1 e2 e3 e4 e5 e6 al b0 b1 b2 b3 d0 d1 d2 d3 bl c0 c1 c2 c3 c4 c5 cg
    generalize World.drew (set4 (set7t _ _ _ _ _ _ _ _ _) F _ _ _ _) = w9 at *
    obtain ⟨z0, z1, z2, z3, z4, z5, z6⟩ := HFA.seven
    obtain ⟨y0, y1, y2, y3, -⟩ := HFF.four
    refine bodyPost_ret (by simp [results, Try.results35, go_sem, z0, z1, z2, z3, z4, z5, z6, y0, y1, y2, y3]; rfl) rfl ?_
    rw [HE.out, HN.out.2.2]
    exact ⟨⟨rfl, HNF.out⟩, HBB⟩
  case ok pq =>
    obtain ⟨x, m⟩ := pq
    obtain ⟨hR, hx, n2, hE2⟩ := HQ2.out
    subst hx
    have hml := HBD.out x m rfl
    have hfit : fit 90001 60 x = true := fit_more (HFT.out x m rfl) (by omega)
    have HDE := Lib.hid (rdeepf_any 90001 (by omega) 60 (by omega) x ko kc w3 hfit (HasK.fit hfit hE2.hask))
    have HD2 := Lib.hid hR
    have HT2 := Lib.hid hE2
    obtain ⟨dz, hdz⟩ : ∃ dz, deepX 60 x = dz := ⟨_, rfl⟩
    have HSQ := Lib.hid (show RES = if 12 < dz then badF L 3 k else .ok (x, m) from by rw [HSP.out, ← hdz]; rfl)
    rw [hdz] at HDE
    obtain ⟨c0, c1, c2, c3, c4, c5, cg⟩ := hR.1.six_r
    have c2' : w3.cell? ⟨g, 2, none⟩ = some (.int .i64 0) := c2
    obtain ⟨m0, m1, m2, m3, m4, m5, m6, -⟩ := HE2.out.seven2
    have ml := HE2.out.lt
    unfold exv at HDE
    clear hdz hfit hR hE2 HQ2 HSP HBD HFT c2
    go_wp2_with fail
    refine HDE.out.mono ?_
    rintro e w4 ⟨rfl, hb4⟩
    have HA4 := Lib.hid (HA2.out.under hb4 HA2.out.lt)
    have HF4 := Lib.hid (HF2.out.under hb4 HF2.out.lt)
    have HB4 := Lib.hid (HB2.out.trans (hb4.mono (by have := HA2.out.lt; omega)))
    have HD4 := Lib.hid (HD2.out.below hb4)
    have HE4 := Lib.hid (HE2.out.under hb4 HE2.out.lt)
    have HT4 := Lib.hid (HasE.but (But.of_below (S := fun _ => False) hb4) (fun _ h => h.elim) HT2.out)
    clear hb4 HA2 HF2 HB2 HD2 HE2 HT2 HDE c0 c1 c2' c3 c4 c5 cg m0 m1 m2 m3 m4 m5 m6 ml
    by_cases h12 : 12 < dz
    · have HE := Lib.hid (show RES = badF L 3 k from HSQ.out.trans (if_pos h12))
      obtain ⟨c0, c1, c2, c3, c4, c5, cg⟩ := HD4.out.1.six_r
      have cf : w4.frozen? ⟨g, 1, none⟩ = false := HD4.out.1.thaw 1
      have H5 := Lib.hid (HD4.out.at1 k (.int .i64 (k : Int)) rfl)
      have HA5 := Lib.hid (HA4.out.off (p := ⟨g, 1, none⟩) (by have := HN.out; show A ≠ g; omega) (.int .i64 (k : Int)))
      have HF5 := Lib.hid (HF4.out.off (p := ⟨g, 1, none⟩) (by have := HN.out; show F ≠ g; omega) (.int .i64 (k : Int)))
      have HB5 := Lib.hid (HB4.out.setCell (p := ⟨g, 1, none⟩) (by have := HN.out; show A ≤ g; omega) (.int .i64 (k : Int)))
      go_upto_region 7 with fail
      clear c0 c1 c2 c3 c4 c5 cg cf HA4 HF4 HB4 HD4 HE4 HT4
      generalize World.setCell w4 _ _ = w5 at *
      go_wp2_with fail
      refine (HFL.out _ H5.out).mono ?_
      rintro e w6 ⟨rfl, hbu, hrd⟩
      have HA6 := Lib.hid (HA5.out.but hbu (by have := HN.out; omega))
      have HF6 := Lib.hid (HF5.out.but hbu (by have := HN.out; omega))
      have HB6 := Lib.hid (HB5.out.trans (hbu.below (B := A) (by have := HA5.out.lt; omega) (fun j hj => by have := HN.out; omega)))
      have HD6 := Lib.hid hrd
      have HNF := Lib.hid (show (3 : Int) ≠ 0 by decide)
      clear hbu hrd HA5 HF5 HB5 H5
      obtain ⟨a0, a1, a2, a3, a4, a5, a6, e0, e1, e2, e3, e4, e5, e6⟩ := HA6.out.seven2
      have al := HA6.out.lt
      obtain ⟨b0, b1, b2, b3, d0, d1, d2, d3⟩ := HF6.out.four
      have bl := HF6.out.lt
      have ne1 : ¬ A = g := by have := HN.out; omega
      have ne2 : ¬ g = A := by have := HN.out; omega
      have ne3 : ¬ A = F := by have := HN.out; omega
      have ne4 : ¬ F = A := by have := HN.out; omega
      have ne5 : ¬ F = g := by have := HN.out; omega
      have ne6 : ¬ g = F := by have := HN.out; omega
      obtain ⟨c0, c1, c2, c3, c4, c5, cg⟩ := HD6.out.1.six_r
      simp only [fE, fA] at c2 c3
      skip
      go_wp2_with fail
      go_region
      go_wp2
      rw [set7t_fold, set4_fold]
      have HFA := ((HA6.out.put7 (u0 := .int .i64 0) (u1 := .string ⟨#[]⟩) (u2 := .int .u64 0) (u3 := .int .u64 0) (u4 := .int .u64 0) (u5 := .int .u64 0) (u6 := .slice none 0 0)).but (But.set4 _ F (.int .i64 3) (.int .i64 ((tkA L k).pos : Int)) (.int .i64 0) (.int .i64 0)) ne3).on_drew
      have HFF := ((HF6.out.but (But.set7 _ A (.int .i64 0) (.string ⟨#[]⟩) (.int .u64 0) (.int .u64 0) (.int .u64 0) (.int .u64 0) (.slice none 0 0)) ne4).put4 (u0 := .int .i64 3) (u1 := .int .i64 ((tkA L k).pos : Int)) (u2 := .int .i64 0) (u3 := .int .i64 0)).on_drew
      have HBB := (below_put4 (below_put7 HB6.out (Nat.le_refl _) (.int .i64 0) (.string ⟨#[]⟩) (.int .u64 0) (.int .u64 0) (.int .u64 0) (.int .u64 0) (.slice none 0 0)) (g := F) (by have := HN.out; omega) (.int .i64 3) (.int .i64 ((tkA L k).pos : Int)) (.int .i64 0) (.int .i64 0)).drew
      have HUU := (((But.refl (fun j => j = A ∨ j = F) w6).trans (But.set7 w6 A (.int .i64 0) (.string ⟨#[]⟩) (.int .u64 0) (.int .u64 0) (.int .u64 0) (.int .u64 0) (.slice none 0 0)) (fun j _ h => .inl h)).trans (But.set4 _ F (.int .i64 3) (.int .i64 ((tkA L k).pos : Int)) (.int .i64 0) (.int .i64 0)) (fun j _ h => .inr h)).drew
      clear a0 a1 a2 a3 a4 a5 a6 e0 e1 e2 e3 e4 e5 e6 al b0 b1 b2 b3 d0 d1 d2 d3 bl c0 c1 c2 c3 c4 c5 cg
      generalize World.drew (set4 (set7t _ _ _ _ _ _ _ _ _) F _ _ _ _) = w9 at *
      obtain ⟨z0, z1, z2, z3, z4, z5, z6⟩ := HFA.seven
      obtain ⟨y0, y1, y2, y3, -⟩ := HFF.four
      refine bodyPost_ret (by simp [results, Try.results35, go_sem, z0, z1, z2, z3, z4, z5, z6, y0, y1, y2, y3]; rfl) rfl ?_
      rw [HE.out, HN.out.2.2]
      exact ⟨⟨rfl, HNF.out⟩, HBB⟩
    · have HE := Lib.hid (show RES = .ok (x, m) from HSQ.out.trans (if_neg h12))
      have h12' : decide (12 < dz) = false := decide_eq_false h12
      have ne7 : ¬ A = E := by have := HN.out; have := HS2.out; omega
      have ne8 : ¬ E = A := by have := HN.out; have := HS2.out; omega
      have ne9 : ¬ F = E := by have := HN.out; have := HS2.out; omega
      have neA : ¬ E = F := by have := HN.out; have := HS2.out; omega
      obtain ⟨a0, a1, a2, a3, a4, a5, a6, e0, e1, e2, e3, e4, e5, e6⟩ := HA4.out.seven2
      have al := HA4.out.lt
      obtain ⟨b0, b1, b2, b3, d0, d1, d2, d3⟩ := HF4.out.four
      have bl := HF4.out.lt
      have ne1 : ¬ A = g := by have := HN.out; omega
      have ne2 : ¬ g = A := by have := HN.out; omega
      have ne3 : ¬ A = F := by have := HN.out; omega
      have ne4 : ¬ F = A := by have := HN.out; omega
      have ne5 : ¬ F = g := by have := HN.out; omega
      have ne6 : ¬ g = F := by have := HN.out; omega
      obtain ⟨c0, c1, c2, c3, c4, c5, cg⟩ := HD4.out.1.six_r
      simp only [fE, fA] at c2 c3
      obtain ⟨m0, m1, m2, m3, m4, m5, m6, -⟩ := HE4.out.seven2
      have ml := HE4.out.lt
      go_wp2_with fail
      go_region
      go_wp2
      rw [set7t_fold, set4_fold]
      have HFA := ((HA4.out.put7 (u0 := .int .i64 x.op) (u1 := .string x.text) (u2 := .int .u64 x.s0) (u3 := .int .u64 x.s1) (u4 := .int .u64 x.s2) (u5 := .int .u64 x.s3) (u6 := .slice ko x.kids.length kc)).but (But.set4 _ F (.int .i64 0) (.int .i64 0) (.int .i64 0) (.int .i64 0)) ne3).on_drew
      have HFF := ((HF4.out.but (But.set7 _ A (.int .i64 x.op) (.string x.text) (.int .u64 x.s0) (.int .u64 x.s1) (.int .u64 x.s2) (.int .u64 x.s3) (.slice ko x.kids.length kc)) ne4).put4 (u0 := .int .i64 0) (u1 := .int .i64 0) (u2 := .int .i64 0) (u3 := .int .i64 0)).on_drew
      have HBB := (below_put4 (below_put7 HB4.out (Nat.le_refl _) (.int .i64 x.op) (.string x.text) (.int .u64 x.s0) (.int .u64 x.s1) (.int .u64 x.s2) (.int .u64 x.s3) (.slice ko x.kids.length kc)) (g := F) (by have := HN.out; omega) (.int .i64 0) (.int .i64 0) (.int .i64 0) (.int .i64 0)).drew
      have HUU := (((But.refl (fun j => j = A ∨ j = F) w4).trans (But.set7 w4 A (.int .i64 x.op) (.string x.text) (.int .u64 x.s0) (.int .u64 x.s1) (.int .u64 x.s2) (.int .u64 x.s3) (.slice ko x.kids.length kc)) (fun j _ h => .inl h)).trans (But.set4 _ F (.int .i64 0) (.int .i64 0) (.int .i64 0) (.int .i64 0)) (fun j _ h => .inr h)).drew
      clear a0 a1 a2 a3 a4 a5 a6 e0 e1 e2 e3 e4 e5 e6 al b0 b1 b2 b3 d0 d1 d2 d3 bl c0 c1 c2 c3 c4 c5 cg
      generalize World.drew (set4 (set7t _ _ _ _ _ _ _ _ _) F _ _ _ _) = w9 at *
      obtain ⟨z0, z1, z2, z3, z4, z5, z6⟩ := HFA.seven
      obtain ⟨y0, y1, y2, y3, -⟩ := HFF.four
      refine bodyPost_ret (by simp [results, Try.results35, go_sem, z0, z1, z2, z3, z4, z5, z6, y0, y1, y2, y3]; rfl) rfl ?_
      rw [HE.out, HN.out.2.2]
      exact ⟨⟨ko, kc, n2, rfl, HasE.low (by have := HN.out; have := HS2.out; omega) (HasE.but HUU (fun j hj => by have := HN.out; have := HS2.out; omega) HT4.out)⟩, HBB⟩
end Go.Proofs.Ytihcmneidbjmlaa

namespace Go.Proofs.Ytihcmneidbjmlaa
set_option linter.unusedVariables false
open Go.RowKit Go.Sort

theorem isS_kd {N : Nat} {L : List Tok} (HN : ∀ k, (tkA L k).kd ≠ 0 → k < N) {k : Nat} {s : List UInt8} (h : isS L k s = true) : k < N := by
  unfold isS at h
  rw [Bool.and_eq_true, beq_iff_eq] at h
  exact HN k (by rw [h.1]; decide)
def Be (N k : Nat) (r : Rs) : Prop := ∀ x m, r = .ok (x, m) → k < m ∧ m ≤ N
theorem Be.err {N k : Nat} (e : Int × Int) : Be N k (.error e) := fun x m h => by cases h
theorem Be.ok {N k n : Nat} {x : Ex} (h : k < n) (h' : n ≤ N) : Be N k (.ok (x, n)) := fun y m e => by
  obtain ⟨rfl, rfl⟩ : x = y ∧ n = m := by simpa using e
  exact ⟨h, h'⟩
theorem Be.low {N k k' : Nat} {r : Rs} (h : Be N k r) (hk : k' ≤ k) : Be N k' r := fun x m e => ⟨by have := (h x m e).1; omega, (h x m e).2⟩
theorem Be.map {N k : Nat} {r : Rs} {f : Ex → Ex} (h : Be N k r) : Be N k (mapX f r) := by
  cases r with
  | error e => exact Be.err e
  | ok p =>
    obtain ⟨x, m⟩ := p
    exact Be.ok (h x m rfl).1 (h x m rfl).2
theorem refO_be {N : Nat} {L : List Tok} (HN : ∀ k, (tkA L k).kd ≠ 0 → k < N) {k : Nat} (h : (tkA L k).kd = 1) : Be N k (refO L k) := by
  have h0 : k < N := HN _ (by rw [h]; decide)
  unfold refO
  split
  · split
    · split
      · rename_i h3
        simp at h3
        have := HN (k + 2) (by rw [h3.1]; decide)
        exact Be.ok (by omega) (by omega)
      · exact Be.err _
    · exact Be.ok (by omega) (by omega)
  · exact Be.err _
theorem primO_be {N : Nat} {L : List Tok} (HN : ∀ k, (tkA L k).kd ≠ 0 → k < N) {X : Nat → Rs} {big : Bool} (hX : ∀ j, Be N j (X j)) (k : Nat) : Be N k (primO L X big k) := by
  unfold primO
  split
  · rename_i h
    have := HN (k) (by rw [h]; decide)
    exact Be.ok (by omega) (by omega)
  split
  · rename_i h
    have := HN (k) (by rw [h]; decide)
    exact Be.ok (by omega) (by omega)
  split
  · rename_i h
    exact refO_be HN h
  split
  · rename_i h
    have := isS_kd HN h
    exact Be.ok (by omega) (by omega)
  split
  · split
    · exact Be.err _
    · cases hx : X (k + 1) with
      | error e => exact Be.err e
      | ok p =>
        obtain ⟨x, m⟩ := p
        have h1 := hX (k + 1) x m hx
        show Be N k (if isS L m [41] = true then _ else _)
        split
        · rename_i h2
          have := isS_kd HN h2
          exact Be.ok (by omega) (by omega)
        · exact Be.err _
  · exact Be.err _
theorem sufO_be {N : Nat} {L : List Tok} (HN : ∀ k, (tkA L k).kd ≠ 0 → k < N) {X : Nat → Rs} {big : Bool} (hX : ∀ j, Be N j (X j)) (k : Nat) : Be N k (sufO L X big k) := by
  unfold sufO
  cases hp : primO L X big k with
  | error e => exact Be.err e
  | ok p =>
    obtain ⟨x, m⟩ := p
    have h1 := primO_be HN hX k x m hp
    show Be N k (if isS L m [42] = true then _ else if isS L m [43] = true then _ else if isS L m [63] = true then _ else _)
    split
    · rename_i h2
      have := isS_kd HN h2
      exact Be.ok (by omega) (by omega)
    split
    · rename_i h2
      have := isS_kd HN h2
      exact Be.ok (by omega) (by omega)
    split
    · rename_i h2
      have := isS_kd HN h2
      exact Be.ok (by omega) (by omega)
    · exact Be.ok h1.1 h1.2
theorem preO_be {N : Nat} {L : List Tok} (HN : ∀ k, (tkA L k).kd ≠ 0 → k < N) {X : Nat → Rs} {big : Bool} (hX : ∀ j, Be N j (X j)) (k : Nat) : Be N k (preO L X big k) := by
  have hS := sufO_be HN (big := big) hX
  unfold preO
  split
  · exact ((hS (k + 1)).low (by omega)).map
  split
  · exact ((hS (k + 1)).low (by omega)).map
  split
  · cases hp : sufO L X big (k + 1) with
    | error e => exact Be.err e
    | ok p =>
      obtain ⟨x, m⟩ := p
      have h1 := hS (k + 1) x m hp
      show Be N k (if isS L m [126] = true then _ else _)
      split
      · rename_i h2
        have := isS_kd HN h2
        exact Be.ok (by omega) (by omega)
      · exact Be.err _
  split
  · split
    · exact ((hS (k + 2)).low (by omega)).map
    · exact Be.err _
  · exact hS k
theorem seqL_be {N : Nat} {L : List Tok} (HN : ∀ k, (tkA L k).kd ≠ 0 → k < N) {pre : Nat → Rs} (hp : ∀ j, Be N j (pre j)) : ∀ (f : Nat) (A K : List Ex) (k m : Nat), k ≤ N → seqL L pre f A k = .ok (K, m) → k ≤ m ∧ m ≤ N
  | 0, A, K, k, m, hk, h => by
    simp [seqL] at h
    omega
  | f + 1, A, K, k, m, hk, h => by
    unfold seqL at h
    split at h
    · cases hq : pre k with
      | error e => simp [hq] at h
      | ok p =>
        obtain ⟨x, n⟩ := p
        have h1 := hp k x n hq
        simp only [hq] at h
        have h2 := seqL_be HN hp f _ K n m h1.2 h
        omega
    · simp at h
      omega
theorem seqO_be {N : Nat} {L : List Tok} (HN : ∀ k, (tkA L k).kd ≠ 0 → k < N) {pre : Nat → Rs} (hp : ∀ j, Be N j (pre j)) (k : Nat) : Be N k (seqO L pre k) := by
  unfold seqO
  cases hq : pre k with
  | error e => exact Be.err e
  | ok p =>
    obtain ⟨x, n⟩ := p
    have h1 := hp k x n hq
    cases hl : seqL L pre (L.length + 1) [x] n with
    | error e => simp only [hl]; exact Be.err e
    | ok p =>
      obtain ⟨K, m⟩ := p
      have h2 := seqL_be HN hp _ _ K n m h1.2 hl
      simp only [hl]
      exact Be.ok (by omega) (by omega)
theorem chL_be {N : Nat} {L : List Tok} (HN : ∀ k, (tkA L k).kd ≠ 0 → k < N) {pre : Nat → Rs} (hp : ∀ j, Be N j (pre j)) : ∀ (f : Nat) (A K : List Ex) (k m : Nat), k ≤ N → chL L pre f A k = .ok (K, m) → k ≤ m ∧ m ≤ N
  | 0, A, K, k, m, hk, h => by
    simp [chL] at h
    omega
  | f + 1, A, K, k, m, hk, h => by
    unfold chL at h
    split at h
    · cases hq : pre (k + 1) with
      | error e => simp [hq] at h
      | ok p =>
        obtain ⟨x, n⟩ := p
        have h1 := hp (k + 1) x n hq
        simp only [hq] at h
        have h2 := chL_be HN hp f _ K n m h1.2 h
        omega
    · simp at h
      omega
theorem chO_be {N : Nat} {L : List Tok} (HN : ∀ k, (tkA L k).kd ≠ 0 → k < N) {pre : Nat → Rs} (hp : ∀ j, Be N j (pre j)) (k : Nat) : Be N k (chO L pre k) := by
  unfold chO
  cases hq : pre k with
  | error e => exact Be.err e
  | ok p =>
    obtain ⟨x, n⟩ := p
    have h1 := hp k x n hq
    cases hl : chL L pre (L.length + 1) [x] n with
    | error e => simp only [hl]; exact Be.err e
    | ok p =>
      obtain ⟨K, m⟩ := p
      have h2 := chL_be HN hp _ _ K n m h1.2 hl
      simp only [hl]
      exact Be.ok (by omega) (by omega)
theorem exO_be {N : Nat} {L : List Tok} (HN : ∀ k, (tkA L k).kd ≠ 0 → k < N) : ∀ d k, Be N k (exO L d k)
  | 0, k => chO_be HN (seqO_be HN (preO_be HN fun j => Be.err _)) k
  | d + 1, k => chO_be HN (seqO_be HN (preO_be HN (exO_be HN d))) k
end Go.Proofs.Ytihcmneidbjmlaa
