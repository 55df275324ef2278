/- The expression that a text is: the document's answer, walked. -/
import Derived.Test.YtonknapfndaalaaPs0
namespace Go.Proofs.Ytonknapfndaalaa
set_option linter.unusedVariables false
set_option maxRecDepth 1000000
open Go.RowKit Go.Sort
abbrev Rp := Except (Int × Int) Ex
def psL (L : List Tok) : Rs → Rp
 | .error f => .error f
 | .ok (x, m) => if (tkA L m).kd = 0 then .ok x else .error (2, ((tkA L m).pos : Int))
/-- The expression that a text is. -/
def psO (s : ByteArray) : Rp := match allO s with
 | .error k => .error (2, (k : Int))
 | .ok L => psL L (rdO L 0)
def PsE (D : Nat) (r : Rp) (e : Ending) (w' : World) : Prop := match r with
 | .error f => e = .returned (.tuple #[exv ex0 none 0, .agg #[.int .i64 f.1, .int .i64 f.2, .int .i64 0, .int .i64 0]]) ∧ f.1 ≠ 0
 | .ok x => ∃ ko kc n, e = .returned (.tuple #[exv x ko kc, .agg #[.int .i64 0, .int .i64 0, .int .i64 0, .int .i64 0]]) ∧ HasE w' D n ko x.kids
set_option maxRecDepth 1000000 in
set_option maxHeartbeats 6400000 in
theorem parse7_any (s : ByteArray) (hs : s.size ≤ 4000) (w : World) : Calls Try.prog 15 #[.string s] w fun e w' => PsE w.heap.size (psO s) e w' ∧ Below w.heap.size w w' := by
 obtain ⟨OS, hOS⟩ : ∃ OS : List Obj, OS = [.cells #[.int .i64 0, .string ⟨#[]⟩, .int .u64 0, .int .u64 0, .int .u64 0, .int .u64 0, .slice none 0 0] 28, .cells #[.int .i64 0, .int .i64 0, .int .i64 0, .int .i64 0] 31] := ⟨_, rfl⟩
 obtain ⟨A, hA⟩ : ∃ A, w.heap.size = A := ⟨_, rfl⟩
 obtain ⟨F, hF⟩ : ∃ F, A + 1 = F := ⟨_, rfl⟩
 have HN := Lib.hid (show A + 1 = F ∧ w.heap.size = A from ⟨hF, hA⟩)
 have HA := Lib.hid (show Own (made w OS) A 28 [.int .i64 0, .string ⟨#[]⟩, .int .u64 0, .int .u64 0, .int .u64 0, .int .u64 0, .slice none 0 0] by rw [← hA]; exact made_own OS w 0 _ _ (by rw [hOS]; rfl))
 have HF := Lib.hid (show Own (made w OS) F 31 [.int .i64 0, .int .i64 0, .int .i64 0, .int .i64 0] by rw [← hF, ← hA]; exact made_own OS w 1 _ _ (by rw [hOS]; rfl))
 have HB := Lib.hid (show Below A w (made w OS) by rw [← hA]; exact made_below w OS w (Below.refl _ _))
 have HAL := Lib.hid (fun W => rall_any s hs W)
 have hW : (w.alloc (.cells #[.int .i64 0, .string ⟨#[]⟩, .int .u64 0, .int .u64 0, .int .u64 0, .int .u64 0, .slice none 0 0] 28)).alloc (.cells #[.int .i64 0, .int .i64 0, .int .i64 0, .int .i64 0] 31) = made w OS := by rw [hOS]; rfl
 have HSP := Lib.hid (show psO s = (match allO s with | .error k => .error (2, (k : Int)) | .ok L => psL L (rdO L 0)) from rfl)
 obtain ⟨ra, hra⟩ : ∃ r, allO s = r := ⟨_, rfl⟩
 have HRA := Lib.hid hra
 rw [hra] at HAL HSP
 generalize psO s = RES at *
 clear hOS hra
 have ne1 : ¬ A = F := by omega
 have ne2 : ¬ F = A := by omega
 go_enter Try.func15, Try.ntmps15
 go_upto_region 1 with fail
 try rw [hA]
 clear hA hF hW
 generalize made w OS = w1 at *
 go_wp2_with fail
 refine (HAL.out _).mono ?_
 rintro e w2 ⟨he, hb⟩
 have HA2 := Lib.hid (HA.out.under hb HA.out.lt)
 have HF2 := Lib.hid (HF.out.under hb HF.out.lt)
 have HB2 := Lib.hid (HB.out.trans (hb.mono (by have := HA.out.lt; omega)))
 have HS2 := Lib.hid (show F < w2.heap.size from HF2.out.lt)
 have HS1 := Lib.hid (show F < w1.heap.size from HF.out.lt)
 clear hb HA HF HB HAL
 cases ra
 case error k =>
  obtain rfl : e = .returned (.tuple #[.slice none 0 0, .agg #[.int .i64 2, .int .i64 (k : Int), .int .i64 0, .int .i64 0]]) := he
  have HE := Lib.hid (show RES = .error (2, (k : Int)) from HSP.out)
  have hbl1 : Below w2.heap.size w2 (w2.alloc (.cells #[.int .i64 2, .int .i64 (k : Int), .int .i64 0, .int .i64 0] 31)) := (Below.refl _ _).alloc (Nat.le_refl _) _
  have HA3 := Lib.hid (HA2.out.under hbl1 HA2.out.lt)
  have HF3 := Lib.hid (HF2.out.under hbl1 HF2.out.lt)
  have HB3 := Lib.hid (HB2.out.trans (hbl1.mono (by have := HS2.out; have := HN.out; omega)))
  have HO3 := Lib.hid (Own.fresh w2 31 [.int .i64 2, .int .i64 (k : Int), .int .i64 0, .int .i64 0])
  clear hbl1 HA2 HF2 HB2
  go_upto_region 2 with fail
  generalize w2.alloc _ = w3 at *
  generalize w2.heap.size = G at *
  obtain ⟨a0, a1, a2, a3, a4, a5, a6, e0, e1, e2, e3, e4, e5, e6⟩ := HA3.out.seven2
  have al := HA3.out.lt
  obtain ⟨b0, b1, b2, b3, d0, d1, d2, d3⟩ := HF3.out.four
  have bl := HF3.out.lt
  obtain ⟨c0, c1, c2, c3, -⟩ := HO3.out.four
  have cl := HO3.out.lt
  have ne3 : ¬ A = G := by have := HS2.out; have := HN.out; omega
  have ne4 : ¬ G = A := fun e => ne3 e.symm
  have ne5 : ¬ F = G := by have := HS2.out; omega
  have ne6 : ¬ G = F := fun e => ne5 e.symm
  go_wp2_with fail
  go_region
  go_wp2
  rw [set7t_fold, set4_fold]
  have HFA := ((HA3.out.put7 (u0 := .int .i64 0) (u1 := .string ⟨#[]⟩) (u2 := .int .u64 0) (u3 := .int .u64 0) (u4 := .int .u64 0) (u5 := .int .u64 0) (u6 := .slice none 0 0)).but (But.set4 _ F (.int .i64 2) (.int .i64 (k : Int)) (.int .i64 0) (.int .i64 0)) ne1).on_drew
  have HFF := ((HF3.out.but (But.set7 _ A (.int .i64 0) (.string ⟨#[]⟩) (.int .u64 0) (.int .u64 0) (.int .u64 0) (.int .u64 0) (.slice none 0 0)) ne2).put4 (u0 := .int .i64 2) (u1 := .int .i64 (k : Int)) (u2 := .int .i64 0) (u3 := .int .i64 0)).on_drew
  have HBB := (below_put4 (below_put7 HB3.out (Nat.le_refl _) (.int .i64 0) (.string ⟨#[]⟩) (.int .u64 0) (.int .u64 0) (.int .u64 0) (.int .u64 0) (.slice none 0 0)) (g := F) (by have := HN.out; omega) (.int .i64 2) (.int .i64 (k : Int)) (.int .i64 0) (.int .i64 0)).drew
  clear a0 a1 a2 a3 a4 a5 a6 e0 e1 e2 e3 e4 e5 e6 al b0 b1 b2 b3 d0 d1 d2 d3 bl c0 c1 c2 c3 cl
  generalize World.drew (set4 (set7t _ _ _ _ _ _ _ _ _) F _ _ _ _) = w9 at *
  obtain ⟨z0, z1, z2, z3, z4, z5, z6⟩ := HFA.seven
  obtain ⟨y0, y1, y2, y3, -⟩ := HFF.four
  refine bodyPost_ret (by simp [results, Try.results15, go_sem, z0, z1, z2, z3, z4, z5, z6, y0, y1, y2, y3]; rfl) rfl ?_
  rw [HE.out, HN.out.2]
  exact ⟨⟨rfl, (by show (2 : Int) ≠ 0; decide)⟩, HBB⟩
 case ok L =>
  obtain ⟨v, rfl, hown⟩ := he
  obtain ⟨lo, lc, rfl⟩ := own7_form hown
  obtain ⟨L', t0, hL', ht0⟩ := allF_last _ _ _ HRA.out
  have hLL : L.length = L'.length + 1 := by rw [hL']; simp
  have HNB := Lib.hid (show ∀ k, (tkA L k).kd ≠ 0 → k < L'.length from by rw [hL']; exact tkA_end ht0)
  have hLn : (L.length : Int) ≤ 90000 := by have := allF_len _ _ _ HRA.out; omega
  have HTX : ∀ t ∈ L, t.tx.size ≤ 1000000 := fun t ht => by have := allF_text _ _ _ (Nat.zero_le _) HRA.out t ht; omega
  clear hL' ht0
  obtain ⟨NN, hNN⟩ : ∃ n, L'.length = n := ⟨_, rfl⟩
  rw [hNN] at HNB hLL
  obtain ⟨n, hnn⟩ : ∃ n, L.length = n := ⟨_, rfl⟩
  have HBE := Lib.hid (fun x m (h : rdO L 0 = .ok (x, m)) => show m ≤ NN from by
   unfold rdO at h
   cases hq : exO L 12 0 with
   | error e => simp [hq] at h
   | ok p =>
    obtain ⟨y, m'⟩ := p
    simp only [hq] at h
    split at h
    ·
     cases h
    ·
     obtain ⟨rfl, rfl⟩ : y = x ∧ m' = m := by simpa using h
     exact (exO_be HNB.out 12 0 y m' hq).2)
  have HRD := Lib.hid (fun W (hT : HasT W lo L) => show Calls Try.prog 21 #[.slice lo n lc, .int .i64 0] W fun e w' => RdE W.heap.size (rdO L 0) e w' ∧ Below W.heap.size W w' from by
   have h := rdread_any lo lc L 0 hLn (by omega) HTX W hT
   rw [hnn] at h
   exact h)
  have HT2 := Lib.hid (own7_has hown)
  have HLO := Lib.hid (fun (a : Addr) (e : lo = some a) => show a.block < w2.heap.size ∧ F < a.block from by
   obtain ⟨g, h1, h2, h3, -⟩ := own7_cell hown (by omega)
   rw [h1] at e
   injection e with e
   subst e
   have := HS1.out
   exact ⟨h3, by show F < g; omega⟩)
  have HLN := Lib.hid (show L.length = n ∧ n = NN + 1 from ⟨hnn, by omega⟩)
  have HSQ := Lib.hid (show RES = psL L (rdO L 0) from HSP.out)
  have hnb : (n : Int) ≤ 90000 := by omega
  rw [hnn] at hown
  rw [hnn]
  clear hnn hLL hNN HTX HSP HNB hLn hown
  have hbl1 : Below w2.heap.size w2 (w2.alloc (.cells #[.int .i64 0, .int .i64 0, .int .i64 0, .int .i64 0] 31)) := (Below.refl _ _).alloc (Nat.le_refl _) _
  have HA3 := Lib.hid (HA2.out.under hbl1 HA2.out.lt)
  have HF3 := Lib.hid (HF2.out.under hbl1 HF2.out.lt)
  have HB3 := Lib.hid (HB2.out.trans (hbl1.mono (by have := HS2.out; have := HN.out; omega)))
  have HO3 := Lib.hid (Own.fresh w2 31 [.int .i64 0, .int .i64 0, .int .i64 0, .int .i64 0])
  have HT3 := Lib.hid (HT2.out.below hbl1)
  clear hbl1 HA2 HF2 HB2 HT2
  go_upto_region 2 with fail
  generalize w2.alloc _ = w3 at *
  obtain ⟨G, hG⟩ : ∃ G, w2.heap.size = G := ⟨_, rfl⟩
  rw [hG] at HO3 HS2 HLO
  try rw [hG]
  clear hG
  have ne3 : ¬ A = G := by have := HS2.out; have := HN.out; omega
  have ne4 : ¬ G = A := fun e => ne3 e.symm
  have ne5 : ¬ F = G := by have := HS2.out; omega
  have ne6 : ¬ G = F := fun e => ne5 e.symm
  obtain ⟨c0, c1, c2, c3, h0, h1, h2, h3⟩ := HO3.out.four
  have cl := HO3.out.lt
  go_wp2_with fail
  refine (HRD.out _ HT3.out).mono ?_
  rintro e w4 ⟨he, hb4⟩
  clear c0 c1 c2 c3 h0 h1 h2 h3 cl
  have HA4 := Lib.hid (HA3.out.under hb4 HA3.out.lt)
  have HF4 := Lib.hid (HF3.out.under hb4 HF3.out.lt)
  have HO4 := Lib.hid (HO3.out.under hb4 HO3.out.lt)
  have HB4 := Lib.hid (HB3.out.trans (hb4.mono (by have := HA3.out.lt; omega)))
  have HT4 := Lib.hid (HT3.out.below hb4)
  have HS4 := Lib.hid (show A < w3.heap.size ∧ F < w3.heap.size from ⟨HA3.out.lt, HF3.out.lt⟩)
  have HS3 := Lib.hid (show G < w3.heap.size from HO3.out.lt)
  clear hb4 HA3 HF3 HO3 HB3 HT3 HRD
  obtain ⟨rr, hrr⟩ : ∃ r, rdO L 0 = r := ⟨_, rfl⟩
  rw [hrr] at HBE HSQ he
  clear hrr
  cases rr
  case error f =>
   obtain ⟨rfl, hf⟩ := he
   have HNF := Lib.hid hf
   have HE := Lib.hid (show RES = .error f from HSQ.out)
   clear hf
   have hbl1 : Below w4.heap.size w4 (w4.alloc (.cells #[.int .i64 0, .string ⟨#[]⟩, .int .u64 0, .int .u64 0, .int .u64 0, .int .u64 0, .slice none 0 0] 28)) := (Below.refl _ _).alloc (Nat.le_refl _) _
   have HST := Lib.hid (store4_run (HO4.out.under hbl1 HO4.out.lt) f.1 f.2)
   have hbz : But (fun j => j = G) (w4.alloc (.cells #[.int .i64 0, .string ⟨#[]⟩, .int .u64 0, .int .u64 0, .int .u64 0, .int .u64 0, .slice none 0 0] 28)) (set4 (w4.alloc (.cells #[.int .i64 0, .string ⟨#[]⟩, .int .u64 0, .int .u64 0, .int .u64 0, .int .u64 0, .slice none 0 0] 28)) G (.int .i64 f.1) (.int .i64 f.2) (.int .i64 0) (.int .i64 0)) := But.set4 _ G (.int .i64 f.1) (.int .i64 f.2) (.int .i64 0) (.int .i64 0)
   have HA5 := Lib.hid ((HA4.out.under hbl1 HA4.out.lt).but hbz ne3)
   have HF5 := Lib.hid ((HF4.out.under hbl1 HF4.out.lt).but hbz ne5)
   have HO5 := Lib.hid ((HO4.out.under hbl1 HO4.out.lt).put4 (u0 := .int .i64 f.1) (u1 := .int .i64 f.2) (u2 := .int .i64 0) (u3 := .int .i64 0))
   have HB5 := Lib.hid (below_put4 (HB4.out.trans (hbl1.mono (by have := HA4.out.lt; omega))) (g := G) (by have := HS2.out; have := HN.out; omega) (.int .i64 f.1) (.int .i64 f.2) (.int .i64 0) (.int .i64 0))
   obtain ⟨w5, hw5⟩ : ∃ w5, set4 (w4.alloc (.cells #[.int .i64 0, .string ⟨#[]⟩, .int .u64 0, .int .u64 0, .int .u64 0, .int .u64 0, .slice none 0 0] 28)) G (.int .i64 f.1) (.int .i64 f.2) (.int .i64 0) (.int .i64 0) = w5 := ⟨_, rfl⟩
   rw [hw5] at HST HA5 HF5 HO5 HB5
   unfold exv ex0
   simp only [Ex.op, Ex.text, Ex.s0, Ex.s1, Ex.s2, Ex.s3, Ex.kids, List.length_nil]
   clear hbl1 hbz hw5
   obtain ⟨a0, a1, a2, a3, a4, a5, a6, e0, e1, e2, e3, e4, e5, e6⟩ := HA5.out.seven2
   have al := HA5.out.lt
   obtain ⟨b0, b1, b2, b3, d0, d1, d2, d3⟩ := HF5.out.four
   have bl := HF5.out.lt
   obtain ⟨c0, c1, c2, c3, -⟩ := HO5.out.four
   have cl := HO5.out.lt
   have ef : (f.1 == 0) = false := beq_eq_false_iff_ne.2 HNF.out
   have ef1 : decide (f.1 = 0) = false := decide_eq_false HNF.out
   have ef2 : ¬ f.1 = 0 := HNF.out
   go_wp2_with (with_reducible refine wpList_store_lit (.pointer (some ⟨G, 0, none⟩)) (.agg #[.int .i64 f.1, .int .i64 f.2, .int .i64 0, .int .i64 0]) HST.out ?_ ?_ ?_)
   ·
    rfl
   ·
    rfl
   clear HST
   go_wp2_with fail
   go_region
   go_wp2
   rw [set7t_fold, set4_fold]
   have HFA := ((HA5.out.put7 (u0 := .int .i64 0) (u1 := .string ⟨#[]⟩) (u2 := .int .u64 0) (u3 := .int .u64 0) (u4 := .int .u64 0) (u5 := .int .u64 0) (u6 := .slice none 0 0)).but (But.set4 _ F (.int .i64 f.1) (.int .i64 f.2) (.int .i64 0) (.int .i64 0)) ne1).on_drew
   have HFF := ((HF5.out.but (But.set7 _ A (.int .i64 0) (.string ⟨#[]⟩) (.int .u64 0) (.int .u64 0) (.int .u64 0) (.int .u64 0) (.slice none 0 0)) ne2).put4 (u0 := .int .i64 f.1) (u1 := .int .i64 f.2) (u2 := .int .i64 0) (u3 := .int .i64 0)).on_drew
   have HBB := (below_put4 (below_put7 HB5.out (Nat.le_refl _) (.int .i64 0) (.string ⟨#[]⟩) (.int .u64 0) (.int .u64 0) (.int .u64 0) (.int .u64 0) (.slice none 0 0)) (g := F) (by have := HN.out; omega) (.int .i64 f.1) (.int .i64 f.2) (.int .i64 0) (.int .i64 0)).drew
   clear a0 a1 a2 a3 a4 a5 a6 e0 e1 e2 e3 e4 e5 e6 al b0 b1 b2 b3 d0 d1 d2 d3 bl c0 c1 c2 c3 cl
   generalize World.drew (set4 (set7t _ _ _ _ _ _ _ _ _) F _ _ _ _) = w9 at *
   obtain ⟨z0, z1, z2, z3, z4, z5, z6⟩ := HFA.seven
   obtain ⟨y0, y1, y2, y3, -⟩ := HFF.four
   refine bodyPost_ret (by simp [results, Try.results15, go_sem, z0, z1, z2, z3, z4, z5, z6, y0, y1, y2, y3]; rfl) rfl ?_
   rw [HE.out, HN.out.2]
   exact ⟨⟨rfl, HNF.out⟩, HBB⟩
  case ok p =>
   obtain ⟨x, m⟩ := p
   obtain ⟨ko, kc, n2, rfl, hE⟩ := he
   have hmn : m < n := by have := HBE.out x m rfl; have := HLN.out.2; omega
   have HMN := Lib.hid hmn
   obtain ⟨t, ht⟩ : ∃ t, L[m]? = some t := ⟨_, List.getElem?_eq_getElem (by have := HLN.out.1; omega)⟩
   have HSR := Lib.hid (show RES = if t.kd = 0 then .ok x else .error (2, (t.pos : Int)) from by rw [HSQ.out]; unfold psL; simp only; rw [tkA_in ht])
   obtain ⟨E, hE'⟩ : ∃ E, w4.heap.size = E := ⟨_, rfl⟩
   have ne7 : ¬ E = G := by have := HO4.out.lt; omega
   have ne8 : ¬ G = E := fun e => ne7 e.symm
   have ne9 : ¬ A = E := by have := HA4.out.lt; omega
   have ne10 : ¬ E = A := fun e => ne9 e.symm
   have ne11 : ¬ F = E := by have := HF4.out.lt; omega
   have ne12 : ¬ E = F := fun e => ne11 e.symm
   obtain ⟨o, ho⟩ : ∃ o, x.op = o := ⟨_, rfl⟩
   obtain ⟨tx, htx⟩ : ∃ o, x.text = o := ⟨_, rfl⟩
   obtain ⟨q0, hq0⟩ : ∃ o, x.s0 = o := ⟨_, rfl⟩
   obtain ⟨q1, hq1⟩ : ∃ o, x.s1 = o := ⟨_, rfl⟩
   obtain ⟨q2, hq2⟩ : ∃ o, x.s2 = o := ⟨_, rfl⟩
   obtain ⟨q3, hq3⟩ : ∃ o, x.s3 = o := ⟨_, rfl⟩
   obtain ⟨nk, hnk⟩ : ∃ o, x.kids.length = o := ⟨_, rfl⟩
   have HEX := Lib.hid (show exv x ko kc = .agg #[.int .i64 o, .string tx, .int .u64 q0, .int .u64 q1, .int .u64 q2, .int .u64 q3, .slice ko nk kc] from by unfold exv; rw [ho, htx, hq0, hq1, hq2, hq3, hnk])
   rw [HEX.out]
   have hbl1 : Below w4.heap.size w4 (w4.alloc (.cells #[.int .i64 o, .string tx, .int .u64 q0, .int .u64 q1, .int .u64 q2, .int .u64 q3, .slice ko nk kc] 28)) := (Below.refl _ _).alloc (Nat.le_refl _) _
   have hbz : But (fun j => j = G) (w4.alloc (.cells #[.int .i64 o, .string tx, .int .u64 q0, .int .u64 q1, .int .u64 q2, .int .u64 q3, .slice ko nk kc] 28)) (set4 (w4.alloc (.cells #[.int .i64 o, .string tx, .int .u64 q0, .int .u64 q1, .int .u64 q2, .int .u64 q3, .slice ko nk kc] 28)) G (.int .i64 0) (.int .i64 0) (.int .i64 0) (.int .i64 0)) := But.set4 _ G (.int .i64 0) (.int .i64 0) (.int .i64 0) (.int .i64 0)
   have HA5 := Lib.hid ((HA4.out.under hbl1 HA4.out.lt).but hbz ne3)
   have HF5 := Lib.hid ((HF4.out.under hbl1 HF4.out.lt).but hbz ne5)
   have HX5 := Lib.hid (show Own (set4 (w4.alloc (.cells #[.int .i64 o, .string tx, .int .u64 q0, .int .u64 q1, .int .u64 q2, .int .u64 q3, .slice ko nk kc] 28)) G (.int .i64 0) (.int .i64 0) (.int .i64 0) (.int .i64 0)) E 28 [.int .i64 o, .string tx, .int .u64 q0, .int .u64 q1, .int .u64 q2, .int .u64 q3, .slice ko nk kc] from by
    rw [← hE'] at ne7 ⊢
    exact (Own.fresh w4 28 [.int .i64 o, .string tx, .int .u64 q0, .int .u64 q1, .int .u64 q2, .int .u64 q3, .slice ko nk kc]).but hbz ne7)
   have HO5 := Lib.hid ((HO4.out.under hbl1 HO4.out.lt).put4 (u0 := .int .i64 0) (u1 := .int .i64 0) (u2 := .int .i64 0) (u3 := .int .i64 0))
   have HB5 := Lib.hid (below_put4 (HB4.out.trans (hbl1.mono (by have := HA4.out.lt; omega))) (g := G) (by have := HS2.out; have := HN.out; omega) (.int .i64 0) (.int .i64 0) (.int .i64 0) (.int .i64 0))
   have HK5 := Lib.hid (HasE.but hbz (fun j hj => by have := HS3.out; omega) (HasE.but (But.of_below (S := fun _ => False) hbl1) (fun _ h => h.elim) hE))
   have HT5 := Lib.hid (HasT.but (HT4.out.below hbl1) (fun a e => by have := (HLO.out a e).1; omega) hbz)
   have HST := Lib.hid (store4_run (HO4.out.under hbl1 HO4.out.lt) 0 0)
   obtain ⟨w5, hw5⟩ : ∃ w5, set4 (w4.alloc (.cells #[.int .i64 o, .string tx, .int .u64 q0, .int .u64 q1, .int .u64 q2, .int .u64 q3, .slice ko nk kc] 28)) G (.int .i64 0) (.int .i64 0) (.int .i64 0) (.int .i64 0) = w5 := ⟨_, rfl⟩
   rw [hw5] at HST HA5 HF5 HX5 HO5 HB5 HK5 HT5
   clear hw5
   clear hbl1 hbz ho htx hq0 hq1 hq2 hq3 hE HBE
   have HNK := Lib.hid hnk
   clear hnk
   obtain ⟨bb, off, hlo, hbb, t0, t1, t2, t3, t4, t5, t6⟩ := HT5.out m t ht
   have hbF := (HLO.out _ hlo).2
   have hbF : F < bb := hbF
   have ne20 : ¬ bb = F := by omega
   have ne21 : ¬ F = bb := by omega
   have ne22 : ¬ bb = A := by have := HN.out.1; omega
   have ne23 : ¬ A = bb := by have := HN.out.1; omega
   subst hlo
   clear ht HT5 HLO hbF t1 t2 t3 t4 t5
   obtain ⟨a0, a1, a2, a3, a4, a5, a6, e0, e1, e2, e3, e4, e5, e6⟩ := HA5.out.seven2
   have al := HA5.out.lt
   obtain ⟨b0, b1, b2, b3, d0, d1, d2, d3⟩ := HF5.out.four
   have bl := HF5.out.lt
   obtain ⟨c0, c1, c2, c3, -⟩ := HO5.out.four
   have cl := HO5.out.lt
   obtain ⟨x0, x1, x2, x3, x4, x5, x6, -⟩ := HX5.out.seven2
   have xl := HX5.out.lt
   have hm1 : decide ((m : Int) < (n : Int)) = true := decide_eq_true (by omega)
   have hm2 : decide (m < n) = true := decide_eq_true hmn
   by_cases hkd : t.kd = 0
   ·
    have HE := Lib.hid (show RES = .ok x from HSR.out.trans (if_pos hkd))
    rw [hkd] at t0
    have t0' : w5.cell? ⟨bb, off + m * 7, none⟩ = some (.int .i64 0) := t0
    clear t0 hkd
    go_wp2_with (with_reducible refine wpList_store_lit (.pointer (some ⟨G, 0, none⟩)) (.agg #[.int .i64 0, .int .i64 0, .int .i64 0, .int .i64 0]) HST.out ?_ ?_ ?_)
    ·
     rfl
    ·
     rfl
    try rw [hE']
    clear HST
    go_wp2
    rw [set7t_fold, set4_fold]
    have HFA := ((HA5.out.put7 (u0 := .int .i64 o) (u1 := .string tx) (u2 := .int .u64 q0) (u3 := .int .u64 q1) (u4 := .int .u64 q2) (u5 := .int .u64 q3) (u6 := .slice ko nk kc)).but (But.set4 _ F (.int .i64 0) (.int .i64 0) (.int .i64 0) (.int .i64 0)) ne1)
    have HFF := ((HF5.out.but (But.set7 _ A (.int .i64 o) (.string tx) (.int .u64 q0) (.int .u64 q1) (.int .u64 q2) (.int .u64 q3) (.slice ko nk kc)) ne2).put4 (u0 := .int .i64 0) (u1 := .int .i64 0) (u2 := .int .i64 0) (u3 := .int .i64 0))
    have HBB := (below_put4 (below_put7 HB5.out (Nat.le_refl _) (.int .i64 o) (.string tx) (.int .u64 q0) (.int .u64 q1) (.int .u64 q2) (.int .u64 q3) (.slice ko nk kc)) (g := F) (by have := HN.out; omega) (.int .i64 0) (.int .i64 0) (.int .i64 0) (.int .i64 0))
    have HKK := HasE.but ((((But.refl (fun j => j = A ∨ j = F) w5).trans (But.set7 w5 A (.int .i64 o) (.string tx) (.int .u64 q0) (.int .u64 q1) (.int .u64 q2) (.int .u64 q3) (.slice ko nk kc)) (fun j _ h => .inl h)).trans (But.set4 _ F (.int .i64 0) (.int .i64 0) (.int .i64 0) (.int .i64 0)) (fun j _ h => .inr h))) (fun j hj => by have := HS3.out; have := HS4.out; have := HS2.out; rcases hj with rfl | rfl <;> omega) HK5.out
    clear a0 a1 a2 a3 a4 a5 a6 e0 e1 e2 e3 e4 e5 e6 al b0 b1 b2 b3 d0 d1 d2 d3 bl c0 c1 c2 c3 cl x0 x1 x2 x3 x4 x5 x6 xl t0' t6 hbb
    generalize set4 (set7t _ _ _ _ _ _ _ _ _) F _ _ _ _ = w9 at *
    obtain ⟨z0, z1, z2, z3, z4, z5, z6⟩ := HFA.seven
    obtain ⟨y0, y1, y2, y3, -⟩ := HFF.four
    refine bodyPost_ret (by simp [results, Try.results15, go_sem, z0, z1, z2, z3, z4, z5, z6, y0, y1, y2, y3]; rfl) rfl ?_
    rw [HE.out]
    refine ⟨⟨ko, kc, n2, by rw [HEX.out], HasE.low (by have := HS3.out; have := HS2.out; have := HN.out; omega) HKK⟩, by rw [HN.out.2]; exact HBB⟩
   ·
    have HE := Lib.hid (show RES = .error (2, (t.pos : Int)) from HSR.out.trans (if_neg hkd))
    have kd1 : ((t.kd : Int) == 0) = false := beq_eq_false_iff_ne.2 (by omega)
    have kd2 : decide ((t.kd : Int) = 0) = false := decide_eq_false (by omega)
    have kd3 : ¬ (t.kd : Int) = 0 := by omega
    generalize (t.kd : Int) = kd at *
    generalize (t.pos : Int) = pos at *
    clear hkd
    go_wp2_with (with_reducible refine wpList_store_lit (.pointer (some ⟨G, 0, none⟩)) (.agg #[.int .i64 0, .int .i64 0, .int .i64 0, .int .i64 0]) HST.out ?_ ?_ ?_)
    ·
     rfl
    ·
     rfl
    try rw [hE']
    clear HST
    go_wp2_with fail
    go_region
    go_wp2
    rw [set7t_fold, set4_fold]
    have HFA := ((HA5.out.put7 (u0 := .int .i64 0) (u1 := .string ⟨#[]⟩) (u2 := .int .u64 0) (u3 := .int .u64 0) (u4 := .int .u64 0) (u5 := .int .u64 0) (u6 := .slice none 0 0)).but (But.set4 _ F (.int .i64 2) (.int .i64 pos) (.int .i64 0) (.int .i64 0)) ne1).on_drew
    have HFF := ((HF5.out.but (But.set7 _ A (.int .i64 0) (.string ⟨#[]⟩) (.int .u64 0) (.int .u64 0) (.int .u64 0) (.int .u64 0) (.slice none 0 0)) ne2).put4 (u0 := .int .i64 2) (u1 := .int .i64 pos) (u2 := .int .i64 0) (u3 := .int .i64 0)).on_drew
    have HBB := (below_put4 (below_put7 HB5.out (Nat.le_refl _) (.int .i64 0) (.string ⟨#[]⟩) (.int .u64 0) (.int .u64 0) (.int .u64 0) (.int .u64 0) (.slice none 0 0)) (g := F) (by have := HN.out; omega) (.int .i64 2) (.int .i64 pos) (.int .i64 0) (.int .i64 0)).drew
    clear a0 a1 a2 a3 a4 a5 a6 e0 e1 e2 e3 e4 e5 e6 al b0 b1 b2 b3 d0 d1 d2 d3 bl c0 c1 c2 c3 cl x0 x1 x2 x3 x4 x5 x6 xl t0 t6 hbb
    generalize World.drew (set4 (set7t _ _ _ _ _ _ _ _ _) F _ _ _ _) = w9 at *
    obtain ⟨z0, z1, z2, z3, z4, z5, z6⟩ := HFA.seven
    obtain ⟨y0, y1, y2, y3, -⟩ := HFF.four
    refine bodyPost_ret (by simp [results, Try.results15, go_sem, z0, z1, z2, z3, z4, z5, z6, y0, y1, y2, y3]; rfl) rfl ?_
    rw [HE.out, HN.out.2]
    exact ⟨⟨rfl, (by show (2 : Int) ≠ 0; decide)⟩, HBB⟩
end Go.Proofs.Ytonknapfndaalaa
