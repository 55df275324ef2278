import Derived.Test.YtbjgojdpfehnmaaJnM
namespace Go.Proofs.Ytbjgojdpfehnmaa
set_option linter.unusedVariables false
open Go.RowKit Go.Sort
def MQ (P : Nat → Int → Ex → List Nj → Pt) (ML : List Md) (R : Sj × Option Ft3) (i : Nat) (s : Sj) : Option Ft3 → Prop
 | none => R = mdF P (ML.drop i) i s
 | some f => R = (s, some f)
def UQ (P : Int → Ex → List Nj → Pt) (mod : Nat) (RL : List (ByteArray × Ex)) (R : List Nj × Option Ft3 × List Hj) (k : Nat) (N : List Nj) (H : List Hj) : Option Ft3 → Prop
 | none => R = ruF P mod (RL.drop k) k N H
 | some f => R = (N, some f, H)
theorem UQ.step {P : Int → Ex → List Nj → Pt} {mod : Nat} {RL : List (ByteArray × Ex)} {R : List Nj × Option Ft3 × List Hj} {k n1 : Nat} {N N1 : List Nj} {H : List Hj} {r : ByteArray × Ex} {F1 : Option Ft3} (h : UQ P mod RL R k N H none) (hr : RL[k]? = some r) (hp : P (k : Int) r.2 N = (N1, F1, n1)) : UQ P mod RL R (k + 1) N1 (H ++ [⟨mod, r.1, n1⟩]) F1 := by
 have h : R = ruF P mod (RL.drop k) k N H := h
 obtain ⟨h1, h2⟩ := aS.1 hr
 rw [List.drop_eq_getElem_cons h1, h2] at h
 unfold ruF at h
 rw [hp] at h
 cases F1 with
 | none => exact h
 | some f => exact h
theorem UQ.done {P : Int → Ex → List Nj → Pt} {mod : Nat} {RL : List (ByteArray × Ex)} {R : List Nj × Option Ft3 × List Hj} {k : Nat} {N : List Nj} {H : List Hj} (h : UQ P mod RL R k N H none) (hk : RL.length ≤ k) : R = (N, none, H) := by
 have h : R = ruF P mod (RL.drop k) k N H := h
 rw [List.drop_eq_nil_of_le hk] at h
 exact h
def MN (P : Nat → Int → Ex → List Nj → Pt) (ML : List Md) (R : Sj × Option Ft3) (i : Nat) (s : Sj) (m : Md) (N1 : List Nj) (wt : Int) : Option Ft3 → Prop
 | some f => R = (⟨s.ms ++ [m.nm], N1, s.hs, s.ws ++ [wt]⟩, some f)
 | none => R = (match ruF (P i) i m.ru 0 N1 s.hs with
  | (N2, some f, H) => (⟨s.ms ++ [m.nm], N2, H, s.ws ++ [wt]⟩, some f)
  | (N2, none, H) => mdF P (ML.drop (i + 1)) (i + 1) ⟨s.ms ++ [m.nm], N2, H, s.ws ++ [wt]⟩)
theorem MQ.turn {P : Nat → Int → Ex → List Nj → Pt} {ML : List Md} {R : Sj × Option Ft3} {i : Nat} {s : Sj} {m : Md} {N1 : List Nj} {F1 : Option Ft3} {wt : Int} (h : MQ P ML R i s none) (hm : ML[i]? = some m) (hw : waF (P i) m s.ns = (N1, F1, wt)) : MN P ML R i s m N1 wt F1 := by
 have h : R = mdF P (ML.drop i) i s := h
 obtain ⟨h1, h2⟩ := aS.1 hm
 rw [List.drop_eq_getElem_cons h1, h2] at h
 unfold mdF at h
 rw [hw] at h
 cases F1 with
 | none => exact h
 | some f => exact h
theorem MN.next {P : Nat → Int → Ex → List Nj → Pt} {ML : List Md} {R : Sj × Option Ft3} {i : Nat} {s : Sj} {m : Md} {N1 N2 : List Nj} {H : List Hj} {F2 : Option Ft3} {wt : Int} (h : MN P ML R i s m N1 wt none) (hr : ruF (P i) i m.ru 0 N1 s.hs = (N2, F2, H)) : MQ P ML R (i + 1) ⟨s.ms ++ [m.nm], N2, H, s.ws ++ [wt]⟩ F2 := by
 have h : R = (match ruF (P i) i m.ru 0 N1 s.hs with
  | (N2, some f, H) => (⟨s.ms ++ [m.nm], N2, H, s.ws ++ [wt]⟩, some f)
  | (N2, none, H) => mdF P (ML.drop (i + 1)) (i + 1) ⟨s.ms ++ [m.nm], N2, H, s.ws ++ [wt]⟩) := h
 rw [hr] at h
 cases F2 with
 | none => exact h
 | some f => exact h
def JQ (P : Nat → Int → Ex → List Nj → Pt) (ML : List Md) (RES : Except Ft3 Gj) (HDR : Option Ft3) (MD : Sj × Option Ft3) (i : Nat) (s : Sj) : Option Ft3 → Prop
 | none => HDR = none ∧ MQ P ML MD i s none
 | some f => RES = .error f
def IQ (P : Int → Ex → List Nj → Pt) (mod : Nat) (RL : List (ByteArray × Ex)) (RES : Except Ft3 Gj) (M : Prop) (RU : List Nj × Option Ft3 × List Hj) (k : Nat) (N : List Nj) (H : List Hj) : Option Ft3 → Prop
 | none => M ∧ UQ P mod RL RU k N H none
 | some f => RES = .error f
def joinR : Option Ft3 → Sj × Option Ft3 → Option Int → Except Ft3 Gj
 | some f, _, _ => .error f
 | none, (_, some f), _ => .error f
 | none, (_, none), none => .error (5, -1, -1)
 | none, (gr, none), some st => .ok ⟨gr.ms, gr.ns, gr.hs, gr.ws, st⟩
theorem joinO_q (ML : List Md) (s : ByteArray) : joinO ML s = joinR (hdO ML) (mdO ML) (startO ML (fstL ML 0) s) := by
 unfold joinO
 cases hdO ML with
 | some f => rfl
 | none =>
  cases mdO ML with
  | mk gr F =>
   cases F with
   | some f => rfl
   | none => cases startO ML (fstL ML 0) s <;> rfl
set_option maxRecDepth 1000000 in
set_option maxHeartbeats 12800000 in
theorem join_any (ML : List Md) (mo : Option Addr) (mc : Nat) (D0 : Nat) (hok : ∀ m ∈ ML, Okm m) (h5 : ML.length ≤ 5) (hfew : Few ML) (s : ByteArray) (hs : s.size ≤ 1000000) (w : World) (hM : HasMs w D0 mo ML) :
  Calls Try.prog 29 #[.slice mo ML.length mc, .string s] w fun e w' => JoE w.heap.size (joinO ML s) e w' ∧ Below w.heap.size w w' := by
 obtain ⟨w0, hw0⟩ : ∃ w0, (w.alloc (.cells #[.slice none 0 0, .slice none 0 0, .slice none 0 0, .slice none 0 0, .int .i64 0] 27)).alloc (.cells #[.int .i64 0, .int .i64 0, .int .i64 0, .int .i64 0] 57) = w0 := ⟨_, rfl⟩
 obtain ⟨A, hA⟩ : ∃ A, w.heap.size = A := ⟨_, rfl⟩
 have HA := aH hA
 have HB0 := aH (show Below A w w0 from by rw [← hw0, ← hA]; exact (bA _).alloc (by simp) _)
 have HG0 := aH (show Own w0 A 27 [.slice none 0 0, .slice none 0 0, .slice none 0 0, .slice none 0 0, .int .i64 0] from by rw [← hw0, ← hA]; exact (Own.fresh w 27 [.slice none 0 0, .slice none 0 0, .slice none 0 0, .slice none 0 0, .int .i64 0]).on_alloc _)
 obtain ⟨Fb, hFb⟩ : ∃ F, A + 1 = F := ⟨_, rfl⟩
 have HF0 := aH (show Own w0 Fb 57 [.int .i64 0, .int .i64 0, .int .i64 0, .int .i64 0] from by
  rw [← hFb]
  have q := Own.fresh (w.alloc (.cells #[.slice none 0 0, .slice none 0 0, .slice none 0 0, .slice none 0 0, .int .i64 0] 27)) 57 [.int .i64 0, .int .i64 0, .int .i64 0, .int .i64 0]
  rw [← hw0, ← hA]
  have e : (w.alloc (.cells #[.slice none 0 0, .slice none 0 0, .slice none 0 0, .slice none 0 0, .int .i64 0] 27)).heap.size = w.heap.size + 1 := by simp
  rw [e] at q
  exact q)
 obtain ⟨g, hg⟩ : ∃ g, w0.heap.size = g := ⟨_, rfl⟩
 have HG := aH (show g = A + 2 ∧ w0.heap.size = g ∧ Fb = A + 1 from ⟨by rw [← hg, ← hw0, ← hA]; simp, hg, hFb.symm⟩)
 have HM0 := aH (show HasMs w0 D0 mo ML from hM.below (by rw [← hA] at HB0; exact HB0.o))
 obtain ⟨nm, hnm⟩ : ∃ n, ML.length = n := ⟨_, rfl⟩
 have HNM := aH hnm
 have HFL := aH (show (fstL ML 0).length = ML.length from fstL_len ML 0)
 have HFB := aH (show ∀ x ∈ fstL ML 0, x ≤ 1000000000 from fun x hx => by have := fstL_bd ML 0 (fun m hm => (hok m hm).2.2) x hx; omega)
 obtain ⟨FL, hFL⟩ : ∃ r, fstL ML 0 = r := ⟨_, rfl⟩
 have HK0 := aH (show Wk w0 (w0.alloc (.cells #[.slice mo nm mc, .slice none 0 0, .slice none 0 0, .slice none 0 0, .slice none 0 0, .int .i64 0, .slice none 0 0, .int .i64 0, .int .i64 0, .int .i64 0, .int .i64 0] 87)) g (fun b => if b = g then 9 else 0) (fun _ => (0, [])) (fun _ => .slice none 0 0) (.slice mo nm mc) 0 none from by rw [← hg]; exact Wk.start w0 (.slice mo nm mc))
 have HHD := aH (fun (W : World) (ct : Nat → Nat) (v : Nat → Value) (h : Wk w0 W g ct (fun _ => (0, [])) v (.slice mo ML.length mc) 0 none) => jheads_any ML mo mc w0 D0 HM0.o hok h5 g W ct (fun _ => (0, [])) v h rfl)
 have HPU := aH (fun (i : Nat) (hi : i ≤ 1000000) (ru : Int) (rows : Rw) (hr : rows 5 = (FL.length, knrow FL)) (x : Ex) (ko : Option Addr) (kc : Nat) (hx : Fw 53 x) (hk : HasK w0 53 ko x.kids) (W : World) (ct : Nat → Nat) (N : List Nj) (hJ : Jn w0 W g ct rows (.slice mo ML.length mc) 0 N none) => jput_any ML FL mo mc w0 D0 HM0.o hfew (by rw [← hFL]; exact HFL.o) (by rw [← hFL]; exact HFB.o) g i hi ru rows hr 0 53 x ko kc hx hk W ct N hJ)
 have HSA := aH (fun (W : World) (ct : Nat → Nat) (rows : Rw) (v : Nat → Value) (h : Wk w0 W g ct rows v (.slice mo ML.length mc) 0 none) (hr : rows 5 = (FL.length, knrow FL)) => jstart_any ML FL mo mc w0 D0 HM0.o hok h5 hfew (by rw [← hFL]; exact HFL.o) (by rw [← hFL]; exact HFB.o) s hs g W ct rows v h hr)
 obtain ⟨RES, hRES⟩ : ∃ r, joinO ML s = r := ⟨_, rfl⟩
 obtain ⟨MD, hMD⟩ : ∃ r, mdO ML = r := ⟨_, rfl⟩
 obtain ⟨HDR, hHD⟩ : ∃ r, hdO ML = r := ⟨_, rfl⟩
 have HRS := aH (show RES = joinR HDR MD (startO ML FL s) from by rw [← hRES, ← hMD, ← hHD, ← hFL]; exact joinO_q ML s)
 obtain ⟨P, hP⟩ : ∃ P : Nat → Int → Ex → List Nj → Pt, P = fun i k => putN ML FL i k 53 := ⟨_, rfl⟩
 have HP := aH hP
 have HMD := aH (show MD = mdF P (ML.drop 0) 0 ⟨[], [], [], []⟩ from by rw [← hMD, hP, List.drop_zero, ← hFL]; rfl)
 have HOK := aH hok
 rw [hFL] at HFL HHD
 rw [hHD] at HHD
 rw [hnm] at HHD HPU HSA HFL h5
 rw [hRES, hnm]
 clear hok hfew hs hM hRES hMD hHD hP hFL hnm
 go_enter Try.func29, Try.ntmps29
 go_upto_region 2 with fail
 generalize w0.alloc (.cells #[.slice mo nm mc, .slice none 0 0, .slice none 0 0, .slice none 0 0, .slice none 0 0, .int .i64 0, .slice none 0 0, .int .i64 0, .int .i64 0, .int .i64 0, .int .i64 0] 87) = w1 at *
 clear hw0 hA hg hFb
 go_wp2_with fail
 refine (HHD.o w1 _ _ HK0.o).mono ?_
 rintro e w2 ⟨rfl, c2, v2, hW2⟩
 have HJ2 := aH (show Jn w0 w2 g c2 (rowsJ [] [] [] FL) (.slice mo nm mc) 0 [] HDR from ⟨v2, [], hW2.rows_eq fun i h1 h5 => by
  obtain rfl | rfl | rfl | rfl | rfl : i = 1 ∨ i = 2 ∨ i = 3 ∨ i = 4 ∨ i = 5 := by omega
  ·
   rfl
  ·
   rfl
  ·
   rfl
  ·
   rfl
  ·
   show (nm, knrow FL) = (FL.length, knrow FL); rw [HFL.o], rfl, fun z hz => absurd hz List.not_mem_nil⟩)
 have HQ2 := aH (show JQ P ML RES HDR MD 0 ⟨[], [], [], []⟩ HDR from by
  cases HDR with
  | none => exact ⟨rfl, HMD.o⟩
  | some f => exact HRS.o)
 clear hW2 HK0 HHD
 go_wp2_with fail
 go_loopw [7] (fun v7 wr => ∃ (i : Nat) (sj : Sj) (F : Option Ft3) (c : Nat → Nat), v7 = .int .i64 (i : Int) ∧ (i : Int) ≤ nm ∧ aQ (JQ P ML RES HDR MD i sj F) ∧ aQ (Jn w0 wr g c (rowsJ sj.ms sj.hs sj.ws FL) (.slice mo nm mc) 0 sj.ns F) ∧ aQ (sj.ms.length ≤ i ∧ sj.ws.length ≤ i ∧ sj.hs.length ≤ 24 * i)) (fun v7 _ => nm - (intOf v7).toNat)
 case atStart => exact ⟨0, ⟨[], [], [], []⟩, HDR, c2, rfl, by omega, HQ2, HJ2, aH ⟨Nat.le_refl _, Nat.le_refl _, Nat.le_refl _⟩⟩
 case round =>
  obtain ⟨i, sj, F, c, rfl, hi, HQ, HJ, HLN⟩ := hrel
  clear HJ2 HQ2
  obtain ⟨v, Z, hW, hZ, hK⟩ := HJ.o
  have HW := aH hW
  have HZ := aH hZ
  have HK := aH hK
  have ho : Own wr g 87 [.slice mo nm mc, v 1, v 2, v 3, v 4, .int .i64 0, v 5, .int .i64 (e3 F), .int .i64 0, .int .i64 (m3 F), .int .i64 (r3 F)] := hW.own
  have c7 : wr.cell? ⟨g, 7, none⟩ = some (.int .i64 (e3 F)) := ho.cell 7
  have hgl := ho.lt
  have HO := aH ho
  clear ho hW hZ hK
  cases F with
  | some f =>
   have c7' : wr.cell? ⟨g, 7, none⟩ = some (.int .i64 f.1) := c7
   have hf0 := HW.o.nz f rfl
   have ef : (f.1 == 0) = false := aN.2 hf0
   have ef2 : (f.1 != 0) = true := bne_iff_ne.2 hf0
   have HE := aH (show RES = .error f from HQ.o)
   clear c7 hf0
   by_cases hin : (i : Int) < nm
   ·
    have hin1 : decide ((i : Int) < nm) = true := aT hin
    have hin2 : decide (i < nm) = true := aT (by omega)
    go_upto_region 19 with fail
    have hoc : Own wr g 87 [.slice mo nm mc, v 1, v 2, v 3, v 4, .int .i64 0, v 5, .int .i64 f.1, .int .i64 0, .int .i64 f.2.1, .int .i64 f.2.2] := HO.o
    have c8 : wr.cell? ⟨g, 8, none⟩ = some (.int .i64 0) := hoc.cell 8
    have c9 : wr.cell? ⟨g, 9, none⟩ = some (.int .i64 f.2.1) := hoc.cell 9
    have cA : wr.cell? ⟨g, 10, none⟩ = some (.int .i64 f.2.2) := hoc.cell 10
    have hGA := HG0.o.under (HW.o.bl.mono (by have := HG.o.2.1; omega)) HG0.o.lt
    have hFA := HF0.o.under (HW.o.bl.mono (by have := HG.o.2.1; omega)) HF0.o.lt
    have HGA := aH hGA
    have HFA := aH hFA
    have ne1 : ¬ A = Fb := by have := HG.o.2.2; omega
    have ne2 : ¬ Fb = A := fun e => ne1 e.symm
    have ne3 : ¬ A = g := by have := HG.o.1; omega
    have ne4 : ¬ g = A := fun e => ne3 e.symm
    have ne5 : ¬ Fb = g := by have := HG.o.1; have := HG.o.2.2; omega
    have ne6 : ¬ g = Fb := fun e => ne5 e.symm
    obtain ⟨x0, x1, x2, x3, x4⟩ : wr.cell? ⟨A, 0, none⟩ = some (.slice none 0 0) ∧ wr.cell? ⟨A, 1, none⟩ = some (.slice none 0 0) ∧ wr.cell? ⟨A, 2, none⟩ = some (.slice none 0 0) ∧ wr.cell? ⟨A, 3, none⟩ = some (.slice none 0 0) ∧ wr.cell? ⟨A, 4, none⟩ = some (.int .i64 0) := ⟨hGA.cell 0, hGA.cell 1, hGA.cell 2, hGA.cell 3, hGA.cell 4⟩
    obtain ⟨t0, t1, t2, t3, t4⟩ : wr.frozen? ⟨A, 0, none⟩ = false ∧ wr.frozen? ⟨A, 1, none⟩ = false ∧ wr.frozen? ⟨A, 2, none⟩ = false ∧ wr.frozen? ⟨A, 3, none⟩ = false ∧ wr.frozen? ⟨A, 4, none⟩ = false := ⟨hGA.thaw 0, hGA.thaw 1, hGA.thaw 2, hGA.thaw 3, hGA.thaw 4⟩
    have xl := hGA.lt
    obtain ⟨y0, y1, y2, y3, u0, u1, u2, u3⟩ := hFA.four
    have yl := hFA.lt
    have HNF := aH (HW.o.nz f rfl)
    have HBZ := aH (show Below A w wr from HB0.o.trans (HW.o.bl.mono (by have := HG.o.1; have := HG.o.2.1; omega)))
    clear hGA hFA hoc
    go_region
    rw [set5_fold, set4_fold]
    have HGZ := aH (((HGA.o.put5 (.slice none 0 0) (.slice none 0 0) (.slice none 0 0) (.slice none 0 0) (.int .i64 0)).but (But.set4 _ Fb (.int .i64 f.1) (.int .i64 0) (.int .i64 f.2.1) (.int .i64 f.2.2)) ne1).on_drew)
    have HFZ := aH (((HFA.o.but (But.set5 wr A (.slice none 0 0) (.slice none 0 0) (.slice none 0 0) (.slice none 0 0) (.int .i64 0)) ne2).put4 (u0 := .int .i64 f.1) (u1 := .int .i64 0) (u2 := .int .i64 f.2.1) (u3 := .int .i64 f.2.2)).on_drew)
    have HBY := aH (HBZ.o.trans ((((But.refl (fun j => j = A ∨ j = Fb) wr).trans (But.set5 wr A (.slice none 0 0) (.slice none 0 0) (.slice none 0 0) (.slice none 0 0) (.int .i64 0)) (fun j _ h => .inl h)).trans (But.set4 _ Fb (.int .i64 f.1) (.int .i64 0) (.int .i64 f.2.1) (.int .i64 f.2.2)) (fun j _ h => .inr h)).drew.below (B := A) (by omega) (fun j h => by have := HG.o.2.2; rcases h with h | h <;> omega)))
    clear x0 x1 x2 x3 x4 t0 t1 t2 t3 t4 y0 y1 y2 y3 u0 u1 u2 u3 xl yl c7' c8 c9 cA HGA HFA HBZ HW HO HZ HK HJ
    generalize World.drew (set4 (set5 _ A _ _ _ _ _) Fb _ _ _ _) = w99 at *
    have hgz := HGZ.o
    obtain ⟨x0, x1, x2, x3, x4⟩ : w99.cell? ⟨A, 0, none⟩ = some (.slice none 0 0) ∧ w99.cell? ⟨A, 1, none⟩ = some (.slice none 0 0) ∧ w99.cell? ⟨A, 2, none⟩ = some (.slice none 0 0) ∧ w99.cell? ⟨A, 3, none⟩ = some (.slice none 0 0) ∧ w99.cell? ⟨A, 4, none⟩ = some (.int .i64 0) := ⟨hgz.cell 0, hgz.cell 1, hgz.cell 2, hgz.cell 3, hgz.cell 4⟩
    obtain ⟨y0, y1, y2, y3, -⟩ := HFZ.o.four
    go_wp2
    refine bodyPost_ret (by simp [results, Try.results29, go_sem, x0, x1, x2, x3, x4, y0, y1, y2, y3]; rfl) rfl ?_
    rw [HE.o, HA.o]
    exact ⟨⟨rfl, HNF.o⟩, HBY.o⟩
   ·
    have hin1 : decide ((i : Int) < nm) = false := aF hin
    have hin2 : decide (i < nm) = false := aF (by omega)
    go_upto_region 19 with fail
    have hoc : Own wr g 87 [.slice mo nm mc, v 1, v 2, v 3, v 4, .int .i64 0, v 5, .int .i64 f.1, .int .i64 0, .int .i64 f.2.1, .int .i64 f.2.2] := HO.o
    have c8 : wr.cell? ⟨g, 8, none⟩ = some (.int .i64 0) := hoc.cell 8
    have c9 : wr.cell? ⟨g, 9, none⟩ = some (.int .i64 f.2.1) := hoc.cell 9
    have cA : wr.cell? ⟨g, 10, none⟩ = some (.int .i64 f.2.2) := hoc.cell 10
    have hGA := HG0.o.under (HW.o.bl.mono (by have := HG.o.2.1; omega)) HG0.o.lt
    have hFA := HF0.o.under (HW.o.bl.mono (by have := HG.o.2.1; omega)) HF0.o.lt
    have HGA := aH hGA
    have HFA := aH hFA
    have ne1 : ¬ A = Fb := by have := HG.o.2.2; omega
    have ne2 : ¬ Fb = A := fun e => ne1 e.symm
    have ne3 : ¬ A = g := by have := HG.o.1; omega
    have ne4 : ¬ g = A := fun e => ne3 e.symm
    have ne5 : ¬ Fb = g := by have := HG.o.1; have := HG.o.2.2; omega
    have ne6 : ¬ g = Fb := fun e => ne5 e.symm
    obtain ⟨x0, x1, x2, x3, x4⟩ : wr.cell? ⟨A, 0, none⟩ = some (.slice none 0 0) ∧ wr.cell? ⟨A, 1, none⟩ = some (.slice none 0 0) ∧ wr.cell? ⟨A, 2, none⟩ = some (.slice none 0 0) ∧ wr.cell? ⟨A, 3, none⟩ = some (.slice none 0 0) ∧ wr.cell? ⟨A, 4, none⟩ = some (.int .i64 0) := ⟨hGA.cell 0, hGA.cell 1, hGA.cell 2, hGA.cell 3, hGA.cell 4⟩
    obtain ⟨t0, t1, t2, t3, t4⟩ : wr.frozen? ⟨A, 0, none⟩ = false ∧ wr.frozen? ⟨A, 1, none⟩ = false ∧ wr.frozen? ⟨A, 2, none⟩ = false ∧ wr.frozen? ⟨A, 3, none⟩ = false ∧ wr.frozen? ⟨A, 4, none⟩ = false := ⟨hGA.thaw 0, hGA.thaw 1, hGA.thaw 2, hGA.thaw 3, hGA.thaw 4⟩
    have xl := hGA.lt
    obtain ⟨y0, y1, y2, y3, u0, u1, u2, u3⟩ := hFA.four
    have yl := hFA.lt
    have HNF := aH (HW.o.nz f rfl)
    have HBZ := aH (show Below A w wr from HB0.o.trans (HW.o.bl.mono (by have := HG.o.1; have := HG.o.2.1; omega)))
    clear hGA hFA hoc
    go_region
    rw [set5_fold, set4_fold]
    have HGZ := aH (((HGA.o.put5 (.slice none 0 0) (.slice none 0 0) (.slice none 0 0) (.slice none 0 0) (.int .i64 0)).but (But.set4 _ Fb (.int .i64 f.1) (.int .i64 0) (.int .i64 f.2.1) (.int .i64 f.2.2)) ne1).on_drew)
    have HFZ := aH (((HFA.o.but (But.set5 wr A (.slice none 0 0) (.slice none 0 0) (.slice none 0 0) (.slice none 0 0) (.int .i64 0)) ne2).put4 (u0 := .int .i64 f.1) (u1 := .int .i64 0) (u2 := .int .i64 f.2.1) (u3 := .int .i64 f.2.2)).on_drew)
    have HBY := aH (HBZ.o.trans ((((But.refl (fun j => j = A ∨ j = Fb) wr).trans (But.set5 wr A (.slice none 0 0) (.slice none 0 0) (.slice none 0 0) (.slice none 0 0) (.int .i64 0)) (fun j _ h => .inl h)).trans (But.set4 _ Fb (.int .i64 f.1) (.int .i64 0) (.int .i64 f.2.1) (.int .i64 f.2.2)) (fun j _ h => .inr h)).drew.below (B := A) (by omega) (fun j h => by have := HG.o.2.2; rcases h with h | h <;> omega)))
    clear x0 x1 x2 x3 x4 t0 t1 t2 t3 t4 y0 y1 y2 y3 u0 u1 u2 u3 xl yl c7' c8 c9 cA HGA HFA HBZ HW HO HZ HK HJ
    generalize World.drew (set4 (set5 _ A _ _ _ _ _) Fb _ _ _ _) = w99 at *
    have hgz := HGZ.o
    obtain ⟨x0, x1, x2, x3, x4⟩ : w99.cell? ⟨A, 0, none⟩ = some (.slice none 0 0) ∧ w99.cell? ⟨A, 1, none⟩ = some (.slice none 0 0) ∧ w99.cell? ⟨A, 2, none⟩ = some (.slice none 0 0) ∧ w99.cell? ⟨A, 3, none⟩ = some (.slice none 0 0) ∧ w99.cell? ⟨A, 4, none⟩ = some (.int .i64 0) := ⟨hgz.cell 0, hgz.cell 1, hgz.cell 2, hgz.cell 3, hgz.cell 4⟩
    obtain ⟨y0, y1, y2, y3, -⟩ := HFZ.o.four
    go_wp2
    refine bodyPost_ret (by simp [results, Try.results29, go_sem, x0, x1, x2, x3, x4, y0, y1, y2, y3]; rfl) rfl ?_
    rw [HE.o, HA.o]
    exact ⟨⟨rfl, HNF.o⟩, HBY.o⟩
  | none =>
   have c7' : wr.cell? ⟨g, 7, none⟩ = some (.int .i64 0) := c7
   clear c7
   by_cases hin : (i : Int) < nm
   ·
    have hin1 : decide ((i : Int) < nm) = true := aT hin
    have hin2 : decide (i < nm) = true := aT (by omega)
    obtain ⟨m, hm⟩ : ∃ m, ML[i]? = some m := ⟨_, aG (by have := HNM.o; omega)⟩
    obtain ⟨nn, hMr⟩ := HM0.o
    obtain ⟨mb, moff, io, ic, ko, kc, ro, rc, hmo, hmb, -, d0, -, d2, d3, d4, d5, d6, d7, d8, d9, dA, -, hke, hru⟩ := hMr i m hm
    have HOM := aH (HOK.o m (aM hm))
    have HM := aH hm
    have HRU := aH hru
    have HKE := aH (show HasK w0 53 ko m.wa.kids from HasK.fit HOM.o.1.wa.2 hke.hask)
    have HD := aH (And.intro hmb (And.intro d0 (And.intro d2 (And.intro d3 (And.intro d4 (And.intro d5 (And.intro d6 (And.intro d7 (And.intro d8 (And.intro d9 dA))))))))))
    have hi9 : i ≤ 1000000 := by omega
    have hw1 : IntKind.i64.wrap ((i : Int) + 1) = (i : Int) + 1 := wI
    have e0 := keepc d0 HW.o.bl
    have hmb2 : mb < wr.heap.size := aL hmb HW.o.bl.size
    have hn9 : sj.ms.length ≤ 1000000 ∧ sj.ws.length ≤ 1000000 ∧ sj.hs.length ≤ 1000000 := by have := HLN.o; omega
    have HN9 := aH hn9
    subst hmo
    clear hm hMr hmb d0 d2 d3 d4 d5 d6 d7 d8 d9 dA hke hru hn9
    have HW1 := aH (show Win (fun b => c b = 1) 9 1 wr (v 1) sj.ms.length (sj.ms.map Value.string) from by
     have q := HW.o.win 1 (by omega) (by omega)
     rw [upd_far _ _ (by decide)] at q; exact q)
    obtain ⟨n1, hn1⟩ : ∃ z, sj.ms.length = z := ⟨_, rfl⟩
    obtain ⟨X1, hX1⟩ : ∃ z, sj.ms.map Value.string = z := ⟨_, rfl⟩
    rw [hn1, hX1] at HW1
    have HNX := aH (And.intro hn1 hX1)
    have hn19 : n1 ≤ 1000000 := by rw [← hn1]; exact HN9.o.1
    obtain ⟨o1, k1, hv1, -, -, -⟩ := HW1.o.form
    rw [hv1] at HW1
    have ho1 : Own wr g 87 [.slice (some ⟨mb, moff, none⟩) nm mc, .slice o1 n1 k1, v 2, v 3, v 4, .int .i64 0, v 5, .int .i64 0, .int .i64 0, .int .i64 0, .int .i64 0] := by rw [← hv1]; exact HO.o
    have HO1 := aH ho1
    have c1 : wr.cell? ⟨g, 1, none⟩ = some (.slice o1 n1 k1) := ho1.cell 1
    have c1a : (wr.alloc (.cells #[.string m.nm] 9)).cell? ⟨g, 1, none⟩ = some (.slice o1 n1 k1) := (ho1.on_alloc _).cell 1
    have NP1 := aH (show ¬ c g = 1 from by rw [HW.o.cg]; omega)
    obtain ⟨i0, hi0, hz0, hz1, hz2⟩ := info_parts7 info_str
    have IP := aH (And.intro hi0 (And.intro hz0 (And.intro hz1 hz2)))
    have FN := aH (fresh_news wr 9 [.string m.nm])
    have K1 : n1 + 1 ≤ maxLen := by unfold maxLen; omega
    have K2 : (n1 + 1) * 16 ≤ 140737488355328 := by omega
    clear hn1 hX1 hv1 ho1 hi0 hz0 hz1 hz2
    go_upto_region 6 with fail
    go_cut [] (fun wx => ∃ c1 : Nat → Nat, aQ (Jn w0 wx g c1 (rowsJ (sj.ms ++ [m.nm]) sj.hs sj.ws FL) (.slice (some ⟨mb, moff, none⟩) nm mc) 0 sj.ns none))
    case first =>
     go_region_law ((refine step_append_win rfl _ _ 22 rfl (fun b => c b = 1) 9 _ _ 1 16 Try.underlying22 IP.o.1 IP.o.2.1 IP.o.2.2.1 IP.o.2.2.2 rfl (by decide) _ n1 X1 rfl (HW1.o.below (bA _).drew) ⟨wr.heap.size, 0, none⟩ 1 1 [.string m.nm] rfl rfl FN.o (by intro u hu; rw [List.mem_singleton.1 hu]; rfl) K1 K2 ?_); intro v' w' hw hb; obtain ⟨vb, voff, vcap, rfl, hg2, hle2, hlt2⟩ := hw.has (by omega); have hO := aH (((HO1.o.on_alloc (.cells #[.string m.nm] 9)).on_drew).but hb NP1.o); have q1 := hO.o.cell 1; have q2 := hO.o.thaw 1; have q3 := hO.o.lt; have hw2 := aH hw; have hb2 := aH hb; clear hw hb)
     all_goals
      have HJ1 := aH (Jn.grown (rows' := rowsJ (sj.ms ++ [m.nm]) sj.hs sj.ws FL) (i := 1) (m := 1) (news := [.string m.nm]) HW.o HZ.o HK.o (bA (.cells #[.string m.nm] 9)).drew (by omega) (by omega) (by omega) (by
       have q := hw2.o
       rw [← HNX.o.1, ← HNX.o.2] at q
       exact q) hb2.o (rowsJ_1 sj.ms sj.hs sj.ws FL m.nm))
      go_wp2
      go_meet
      rw [HNX.o.1] at HJ1
      exact ⟨_, HJ1⟩
    case rest =>
     obtain ⟨c1, HJ1⟩ := hcut
     clear e0 hmb2 HW1 HO1 c1a NP1 IP FN K1 K2 HNX hn19 hgl c7' HW HZ HK HO HJ
     have HBL1 := aH (show Below w0.heap.size w0 wc from by obtain ⟨v', Z', hj, -⟩ := HJ1.o; exact hj.bl)
     obtain ⟨hmb, d0, d2, d3, d4, d5, d6, d7, d8, d9, dA⟩ := HD.o
     have e2 := keepc d2 HBL1.o
     have e3 := keepc d3 HBL1.o
     have e4 := keepc d4 HBL1.o
     have e5 := keepc d5 HBL1.o
     have e6 := keepc d6 HBL1.o
     have e7 := keepc d7 HBL1.o
     have e8 := keepc d8 HBL1.o
     have e9 := keepc d9 HBL1.o
     have hmb2 : mb < wc.heap.size := aL hmb HBL1.o.size
     obtain ⟨wet, hwet⟩ : ∃ z, m.wet = z := ⟨_, rfl⟩
     have HWT := aH hwet
     rw [hwet] at e2
     clear hmb d0 d2 d3 d4 d5 d6 d7 d8 d9 dA hwet
     go_upto_if 50 with fail
     go_cut [8] (fun v8 wx => ∃ (N1 : List Nj) (F1 : Option Ft3) (wt : Int) (c2 : Nat → Nat), v8 = .int .i64 wt ∧ aQ (waF (P i) m sj.ns = (N1, F1, wt)) ∧ aQ (Jn w0 wx g c2 (rowsJ (sj.ms ++ [m.nm]) sj.hs sj.ws FL) (.slice (some ⟨mb, moff, none⟩) nm mc) 0 N1 F1))
     case first =>
      cases wet with
      | false =>
       have HE := aH (show waF (P i) m sj.ns = (sj.ns, none, -1) from by unfold waF; rw [HWT.o, if_neg (by simp)])
       go_wp2
       go_meet
       exact ⟨sj.ns, none, -1, c1, rfl, HE, HJ1⟩
      | true =>
       have HPC := aH (HPU.o i hi9 (-1) (rowsJ (sj.ms ++ [m.nm]) sj.hs sj.ws FL) rfl m.wa ko kc ⟨HOM.o.1.wa.2, HOM.o.1.wa.1⟩ HKE.o wc c1 sj.ns HJ1.o)
       obtain ⟨⟨N1, F1, n1⟩, hp⟩ : ∃ r, putN ML FL i (-1) 53 m.wa sj.ns = r := ⟨_, rfl⟩
       have HE := aH (show waF (P i) m sj.ns = (N1, F1, (n1 : Int)) from by unfold waF; rw [if_pos HWT.o, HP.o]; simp only [hp])
       rw [hp] at HPC
       clear hp
       go_wp2_with fail
       refine HPC.o.mono ?_
       rintro e w3 ⟨c3, rfl, hj, hbu, hag⟩
       have HJ3 := aH hj
       clear hj hbu hag
       go_wp2
       go_meet
       exact ⟨N1, F1, n1, c3, rfl, HE, HJ3⟩
     case rest =>
      obtain ⟨N1, F1, wt, c2, rfl, HWA, HJ2⟩ := hcut
      clear e2 e3 e4 e5 e6 e7 e8 e9 hmb2 HJ1 HBL1 HWT
      obtain ⟨v, Z, hW, hZ, hK⟩ := HJ2.o
      have HW := aH hW
      have HZ := aH hZ
      have HK := aH hK
      have HW4 := aH (show Win (fun b => c2 b = 4) 3 1 wc (v 4) sj.ws.length (sj.ws.map (Value.int .i64)) from by
       have q := hW.win 4 (by omega) (by omega)
       rw [upd_far _ _ (by decide)] at q; exact q)
      have hO : Own wc g 87 [(.slice (some ⟨mb, moff, none⟩) nm mc), v 1, v 2, v 3, v 4, .int .i64 0, v 5, .int .i64 (e3 F1), .int .i64 0, .int .i64 (m3 F1), .int .i64 (r3 F1)] := hW.own
      obtain ⟨n4, hn4⟩ : ∃ z, sj.ws.length = z := ⟨_, rfl⟩
      obtain ⟨X4, hX4⟩ : ∃ z, sj.ws.map (Value.int .i64) = z := ⟨_, rfl⟩
      rw [hn4, hX4] at HW4
      have HNX := aH (And.intro hn4 hX4)
      have hn49 : n4 ≤ 1000000 := by rw [← hn4]; exact HN9.o.2.1
      obtain ⟨o4, k4, hv4, -, -, -⟩ := HW4.o.form
      rw [hv4] at HW4 hO
      have HO := aH hO
      have c4 : wc.cell? ⟨g, 4, none⟩ = some (.slice o4 n4 k4) := hO.cell 4
      have hgl := hO.lt
      have NP4 := aH (show ¬ c2 g = 4 from by rw [hW.cg]; omega)
      obtain ⟨i0, hi0, hz0, hz1, hz2⟩ := info_parts7 info_int
      have HNEW := aH (fun W => fresh_news W 3 [.int .i64 wt])
      clear hn4 hX4 hv4 hW hZ hK hO
      go_wp2_with (first
       | (at_builtin; refine wpList_append_win _ rfl _ _ 23 rfl (fun b => c2 b = 4) 3 i0 _ 1 8 Try.underlying23 hi0 hz0 hz1 hz2 rfl (by decide) _ n4 X4 rfl (HW4.o.below (bA _)) ⟨wc.heap.size, 0, none⟩ 1 1 [.int .i64 wt] rfl rfl (HNEW.o wc) (by intro u hu; rw [List.mem_singleton.1 hu]; rfl) (by unfold maxLen; omega) (by omega) ?_))
      intro v' w5 hw5 hb5
      have hblx : Below wc.heap.size wc (wc.alloc (.cells #[.int .i64 wt] 3)) := bA _
      obtain ⟨vb, voff, vcap, rfl, hvg, hvle, hvlt⟩ := hw5.has (by omega)
      have hO5 := (HO.o.under hblx HO.o.lt).but hb5 NP4.o
      have q1 := hO5.cell 4
      have q2 := hO5.thaw 4
      have q3 := hO5.lt
      have HJ5 := aH (show Jn w0 (w5.setCell ⟨g, 4, none⟩ (.slice (some ⟨vb, voff, none⟩) (n4 + 1) vcap)) g (newC c2 (wc.alloc (.cells #[.int .i64 wt] 3)) w5 4) (rowsJ (sj.ms ++ [m.nm]) sj.hs (sj.ws ++ [wt]) FL) (.slice (some ⟨mb, moff, none⟩) nm mc) 0 N1 F1 from Jn.grown (rows' := rowsJ (sj.ms ++ [m.nm]) sj.hs (sj.ws ++ [wt]) FL) (i := 4) (m := 1) (news := [.int .i64 wt]) HW.o HZ.o HK.o hblx (by omega) (by omega) (by omega) (by
       show Win (fun b => c2 b = 4 ∨ (wc.alloc (.cells #[.int .i64 wt] 3)).heap.size ≤ b) 3 1 w5 (.slice (some ⟨vb, voff, none⟩) (n4 + 1) vcap) (sj.ws.length + 1) (sj.ws.map (Value.int .i64) ++ [.int .i64 wt])
       rw [HNX.o.1, HNX.o.2]
       exact hw5.mono (fun j _ h => by
        rcases h with h | h
        ·
         exact .inl h
        ·
         exact .inr (by simpa using h))) hb5 (rowsJ_4 (sj.ms ++ [m.nm]) sj.hs sj.ws FL wt))
      clear hO5 hw5 hvg hvle hblx c4 hgl HW4 HO NP4 HNX hn49 HW HZ HK HJ2 hb5
      go_upto_region 11 with fail
      generalize newC c2 (wc.alloc (.cells #[.int .i64 wt] 3)) w5 4 = c5 at *
      generalize w5.setCell ⟨g, 4, none⟩ (.slice (some ⟨vb, voff, none⟩) (n4 + 1) vcap) = w6 at *
      clear q1 q2 q3 hvlt HNEW hi0 hz0 hz1 hz2
      obtain ⟨RU, hRU⟩ : ∃ r, ruF (P i) i m.ru 0 N1 sj.hs = r := ⟨_, rfl⟩
      have HRUQ := aH hRU
      have HMN := aH (MQ.turn HQ.o.2 HM.o HWA.o)
      have HIQ := aH (show IQ (P i) i m.ru RES (MN P ML MD i sj m N1 wt none) RU 0 N1 sj.hs F1 from by
       cases F1 with
       | none => exact ⟨HMN.o, by rw [← hRU]; rfl⟩
       | some f =>
        have q : MD = (⟨sj.ms ++ [m.nm], N1, sj.hs, sj.ws ++ [wt]⟩, some f) := HMN.o
        show RES = .error f
        rw [HRS.o, HQ.o.1, q]; rfl)
      obtain ⟨nr, hnr⟩ : ∃ z, m.ru.length = z := ⟨_, rfl⟩
      have HNR := aH hnr
      have hnr24 : nr ≤ 24 := by rw [← hnr]; exact HOM.o.2.2
      have HL0 := aH (show sj.hs.length ≤ 24 * i + 0 from by have := HLN.o; omega)
      clear hRU hnr
      go_wp2_with fail
      go_loopw [9] (fun v9 wr => ∃ (k : Nat) (N : List Nj) (H : List Hj) (F : Option Ft3) (c : Nat → Nat), v9 = .int .i64 (k : Int) ∧ (k : Int) ≤ nr ∧ aQ (IQ (P i) i m.ru RES (MN P ML MD i sj m N1 wt none) RU k N H F) ∧ aQ (Jn w0 wr g c (rowsJ (sj.ms ++ [m.nm]) H (sj.ws ++ [wt]) FL) (.slice (some ⟨mb, moff, none⟩) nm mc) 0 N F) ∧ aQ (H.length ≤ 24 * i + k)) (fun v9 _ => nr - (intOf v9).toNat)
      case atStart => exact ⟨0, N1, sj.hs, F1, c5, rfl, by omega, HIQ, HJ5, HL0⟩
      case round =>
       obtain ⟨k, N, H, F, c, rfl, hk, HI, HJ, HL⟩ := hrel
       clear HJ5 HIQ HL0
       obtain ⟨v, Z, hW, hZ, hK⟩ := HJ.o
       have HW := aH hW
       have ho : Own wr g 87 [(.slice (some ⟨mb, moff, none⟩) nm mc), v 1, v 2, v 3, v 4, .int .i64 0, v 5, .int .i64 (e3 F), .int .i64 0, .int .i64 (m3 F), .int .i64 (r3 F)] := hW.own
       have c7 : wr.cell? ⟨g, 7, none⟩ = some (.int .i64 (e3 F)) := ho.cell 7
       have hgl := ho.lt
       obtain ⟨hmb, d0, d2, d3, d4, d5, d6, d7, d8, d9, dA⟩ := HD.o
       have eA := keepc dA hW.bl
       have hmb2 : mb < wr.heap.size := aL hmb hW.bl.size
       rw [HNR.o] at eA
       clear ho hW hZ hK hmb d0 d2 d3 d4 d5 d6 d7 d8 d9 dA
       cases F with
       | some f =>
        have c7' : wr.cell? ⟨g, 7, none⟩ = some (.int .i64 f.1) := c7
        have hf0 := HW.o.nz f rfl
        have ef : (f.1 == 0) = false := aN.2 hf0
        have HQN := aH (show JQ P ML RES HDR MD (i + 1) ⟨sj.ms ++ [m.nm], N, H, sj.ws ++ [wt]⟩ (some f) from HI.o)
        have HLN2 := aH (show (sj.ms ++ [m.nm]).length ≤ i + 1 ∧ (sj.ws ++ [wt]).length ≤ i + 1 ∧ H.length ≤ 24 * (i + 1) from by have h1 := HLN.o; have h2 := HL.o; exact ⟨by simp; omega, by simp; omega, by omega⟩)
        clear c7 hf0
        by_cases hkr : (k : Int) < nr
        ·
         have hkr1 : decide ((k : Int) < nr) = true := aT hkr
         have hkr2 : decide (k < nr) = true := aT (by omega)
         go_wp2
         first
          | exact ⟨⟨i + 1, ⟨sj.ms ++ [m.nm], N, H, sj.ws ++ [wt]⟩, some f, c, by go_num, by omega, HQN, HJ, HLN2⟩, by simp [intOf]; omega⟩
          | (go_roundw
             case rel => exact ⟨i + 1, ⟨sj.ms ++ [m.nm], N, H, sj.ws ++ [wt]⟩, some f, c, by go_num, by omega, HQN, HJ, HLN2⟩
             case measure => simp [intOf]; omega)
        ·
         have hkr1 : decide ((k : Int) < nr) = false := aF hkr
         have hkr2 : decide (k < nr) = false := aF (by omega)
         go_wp2
         first
          | exact ⟨⟨i + 1, ⟨sj.ms ++ [m.nm], N, H, sj.ws ++ [wt]⟩, some f, c, by go_num, by omega, HQN, HJ, HLN2⟩, by simp [intOf]; omega⟩
          | (go_roundw
             case rel => exact ⟨i + 1, ⟨sj.ms ++ [m.nm], N, H, sj.ws ++ [wt]⟩, some f, c, by go_num, by omega, HQN, HJ, HLN2⟩
             case measure => simp [intOf]; omega)
       | none =>
        have c7' : wr.cell? ⟨g, 7, none⟩ = some (.int .i64 0) := c7
        clear c7
        by_cases hkr : (k : Int) < nr
        ·
         have hkr1 : decide ((k : Int) < nr) = true := aT hkr
         have hkr2 : decide (k < nr) = true := aT (by omega)
         obtain ⟨r, hr⟩ : ∃ r, m.ru[k]? = some r := ⟨_, aG (by have := HNR.o; omega)⟩
         obtain ⟨rb, roff, yo, yc, hro, hrb, -, f0, f1, f2, f3, f4, f5, f6, f7, hky⟩ := HRU.o k r hr
         have HFW := aH (show Fw 53 r.2 from ⟨(HOM.o.1.bo r (aM hr)).2, (HOM.o.1.bo r (aM hr)).1⟩)
         have HKY := aH (show HasK w0 53 yo r.2.kids from HasK.fit HFW.o.1 hky.hask)
         obtain ⟨⟨N2, F2, n2⟩, hp⟩ : ∃ q, putN ML FL i (k : Int) 53 r.2 N = q := ⟨_, rfl⟩
         have HPC := aH (HPU.o i hi9 (k : Int) (rowsJ (sj.ms ++ [m.nm]) H (sj.ws ++ [wt]) FL) rfl r.2 yo yc HFW.o HKY.o wr c N HJ.o)
         have HU2 := aH (show UQ (P i) i m.ru RU (k + 1) N2 (H ++ [⟨i, r.1, n2⟩]) F2 from HI.o.2.step hr (by rw [HP.o]; exact hp))
         rw [hp] at HPC
         have g1 := keepc f1 HW.o.bl
         have g2 := keepc f2 HW.o.bl
         have g3 := keepc f3 HW.o.bl
         have g4 := keepc f4 HW.o.bl
         have g5 := keepc f5 HW.o.bl
         have g6 := keepc f6 HW.o.bl
         have g7 := keepc f7 HW.o.bl
         have hrb2 : rb < wr.heap.size := aL hrb HW.o.bl.size
         have HDR := aH (And.intro hrb (And.intro f0 eA))
         have hw2 : IntKind.i64.wrap ((k : Int) + 1) = (k : Int) + 1 := wI
         subst hro
         clear hr hp f0 f1 f2 f3 f4 f5 f6 f7 hrb hky
         go_wp2_with fail
         refine HPC.o.mono ?_
         rintro e w7 ⟨c7, rfl, hj7, hbu7, hag7⟩
         have HJ7 := aH hj7
         clear hbu7 hag7 hj7 g1 g2 g3 g4 g5 g6 g7 hrb2 eA hmb2 hgl c7' HPC HW HJ
         obtain ⟨v7, Z7, hW7, hZ7, hK7⟩ := HJ7.o
         have HW7 := aH hW7
         have HZ7 := aH hZ7
         have HK7 := aH hK7
         have HW3 := aH (show Win (fun b => c7 b = 3) 48 3 w7 (v7 3) H.length (H.flatMap hjrow) from by
          have q := hW7.win 3 (by omega) (by omega)
          rw [upd_far _ _ (by decide)] at q; exact q)
         have hO : Own w7 g 87 [(.slice (some ⟨mb, moff, none⟩) nm mc), v7 1, v7 2, v7 3, v7 4, .int .i64 0, v7 5, .int .i64 (e3 F2), .int .i64 0, .int .i64 (m3 F2), .int .i64 (r3 F2)] := hW7.own
         obtain ⟨n3, hn3⟩ : ∃ z, H.length = z := ⟨_, rfl⟩
         obtain ⟨X3, hX3⟩ : ∃ z, H.flatMap hjrow = z := ⟨_, rfl⟩
         rw [hn3, hX3] at HW3
         have HNX := aH (And.intro hn3 hX3)
         have hn39 : n3 ≤ 1000000 := by rw [← hn3]; have := HL.o; omega
         obtain ⟨o3, k3, hv3, -, -, -⟩ := HW3.o.form
         rw [hv3] at HW3 hO
         have HO := aH hO
         have c3 : w7.cell? ⟨g, 3, none⟩ = some (.slice o3 n3 k3) := hO.cell 3
         have c3a : (w7.alloc (.cells #[.int .i64 (i : Int), .string r.1, .int .i64 (n2 : Int)] 48)).cell? ⟨g, 3, none⟩ = some (.slice o3 n3 k3) := (hO.on_alloc _).cell 3
         have hgl := hO.lt
         have NP3 := aH (show ¬ c7 g = 3 from by rw [hW7.cg]; omega)
         have hbl7 : Below wr.heap.size wr w7 ∨ True := .inr trivial
         obtain ⟨hmb, -, -, -, -, -, -, -, -, -, dA⟩ := HD.o
         have eA := keepc dA hW7.bl
         rw [HNR.o] at eA
         have hmb2 : mb < w7.heap.size := aL hmb hW7.bl.size
         obtain ⟨hrb, f0, -⟩ := HDR.o
         have g0 := keepc f0 hW7.bl
         have hrb2 : rb < w7.heap.size := aL hrb hW7.bl.size
         obtain ⟨i0, hi0, hz0, hz1, hz2⟩ := info_parts7 info_head
         have IP := aH (And.intro hi0 (And.intro hz0 (And.intro hz1 hz2)))
         have FN := aH (fresh_news w7 48 [.int .i64 (i : Int), .string r.1, .int .i64 (n2 : Int)])
         have K1 : n3 + 1 ≤ maxLen := by unfold maxLen; omega
         have K2 : (n3 + 1) * 32 ≤ 140737488355328 := by omega
         have HI2 := aH (show IQ (P i) i m.ru RES (MN P ML MD i sj m N1 wt none) RU (k + 1) N2 (H ++ [⟨i, r.1, n2⟩]) F2 from by
          cases F2 with
          | none => exact ⟨HI.o.1, HU2.o⟩
          | some f =>
           have q : RU = (N2, some f, H ++ [⟨i, r.1, n2⟩]) := HU2.o
           have q0 : MQ P ML MD (i + 1) ⟨sj.ms ++ [m.nm], N2, H ++ [⟨i, r.1, n2⟩], sj.ws ++ [wt]⟩ (some f) := MN.next HI.o.1 (by rw [HRUQ.o]; exact q)
           have q2 : MD = (⟨sj.ms ++ [m.nm], N2, H ++ [⟨i, r.1, n2⟩], sj.ws ++ [wt]⟩, some f) := q0
           show RES = .error f
           rw [HRS.o, HQ.o.1, q2]; rfl)
         have HL2 := aH (show (H ++ [(⟨i, r.1, n2⟩ : Hj)]).length ≤ 24 * i + (k + 1) from by rw [List.length_append]; have := HL.o; simp; omega)
         clear hn3 hX3 hv3 hW7 hZ7 hK7 hO hi0 hz0 hz1 hz2 hmb dA hrb f0 hbl7
         go_upto_region 15 with fail
         go_region_law ((refine step_append_win rfl _ _ 25 rfl (fun b => c7 b = 3) 48 _ _ 3 32 Try.underlying25 IP.o.1 IP.o.2.1 IP.o.2.2.1 IP.o.2.2.2 rfl (by decide) _ n3 X3 rfl (HW3.o.below (bA _).drew) ⟨w7.heap.size, 0, none⟩ 1 1 [.int .i64 (i : Int), .string r.1, .int .i64 (n2 : Int)] rfl rfl FN.o (by intro u hu; simp at hu; rcases hu with rfl | rfl | rfl <;> rfl) K1 K2 ?_); intro v' w' hw hb; obtain ⟨vb, voff, vcap, rfl, hg2, hle2, hlt2⟩ := hw.has (by omega); have hO := aH (((HO.o.on_alloc (.cells #[.int .i64 (i : Int), .string r.1, .int .i64 (n2 : Int)] 48)).on_drew).but hb NP3.o); have q1 := hO.o.cell 3; have q2 := hO.o.thaw 3; have q3 := hO.o.lt; have hw2 := aH hw; have hb2 := aH hb; clear hw hb)
         all_goals
          have HJ8 := aH (show Jn w0 (w'.setCell ⟨g, 3, none⟩ (.slice (some ⟨vb, voff, none⟩) (n3 + 1) vcap)) g (newC c7 (w7.alloc (.cells #[.int .i64 (i : Int), .string r.1, .int .i64 (n2 : Int)] 48)).drew w' 3) (rowsJ (sj.ms ++ [m.nm]) (H ++ [⟨i, r.1, n2⟩]) (sj.ws ++ [wt]) FL) (.slice (some ⟨mb, moff, none⟩) nm mc) 0 N2 F2 from Jn.grown (rows' := rowsJ (sj.ms ++ [m.nm]) (H ++ [(⟨i, r.1, n2⟩ : Hj)]) (sj.ws ++ [wt]) FL) (v' := .slice (some ⟨vb, voff, none⟩) (n3 + 1) vcap) (i := 3) (m := 1) (news := hjrow (⟨i, r.1, n2⟩ : Hj)) HW7.o HZ7.o HK7.o (bA (.cells #[.int .i64 (i : Int), .string r.1, .int .i64 (n2 : Int)] 48)).drew (by omega) (by omega) (by omega) (by
           show Win (fun b => c7 b = 3 ∨ (w7.alloc (.cells #[.int .i64 (i : Int), .string r.1, .int .i64 (n2 : Int)] 48)).drew.heap.size ≤ b) 48 3 w' (.slice (some ⟨vb, voff, none⟩) (n3 + 1) vcap) (H.length + 1) (H.flatMap hjrow ++ hjrow ⟨i, r.1, n2⟩)
           rw [HNX.o.1, HNX.o.2]
           exact hw2.o) hb2.o (rowsJ_3 (sj.ms ++ [m.nm]) H (sj.ws ++ [wt]) FL ⟨i, r.1, n2⟩))
          clear c3 c3a hgl eA hmb2 g0 hrb2 HW3 HO NP3 IP FN K1 K2 HNX hn39 HW7 HZ7 HK7 HJ7 hO q1 q2 q3 hw2 hb2 hg2 hle2 hlt2
          generalize newC c7 _ w' 3 = c8 at *
          generalize w'.setCell ⟨g, 3, none⟩ _ = w8 at *
          go_wp2
          go_roundw
          case rel => exact ⟨k + 1, N2, H ++ [⟨i, r.1, n2⟩], F2, c8, by go_num, by omega, HI2, HJ8, HL2⟩
          case measure => simp [intOf]; omega
        ·
         have hkr1 : decide ((k : Int) < nr) = false := aF hkr
         have hkr2 : decide (k < nr) = false := aF (by omega)
         have HRD := aH (show RU = (N, none, H) from HI.o.2.done (by have := HNR.o; omega))
         have HQN := aH (show JQ P ML RES HDR MD (i + 1) ⟨sj.ms ++ [m.nm], N, H, sj.ws ++ [wt]⟩ none from ⟨HQ.o.1, MN.next HI.o.1 (by rw [HRUQ.o]; exact HRD.o)⟩)
         have HLN2 := aH (show (sj.ms ++ [m.nm]).length ≤ i + 1 ∧ (sj.ws ++ [wt]).length ≤ i + 1 ∧ H.length ≤ 24 * (i + 1) from by have h1 := HLN.o; have h2 := HL.o; exact ⟨by simp; omega, by simp; omega, by omega⟩)
         go_wp2
         first
          | exact ⟨⟨i + 1, ⟨sj.ms ++ [m.nm], N, H, sj.ws ++ [wt]⟩, none, c, by go_num, by omega, HQN, HJ, HLN2⟩, by simp [intOf]; omega⟩
          | (go_roundw
             case rel => exact ⟨i + 1, ⟨sj.ms ++ [m.nm], N, H, sj.ws ++ [wt]⟩, none, c, by go_num, by omega, HQN, HJ, HLN2⟩
             case measure => simp [intOf]; omega)
   ·
    have hin1 : decide ((i : Int) < nm) = false := aF hin
    have hin2 : decide (i < nm) = false := aF (by omega)
    have HMD9 := aH (show HDR = none ∧ MD = (sj, none) from ⟨HQ.o.1, by
     have q : MD = mdF P (ML.drop i) i sj := HQ.o.2
     rw [List.drop_eq_nil_of_le (by have := HNM.o; omega)] at q
     exact q⟩)
    have HSC := aH (HSA.o wr c (upd (rowsJ sj.ms sj.hs sj.ws FL) 2 (Z.length, Z.flatMap njrow)) v HW.o (by rw [upd_far _ _ (by decide)]; rfl))
    obtain ⟨so, hso⟩ : ∃ r, startO ML FL s = r := ⟨_, rfl⟩
    rw [hso] at HSC HRS
    have HRS9 := aH (show RES = joinR none (sj, none) so from by rw [HRS.o, HMD9.o.1, HMD9.o.2])
    clear hso
    go_wp2_with fail
    refine HSC.o.mono ?_
    rintro e w3 ⟨rfl, hst, hbu⟩
    have HBU := aH hbu
    clear hbu c7' hgl HSC HJ HO
    cases so with
    | none =>
     have HE0 : RES = .error (5, -1, -1) := HRS9.o
     obtain ⟨f, hf⟩ : ∃ f : Ft3, f = (5, -1, -1) := ⟨_, rfl⟩
     have hst : Wk w0 w3 g c (upd (rowsJ sj.ms sj.hs sj.ws FL) 2 (Z.length, Z.flatMap njrow)) v (.slice mo nm mc) 0 (some (5, -1, -1)) := hst
     rw [← hf] at hst HE0
     have HE := aH HE0
     have HW9 := aH hst
     have ho : Own w3 g 87 [.slice mo nm mc, v 1, v 2, v 3, v 4, .int .i64 0, v 5, .int .i64 (e3 (some f)), .int .i64 0, .int .i64 (m3 (some f)), .int .i64 (r3 (some f))] := hst.own
     have c7' : w3.cell? ⟨g, 7, none⟩ = some (.int .i64 f.1) := ho.cell 7
     have hgl := ho.lt
     have HO9 := aH ho
     have hf0 : f.1 ≠ 0 := hst.nz f rfl
     have ef : (f.1 == 0) = false := aN.2 hf0
     have ef2 : (f.1 != 0) = true := bne_iff_ne.2 hf0
     clear hf ho hst HE0 hf0 HW HK HZ
     have HW := HW9
     have HO := HO9
     have HJ := HW9
     have HZ := HW9
     have HK := HW9
     go_upto_region 19 with fail
     have hoc : Own w3 g 87 [.slice mo nm mc, v 1, v 2, v 3, v 4, .int .i64 0, v 5, .int .i64 f.1, .int .i64 0, .int .i64 f.2.1, .int .i64 f.2.2] := HO.o
     have c8 : w3.cell? ⟨g, 8, none⟩ = some (.int .i64 0) := hoc.cell 8
     have c9 : w3.cell? ⟨g, 9, none⟩ = some (.int .i64 f.2.1) := hoc.cell 9
     have cA : w3.cell? ⟨g, 10, none⟩ = some (.int .i64 f.2.2) := hoc.cell 10
     have hGA := HG0.o.under (HW.o.bl.mono (by have := HG.o.2.1; omega)) HG0.o.lt
     have hFA := HF0.o.under (HW.o.bl.mono (by have := HG.o.2.1; omega)) HF0.o.lt
     have HGA := aH hGA
     have HFA := aH hFA
     have ne1 : ¬ A = Fb := by have := HG.o.2.2; omega
     have ne2 : ¬ Fb = A := fun e => ne1 e.symm
     have ne3 : ¬ A = g := by have := HG.o.1; omega
     have ne4 : ¬ g = A := fun e => ne3 e.symm
     have ne5 : ¬ Fb = g := by have := HG.o.1; have := HG.o.2.2; omega
     have ne6 : ¬ g = Fb := fun e => ne5 e.symm
     obtain ⟨x0, x1, x2, x3, x4⟩ : w3.cell? ⟨A, 0, none⟩ = some (.slice none 0 0) ∧ w3.cell? ⟨A, 1, none⟩ = some (.slice none 0 0) ∧ w3.cell? ⟨A, 2, none⟩ = some (.slice none 0 0) ∧ w3.cell? ⟨A, 3, none⟩ = some (.slice none 0 0) ∧ w3.cell? ⟨A, 4, none⟩ = some (.int .i64 0) := ⟨hGA.cell 0, hGA.cell 1, hGA.cell 2, hGA.cell 3, hGA.cell 4⟩
     obtain ⟨t0, t1, t2, t3, t4⟩ : w3.frozen? ⟨A, 0, none⟩ = false ∧ w3.frozen? ⟨A, 1, none⟩ = false ∧ w3.frozen? ⟨A, 2, none⟩ = false ∧ w3.frozen? ⟨A, 3, none⟩ = false ∧ w3.frozen? ⟨A, 4, none⟩ = false := ⟨hGA.thaw 0, hGA.thaw 1, hGA.thaw 2, hGA.thaw 3, hGA.thaw 4⟩
     have xl := hGA.lt
     obtain ⟨y0, y1, y2, y3, u0, u1, u2, u3⟩ := hFA.four
     have yl := hFA.lt
     have HNF := aH (HW.o.nz f rfl)
     have HBZ := aH (show Below A w w3 from HB0.o.trans (HW.o.bl.mono (by have := HG.o.1; have := HG.o.2.1; omega)))
     clear hGA hFA hoc
     go_region
     rw [set5_fold, set4_fold]
     have HGZ := aH (((HGA.o.put5 (.slice none 0 0) (.slice none 0 0) (.slice none 0 0) (.slice none 0 0) (.int .i64 0)).but (But.set4 _ Fb (.int .i64 f.1) (.int .i64 0) (.int .i64 f.2.1) (.int .i64 f.2.2)) ne1).on_drew)
     have HFZ := aH (((HFA.o.but (But.set5 w3 A (.slice none 0 0) (.slice none 0 0) (.slice none 0 0) (.slice none 0 0) (.int .i64 0)) ne2).put4 (u0 := .int .i64 f.1) (u1 := .int .i64 0) (u2 := .int .i64 f.2.1) (u3 := .int .i64 f.2.2)).on_drew)
     have HBY := aH (HBZ.o.trans ((((But.refl (fun j => j = A ∨ j = Fb) w3).trans (But.set5 w3 A (.slice none 0 0) (.slice none 0 0) (.slice none 0 0) (.slice none 0 0) (.int .i64 0)) (fun j _ h => .inl h)).trans (But.set4 _ Fb (.int .i64 f.1) (.int .i64 0) (.int .i64 f.2.1) (.int .i64 f.2.2)) (fun j _ h => .inr h)).drew.below (B := A) (by omega) (fun j h => by have := HG.o.2.2; rcases h with h | h <;> omega)))
     clear x0 x1 x2 x3 x4 t0 t1 t2 t3 t4 y0 y1 y2 y3 u0 u1 u2 u3 xl yl c7' c8 c9 cA HGA HFA HBZ HW HO HZ HK HJ
     generalize World.drew (set4 (set5 _ A _ _ _ _ _) Fb _ _ _ _) = w99 at *
     have hgz := HGZ.o
     obtain ⟨x0, x1, x2, x3, x4⟩ : w99.cell? ⟨A, 0, none⟩ = some (.slice none 0 0) ∧ w99.cell? ⟨A, 1, none⟩ = some (.slice none 0 0) ∧ w99.cell? ⟨A, 2, none⟩ = some (.slice none 0 0) ∧ w99.cell? ⟨A, 3, none⟩ = some (.slice none 0 0) ∧ w99.cell? ⟨A, 4, none⟩ = some (.int .i64 0) := ⟨hgz.cell 0, hgz.cell 1, hgz.cell 2, hgz.cell 3, hgz.cell 4⟩
     obtain ⟨y0, y1, y2, y3, -⟩ := HFZ.o.four
     go_wp2
     refine bodyPost_ret (by simp [results, Try.results29, go_sem, x0, x1, x2, x3, x4, y0, y1, y2, y3]; rfl) rfl ?_
     rw [HE.o, HA.o]
     exact ⟨⟨rfl, HNF.o⟩, HBY.o⟩
    | some st =>
     have HE := aH (show RES = .ok ⟨sj.ms, sj.ns, sj.hs, sj.ws, st⟩ from HRS9.o)
     have HW3 := aH (show Wk w0 w3 g c (upd (rowsJ sj.ms sj.hs sj.ws FL) 2 (Z.length, Z.flatMap njrow)) v (.slice mo nm mc) st none from hst)
     have hj3 : Jn w0 w3 g c (rowsJ sj.ms sj.hs sj.ws FL) (.slice mo nm mc) st sj.ns none := ⟨v, Z, HW3.o, HZ.o, kids_keep HK.o HBU.o (fun b _ h7 e => by have e : b = g := e; rw [e, HW.o.cg] at h7; omega) (Agree.refl _ _)⟩
     obtain ⟨ga, hga, hgr⟩ := hj3.hasG
     have HGR := aH hgr
     have c1 : w3.cell? ⟨g, 1, none⟩ = some (.slice ga.mo sj.ms.length ga.mc) := hga.cell 1
     have c2 : w3.cell? ⟨g, 2, none⟩ = some (.slice ga.no sj.ns.length ga.nc) := hga.cell 2
     have c3 : w3.cell? ⟨g, 3, none⟩ = some (.slice ga.ho sj.hs.length ga.hc) := hga.cell 3
     have c4 : w3.cell? ⟨g, 4, none⟩ = some (.slice ga.wo sj.ws.length ga.wc) := hga.cell 4
     have c5 : w3.cell? ⟨g, 5, none⟩ = some (.int .i64 st) := hga.cell 5
     have c7 : w3.cell? ⟨g, 7, none⟩ = some (.int .i64 0) := hga.cell 7
     have hgl := hga.lt
     have hGA := HG0.o.under (HW3.o.bl.mono (by have := HG.o.2.1; omega)) HG0.o.lt
     have hFA := HF0.o.under (HW3.o.bl.mono (by have := HG.o.2.1; omega)) HF0.o.lt
     have HGA := aH hGA
     have HFA := aH hFA
     have ne1 : ¬ A = Fb := by have := HG.o.2.2; omega
     have ne2 : ¬ Fb = A := fun e => ne1 e.symm
     have ne3 : ¬ A = g := by have := HG.o.1; omega
     have ne4 : ¬ g = A := fun e => ne3 e.symm
     have ne5 : ¬ Fb = g := by have := HG.o.1; have := HG.o.2.2; omega
     have ne6 : ¬ g = Fb := fun e => ne5 e.symm
     obtain ⟨x0, x1, x2, x3, x4⟩ : w3.cell? ⟨A, 0, none⟩ = some (.slice none 0 0) ∧ w3.cell? ⟨A, 1, none⟩ = some (.slice none 0 0) ∧ w3.cell? ⟨A, 2, none⟩ = some (.slice none 0 0) ∧ w3.cell? ⟨A, 3, none⟩ = some (.slice none 0 0) ∧ w3.cell? ⟨A, 4, none⟩ = some (.int .i64 0) := ⟨hGA.cell 0, hGA.cell 1, hGA.cell 2, hGA.cell 3, hGA.cell 4⟩
     obtain ⟨t0, t1, t2, t3, t4⟩ : w3.frozen? ⟨A, 0, none⟩ = false ∧ w3.frozen? ⟨A, 1, none⟩ = false ∧ w3.frozen? ⟨A, 2, none⟩ = false ∧ w3.frozen? ⟨A, 3, none⟩ = false ∧ w3.frozen? ⟨A, 4, none⟩ = false := ⟨hGA.thaw 0, hGA.thaw 1, hGA.thaw 2, hGA.thaw 3, hGA.thaw 4⟩
     have xl := hGA.lt
     obtain ⟨y0, y1, y2, y3, u0, u1, u2, u3⟩ := hFA.four
     have yl := hFA.lt
     have HBZ := aH (show Below A w w3 from HB0.o.trans (HW3.o.bl.mono (by have := HG.o.1; have := HG.o.2.1; omega)))
     clear hGA hFA hga hgr hj3 hst
     go_wp2
     rw [set5_fold, set4_fold]
     have HGZ := aH ((HGA.o.put5 (.slice ga.mo sj.ms.length ga.mc) (.slice ga.no sj.ns.length ga.nc) (.slice ga.ho sj.hs.length ga.hc) (.slice ga.wo sj.ws.length ga.wc) (.int .i64 st)).but (But.set4 _ Fb (.int .i64 0) (.int .i64 0) (.int .i64 0) (.int .i64 0)) ne1)
     have HFZ := aH ((HFA.o.but (But.set5 w3 A (.slice ga.mo sj.ms.length ga.mc) (.slice ga.no sj.ns.length ga.nc) (.slice ga.ho sj.hs.length ga.hc) (.slice ga.wo sj.ws.length ga.wc) (.int .i64 st)) ne2).put4 (u0 := .int .i64 0) (u1 := .int .i64 0) (u2 := .int .i64 0) (u3 := .int .i64 0))
     have hbz : But (fun j => j = A ∨ j = Fb) w3 (set4 (set5 w3 A (.slice ga.mo sj.ms.length ga.mc) (.slice ga.no sj.ns.length ga.nc) (.slice ga.ho sj.hs.length ga.hc) (.slice ga.wo sj.ws.length ga.wc) (.int .i64 st)) Fb (.int .i64 0) (.int .i64 0) (.int .i64 0) (.int .i64 0)) := ((But.refl (fun j => j = A ∨ j = Fb) w3).trans (But.set5 w3 A (.slice ga.mo sj.ms.length ga.mc) (.slice ga.no sj.ns.length ga.nc) (.slice ga.ho sj.hs.length ga.hc) (.slice ga.wo sj.ws.length ga.wc) (.int .i64 st)) (fun j _ h => .inl h)).trans (But.set4 _ Fb (.int .i64 0) (.int .i64 0) (.int .i64 0) (.int .i64 0)) (fun j _ h => .inr h)
     have HBY := aH (HBZ.o.trans (hbz.below (B := A) (by omega) (fun j h => by have := HG.o.2.2; rcases h with h | h <;> omega)))
     have HGF := aH ((HGR.o.but hbz (fun j _ hj h => by have := HG.o.1; have := HG.o.2.1; have := HG.o.2.2; rcases h with h | h <;> omega)).mono (T := fun b => A ≤ b) (fun b _ h => by have := HG.o.1; have := HG.o.2.1; omega))
     clear hbz x0 x1 x2 x3 x4 t0 t1 t2 t3 t4 y0 y1 y2 y3 u0 u1 u2 u3 xl yl c1 c2 c3 c4 c5 c7 hgl HGA HFA HBZ HW HZ HK HGR HW3
     generalize set4 (set5 _ A _ _ _ _ _) Fb _ _ _ _ = w99 at *
     have hgz := HGZ.o
     obtain ⟨x0, x1, x2, x3, x4⟩ : w99.cell? ⟨A, 0, none⟩ = some (.slice ga.mo sj.ms.length ga.mc) ∧ w99.cell? ⟨A, 1, none⟩ = some (.slice ga.no sj.ns.length ga.nc) ∧ w99.cell? ⟨A, 2, none⟩ = some (.slice ga.ho sj.hs.length ga.hc) ∧ w99.cell? ⟨A, 3, none⟩ = some (.slice ga.wo sj.ws.length ga.wc) ∧ w99.cell? ⟨A, 4, none⟩ = some (.int .i64 st) := ⟨hgz.cell 0, hgz.cell 1, hgz.cell 2, hgz.cell 3, hgz.cell 4⟩
     obtain ⟨y0, y1, y2, y3, -⟩ := HFZ.o.four
     refine bodyPost_ret (by simp [results, Try.results29, go_sem, x0, x1, x2, x3, x4, y0, y1, y2, y3]; rfl) rfl ?_
     rw [HE.o, HA.o]
     exact ⟨⟨ga, rfl, HGF.o⟩, HBY.o⟩
end Go.Proofs.Ytbjgojdpfehnmaa
