import Derived.Test.YtbjgojdpfehnmaaJnI
namespace Go.Proofs.Ytbjgojdpfehnmaa
set_option linter.unusedVariables false
open Go.RowKit Go.Sort
def StQ (w0 w' : World) (g : Nat) (ct : Nat → Nat) (rows : Rw) (v : Nat → Value) (lv : Value) : Option Int → Prop
 | some st => Wk w0 w' g ct rows v lv st none
 | none => Wk w0 w' g ct rows v lv 0 (some (5, -1, -1))
set_option maxRecDepth 1000000 in
set_option maxHeartbeats 6400000 in
theorem jstart_any (ML : List Md) (FL : List Nat) (mo : Option Addr) (mc : Nat) (w0 : World) (D0 : Nat) (hM : HasMs w0 D0 mo ML) (hok : ∀ m ∈ ML, Okm m) (h5 : ML.length ≤ 5) (hfew : Few ML) (hFL : FL.length = ML.length) (hFb : ∀ x ∈ FL, x ≤ 1000000000) (s : ByteArray) (hs : s.size ≤ 1000000) (g : Nat) (w : World) (ct : Nat → Nat) (rows : Rw) (v : Nat → Value) (h : Wk w0 w g ct rows v (.slice mo ML.length mc) 0 none) (hr5 : rows 5 = (FL.length, knrow FL)) :
  Calls Try.prog 49 #[.pointer (some ⟨g, 0, none⟩), .string s] w fun e w' => e = .returned (.tuple #[]) ∧ StQ w0 w' g ct rows v (.slice mo ML.length mc) (startO ML FL s) ∧ But (fun j => j = g) w w' := by
 have HSP := aH (rsplit_any s hs w)
 have HFI := aH (fun (x : ByteArray) W (hW : HasMs W D0 mo ML) => rfind_any ML D0 mo mc x (by omega) W hW)
 have HRV := aH (fun (W : World) (hW : HasMs W D0 mo ML) => rresolve_any ML D0 mo mc 0 s hs hfew W hW)
 have HMS := aH (fun (W : World) (h : Below w0.heap.size w0 W) => hM.below h)
 have HOK := aH hok
 have HFB := aH hFb
 have HR5 := aH hr5
 obtain ⟨nm, hnm⟩ : ∃ n, ML.length = n := ⟨_, rfl⟩
 have HNM := aH hnm
 have HFL := aH (show FL.length = nm from hFL.trans hnm)
 obtain ⟨RES, hRES⟩ : ∃ r, startO ML FL s = r := ⟨_, rfl⟩
 obtain ⟨sb, hsb⟩ : ∃ z, splitB s = z := ⟨_, rfl⟩
 obtain ⟨sm, hsm⟩ : ∃ z, splitM s = z := ⟨_, rfl⟩
 obtain ⟨sr, hsr⟩ : ∃ z, splitR s = z := ⟨_, rfl⟩
 have HST := aH (show RES = if sb = true then
   (if sm.toList = [] then (match resO ML 0 s with
    | (m, r, true) => some ((FL.getD m.toNat 0 : Nat) + r)
    | (_, _, false) => none)
   else if 0 ≤ findN ML sm then
    (if 0 ≤ ruleAt ML (findN ML sm) sr then some ((FL.getD (findN ML sm).toNat 0 : Nat) + ruleAt ML (findN ML sm) sr) else none)
   else none)
  else none from by rw [← hRES, ← hsb, ← hsm, ← hsr]; rfl)
 rw [hsb, hsm, hsr] at HSP
 have HW := aH h
 rw [hnm] at HFI HRV HW h5
 rw [hRES, hnm]
 clear hM hok hFb hr5 hfew hFL hRES hsb hsm hsr h hnm
 go_enter Try.func49, Try.ntmps49
 go_wp2_with fail
 refine HSP.o.mono ?_
 rintro e w1 ⟨rfl, hb1⟩
 have HB1 := aH hb1
 have HW1 := aH (HW.o.below hb1)
 clear hb1 HSP HW
 cases sb with
 | false =>
  have HE := aH (show RES = none from by rw [HST.o]; rfl)
  go_wp2_with fail
  refine (jfail_any 5 (-1) (-1) (by decide) HW1.o).mono ?_
  rintro e w9 ⟨rfl, hW9, hb9⟩
  have HW9 := aH hW9
  have HB9 := aH hb9
  clear hW9 hb9
  go_wp2
  first
   | (refine bodyPost_ret (results_none rfl _ _ _) rfl ?_; rw [HE.o]; exact ⟨rfl, HW9.o, (But.of_below HB1.o).trans HB9.o (fun b _ h => h)⟩)
   | (go_end0; rw [HE.o]; exact ⟨rfl, HW9.o, (But.of_below HB1.o).trans HB9.o (fun b _ h => h)⟩)
 | true =>
  have ho : Own w1 g 87 [.slice mo nm mc, v 1, v 2, v 3, v 4, .int .i64 0, v 5, .int .i64 0, .int .i64 0, .int .i64 0, .int .i64 0] := HW1.o.own
  have c0 : w1.cell? ⟨g, 0, none⟩ = some (.slice mo nm mc) := ho.cell 0
  have hgl := ho.lt
  obtain ⟨ze, hze⟩ : ∃ z, (sm.toList == ([] : List UInt8)) = z := ⟨_, rfl⟩
  have hze2 : sm.toList.isEmpty = ze := by rw [← hze]; generalize sm.toList = l; cases l <;> rfl
  cases ze with
  | true =>
   have hse : sm.toList = [] := by simpa using hze
   obtain ⟨⟨rm, rr, rb⟩, hr⟩ : ∃ r, resO ML 0 s = r := ⟨_, rfl⟩
   have HST2 := aH (show RES = (match (rm, rr, rb) with
     | (m, r, true) => some ((FL.getD m.toNat 0 : Nat) + r)
     | (_, _, false) => none) from by rw [HST.o, if_pos rfl, if_pos hse, hr]; cases rb <;> rfl)
   have HRR := aH hr
   have HRC := aH (HRV.o w1 (HMS.o w1 HW1.o.bl))
   rw [hr] at HRC
   unfold rvV at HRC
   clear hr hse ho
   go_wp2_with fail
   refine HRC.o.mono ?_
   rintro e w2 ⟨rfl, hb2⟩
   have HB2 := aH (HB1.o.trans (hb2.mono HB1.o.size))
   have HW2 := aH (HW1.o.below hb2)
   clear hb2 c0 hgl HRC
   cases rb with
   | false =>
    have HE := aH (show RES = none from HST2.o)
    go_wp2_with fail
    refine (jfail_any 5 (-1) (-1) (by decide) HW2.o).mono ?_
    rintro e w9 ⟨rfl, hW9, hb9⟩
    have HW9 := aH hW9
    have HB9 := aH hb9
    clear hW9 hb9
    go_wp2
    first
     | (refine bodyPost_ret (results_none rfl _ _ _) rfl ?_; rw [HE.o]; exact ⟨rfl, HW9.o, (But.of_below HB2.o).trans HB9.o (fun b _ h => h)⟩)
     | (go_end0; rw [HE.o]; exact ⟨rfl, HW9.o, (But.of_below HB2.o).trans HB9.o (fun b _ h => h)⟩)
   | true =>
    obtain ⟨mm, md, hmm, hmd, -, hr0', hr1⟩ := resO_bd HRR.o
    subst hmm
    have hmmn : mm < nm := by have := (aS.1 hmd).1; have := HNM.o; omega
    have hrr : rr ≤ 24 := by have := (HOK.o md (aM hmd)).2.2; omega
    have HV := aH (show RES = some ((FL.getD mm 0 : Nat) + rr) from HST2.o)
    clear hmd hr1
    obtain ⟨fx, hfx⟩ : ∃ x, FL[mm]? = some x := ⟨_, aG (by have := HFL.o; omega)⟩
    have hfb : fx ≤ 1000000000 := HFB.o fx (aM hfx)
    have HE := aH (show RES = some ((fx : Int) + rr) from by rw [HV.o, List.getD_eq_getElem?_getD, hfx]; rfl)
    have HWF := aH (show Win (fun b => ct b = 5) 3 1 w2 (v 5) FL.length (knrow FL) from by
     have q := HW2.o.win 5 (by omega) (by omega)
     rw [HR5.o] at q; exact q)
    obtain ⟨fo, fc, hv5, -, -, -⟩ := HWF.o.form
    have hkf := HWF.o
    rw [hv5] at hkf
    obtain ⟨fb, foff, hfo, hfl, -, f0⟩ := hasKn_of hkf mm fx hfx
    have ho : Own w2 g 87 [.slice (mo) nm mc, v 1, v 2, v 3, v 4, .int .i64 0, v 5, .int .i64 0, .int .i64 0, .int .i64 0, .int .i64 0] := HW2.o.own
    have c6 : w2.cell? ⟨g, 6, none⟩ = some (.slice (some ⟨fb, foff, none⟩) nm fc) := by have q := ho.cell 6; rw [q, ← hfo, ← HFL.o]; exact congrArg some hv5
    have c5 : w2.cell? ⟨g, 5, none⟩ = some (.int .i64 0) := ho.cell 5
    have t5 : w2.frozen? ⟨g, 5, none⟩ = false := ho.thaw 5
    have hgl := ho.lt
    have hwr : IntKind.i64.wrap ((fx : Int) + rr) = (fx : Int) + rr := wI
    have hmi : decide ((mm : Int) < (nm : Int)) = true := aT (by omega)
    have hmin : decide (mm < nm) = true := aT (by omega)
    have hr0 : decide (rr < 0) = false := aF (by omega)
    have HW9 := aH (show Wk w0 (w2.setCell ⟨g, 5, none⟩ (.int .i64 ((fx : Int) + rr))) g ct rows v (.slice (mo) nm mc) ((fx : Int) + rr) none from HW2.o.turn (But.put w2 g 5 _) (ho.put 5 _) (fun f e => by cases e))
    clear hfx hkf hfo ho hv5 HWF
    go_wp2
    first
     | (refine bodyPost_ret (results_none rfl _ _ _) rfl ?_; rw [HE.o]; exact ⟨rfl, HW9.o, (But.of_below HB2.o).trans (But.put w2 g 5 _) (fun b _ h => h)⟩)
     | (go_end0; rw [HE.o]; exact ⟨rfl, HW9.o, (But.of_below HB2.o).trans (But.put w2 g 5 _) (fun b _ h => h)⟩)
  | false =>
   have hse : ¬ sm.toList = [] := by simpa using hze
   obtain ⟨q, hq⟩ : ∃ z, findN ML sm = z := ⟨_, rfl⟩
   have HST2 := aH (show RES = if 0 ≤ q then (if 0 ≤ ruleAt ML q sr then some ((FL.getD q.toNat 0 : Nat) + ruleAt ML q sr) else none) else none from by rw [HST.o, if_pos rfl, if_neg hse, hq])
   have HFC := aH (HFI.o sm w1 (HMS.o w1 HW1.o.bl))
   have hqn : q < nm := by
    have hb := idxF_bd (fun m : Md => m.nm.toList == sm.toList) 0 ML
    rcases hb with h | h
    ·
     have h : findN ML sm = -1 := h
     omega
    ·
     have h2 : findN ML sm < ((0 : Nat) : Int) + ML.length := h.2
     have := HNM.o; omega
   rw [hq] at HFC
   clear hq hse ho
   go_wp2_with fail
   refine HFC.o.mono ?_
   rintro e w2 ⟨rfl, rfl⟩
   by_cases hq0 : 0 ≤ q
   ·
    have hq1 : decide (0 ≤ q) = true := aT hq0
    obtain ⟨mm, rfl⟩ : ∃ k : Nat, q = (k : Int) := ⟨q.toNat, by omega⟩
    have hmmn : mm < nm := by omega
    obtain ⟨m, hm⟩ : ∃ m, ML[mm]? = some m := ⟨_, aG (by have := HNM.o; omega)⟩
    obtain ⟨nn, hMr⟩ := HMS.o w1 HW1.o.bl
    obtain ⟨mb, moff, io, ic, ko, kc, ro, rc, hmo, hmb, -, d0, d1, d2, d3, d4, d5, d6, d7, d8, d9, dA, -, -, hru⟩ := hMr mm m hm
    have h24 := (HOK.o m (aM hm)).2.2
    have HRC := aH (rrule_any m D0 nn io ic ko kc ro rc sr (by omega) w1 hru)
    obtain ⟨rr, hrr⟩ : ∃ z, ruleN m sr = z := ⟨_, rfl⟩
    have hrb := ruleN_bd m sr
    rw [hrr] at HRC hrb
    have HST3 := aH (show RES = if 0 ≤ rr then some ((FL.getD mm 0 : Nat) + rr) else none from by rw [HST2.o, if_pos hq0, ruleAt_eq sr (by rw [Int.toNat_natCast]; exact hm), hrr, Int.toNat_natCast])
    have hmi9 : decide ((mm : Int) < (nm : Int)) = true := aT (by omega)
    have hmin9 : decide (mm < nm) = true := aT (by omega)
    subst hmo
    clear hm hMr hru hrr
    go_wp2_with fail
    refine HRC.o.mono ?_
    rintro e w3 ⟨rfl, hb3⟩
    have HB3 := aH (HB1.o.trans (hb3.mono HB1.o.size))
    have HW3 := aH (HW1.o.below hb3)
    clear hb3 d0 d1 d2 d3 d4 d5 d6 d7 d8 d9 dA c0 hgl hmb HRC
    by_cases hr0' : 0 ≤ rr
    ·
     have hrr : rr ≤ 24 := by omega
     have HV := aH (show RES = some ((FL.getD mm 0 : Nat) + rr) from HST3.o.trans (if_pos hr0'))
     obtain ⟨fx, hfx⟩ : ∃ x, FL[mm]? = some x := ⟨_, aG (by have := HFL.o; omega)⟩
     have hfb : fx ≤ 1000000000 := HFB.o fx (aM hfx)
     have HE := aH (show RES = some ((fx : Int) + rr) from by rw [HV.o, List.getD_eq_getElem?_getD, hfx]; rfl)
     have HWF := aH (show Win (fun b => ct b = 5) 3 1 w3 (v 5) FL.length (knrow FL) from by
      have q := HW3.o.win 5 (by omega) (by omega)
      rw [HR5.o] at q; exact q)
     obtain ⟨fo, fc, hv5, -, -, -⟩ := HWF.o.form
     have hkf := HWF.o
     rw [hv5] at hkf
     obtain ⟨fb, foff, hfo, hfl, -, f0⟩ := hasKn_of hkf mm fx hfx
     have ho : Own w3 g 87 [.slice (some ⟨mb, moff, none⟩) nm mc, v 1, v 2, v 3, v 4, .int .i64 0, v 5, .int .i64 0, .int .i64 0, .int .i64 0, .int .i64 0] := HW3.o.own
     have c6 : w3.cell? ⟨g, 6, none⟩ = some (.slice (some ⟨fb, foff, none⟩) nm fc) := by have q := ho.cell 6; rw [q, ← hfo, ← HFL.o]; exact congrArg some hv5
     have c5 : w3.cell? ⟨g, 5, none⟩ = some (.int .i64 0) := ho.cell 5
     have t5 : w3.frozen? ⟨g, 5, none⟩ = false := ho.thaw 5
     have hgl := ho.lt
     have hwr : IntKind.i64.wrap ((fx : Int) + rr) = (fx : Int) + rr := wI
     have hmi : decide ((mm : Int) < (nm : Int)) = true := aT (by omega)
     have hmin : decide (mm < nm) = true := aT (by omega)
     have hr0 : decide (rr < 0) = false := aF (by omega)
     have HW9 := aH (show Wk w0 (w3.setCell ⟨g, 5, none⟩ (.int .i64 ((fx : Int) + rr))) g ct rows v (.slice (some ⟨mb, moff, none⟩) nm mc) ((fx : Int) + rr) none from HW3.o.turn (But.put w3 g 5 _) (ho.put 5 _) (fun f e => by cases e))
     clear hfx hkf hfo ho hv5 HWF
     go_wp2
     first
      | (refine bodyPost_ret (results_none rfl _ _ _) rfl ?_; rw [HE.o]; exact ⟨rfl, HW9.o, (But.of_below HB3.o).trans (But.put w3 g 5 _) (fun b _ h => h)⟩)
      | (go_end0; rw [HE.o]; exact ⟨rfl, HW9.o, (But.of_below HB3.o).trans (But.put w3 g 5 _) (fun b _ h => h)⟩)
    ·
     have hr1 : decide (rr < 0) = true := aT (by omega)
     have HE := aH (show RES = none from HST3.o.trans (if_neg hr0'))
     go_wp2_with fail
     refine (jfail_any 5 (-1) (-1) (by decide) HW3.o).mono ?_
     rintro e w9 ⟨rfl, hW9, hb9⟩
     have HW9 := aH hW9
     have HB9 := aH hb9
     clear hW9 hb9
     go_wp2
     first
      | (refine bodyPost_ret (results_none rfl _ _ _) rfl ?_; rw [HE.o]; exact ⟨rfl, HW9.o, (But.of_below HB3.o).trans HB9.o (fun b _ h => h)⟩)
      | (go_end0; rw [HE.o]; exact ⟨rfl, HW9.o, (But.of_below HB3.o).trans HB9.o (fun b _ h => h)⟩)
   ·
    have hq1 : decide (0 ≤ q) = false := aF hq0
    have HE := aH (show RES = none from HST2.o.trans (if_neg hq0))
    go_wp2_with fail
    refine (jfail_any 5 (-1) (-1) (by decide) HW1.o).mono ?_
    rintro e w9 ⟨rfl, hW9, hb9⟩
    have HW9 := aH hW9
    have HB9 := aH hb9
    clear hW9 hb9
    go_wp2
    first
     | (refine bodyPost_ret (results_none rfl _ _ _) rfl ?_; rw [HE.o]; exact ⟨rfl, HW9.o, (But.of_below HB1.o).trans HB9.o (fun b _ h => h)⟩)
     | (go_end0; rw [HE.o]; exact ⟨rfl, HW9.o, (But.of_below HB1.o).trans HB9.o (fun b _ h => h)⟩)
end Go.Proofs.Ytbjgojdpfehnmaa
