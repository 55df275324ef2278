/- The program's reader: a sea, a label, a part. The program's reader: expressions in a row, beside a cell of its own; several. -/
import Derived.Test.YtonknapfndaalaaKrc
namespace Go.Proofs.Ytonknapfndaalaa
set_option linter.unusedVariables false
set_option maxRecDepth 1000000
open Go.RowKit Go.Sort
theorem oft_bd {L : List Tok} {X : Nat → Rs} {op : Int} (hNB : ∀ j, (tkA L j).kd ≠ 0 → j + 1 < L.length) (HB1 : ∀ j x m, oneP L X op j = .ok (x, m) → m < L.length) (j : Nat) (x : Ex) (m : Nat) (h : oftP L X op j = .ok (x, m)) : m < L.length := by
 unfold oftP at h
 cases hq : oneP L X op j with
 | error e => rw [hq] at h; cases h
 | ok p =>
  obtain ⟨y, i⟩ := p
  rw [hq] at h
  have hi := HB1 j y i hq
  have hs : ∀ s, isS L i s = true → i + 1 < L.length := fun s hs => hNB i (by rw [isS_kd4 hs]; decide)
  unfold oftT at h
  simp only at h
  split at h
  ·
   rename_i g; injection h with h; injection h with h1 h2; rw [← h2]; exact hs _ g
  split at h
  ·
   rename_i g; injection h with h; injection h with h1 h2; rw [← h2]; exact hs _ g
  split at h
  ·
   rename_i g; injection h with h; injection h with h1 h2; rw [← h2]; exact hs _ g
  ·
   injection h with h; injection h with h1 h2; rw [← h2]; exact hi
def seaT (L : List Tok) : Rs → Rs
 | .error e => .error e
 | .ok (e, m) => if isS L m (⟨#[126]⟩ : ByteArray).data.toList = true then .ok (e, m + 1) else badF L 2 m
def seaP (L : List Tok) (X : Nat → Rs) (op : Int) (k : Nat) : Rs := seaT L (witT 13 ⟨#[]⟩ (oftP L X op k))
def labT (L : List Tok) (X : Nat → Rs) (op : Int) (k : Nat) : Option ByteArray → Rs
 | some v => witT 12 v (oftP L X op (k + 2))
 | none => badF L 2 k
def labP (L : List Tok) (X : Nat → Rs) (op : Int) (k : Nat) : Rs := labT L X op k (nmeP L k)
def partP (L : List Tok) (X : Nat → Rs) (op : Int) (k : Nat) : Rs :=
 if isS L k (⟨#[38]⟩ : ByteArray).data.toList = true then witT 9 ⟨#[]⟩ (oftP L X op (k + 1)) else if isS L k (⟨#[33]⟩ : ByteArray).data.toList = true then witT 10 ⟨#[]⟩ (oftP L X op (k + 1))
 else if isS L k (⟨#[126]⟩ : ByteArray).data.toList = true then seaP L X op (k + 1) else if labO L k = true then labP L X op k else oftP L X op k
theorem wit_ok {o : Int} {tx : ByteArray} {r : Rs} {x : Ex} {m : Nat} (h : witT o tx r = .ok (x, m)) : ∃ e, r = .ok (e, m) := by
 cases r with
 | error e => cases h
 | ok p =>
  obtain ⟨y, i⟩ := p
  injection h with h; injection h with h1 h2
  exact ⟨y, by rw [h2]⟩
set_option maxRecDepth 1000000 in
set_option maxHeartbeats 3200000 in
theorem rq_sea (HW : WordOk) (g : Nat) (lo : Option Addr) (lc : Nat) (L : List Tok) (k : Nat) (op : Int) (hop : 0 ≤ op ∧ op ≤ 12) (hn : (L.length : Int) ≤ 90000) (hNB : ∀ j, (tkA L j).kd ≠ 0 → j + 1 < L.length) (hk : k < L.length) (htx : ∀ t ∈ L, t.tx.size ≤ 1000000) (X : Nat → Rs) (HXB : ∀ j x m, X j = .ok (x, m) → m < L.length) (HX : op ≠ 12 → ∀ m, m < L.length → ∀ W, Rq W g lo lc L m (op + 1) none → Calls Try.prog 26 #[.pointer (some ⟨g, 0, none⟩)] W fun e w' => OutP W g lo lc L (op + 1) (X m) e w') (HB1 : ∀ j x m, oneP L X op j = .ok (x, m) → m < L.length) (w : World) (h : Rq w g lo lc L k op none) :
  Calls Try.prog 83 #[.pointer (some ⟨g, 0, none⟩)] w fun e w' => OutP w g lo lc L op (seaP L X op k) e w' := by
 obtain ⟨RES, hRES⟩ : ∃ r, seaP L X op k = r := ⟨_, rfl⟩
 rw [hRES]
 unfold seaP at hRES
 have HWI := Lib.hid (fun o tx j (hj : j < L.length) W hW => rq_wit HW o tx g lo lc L j op hop hn hNB hj htx X HXB HX (HB1 j) W hW)
 have HTK := Lib.hid (fun s j (hj : j < L.length) W hW => rq_take s g lo lc L j op none (by omega) hj W hW)
 have HST := Lib.hid (fun j (hj : j < L.length) W hW => rq_stop 2 g lo lc L j op none (by omega) hj W hW)
 have HBO := Lib.hid (fun x m (h : witT 13 ⟨#[]⟩ (oftP L X op k) = .ok (x, m)) => show m < L.length from by obtain ⟨e, he⟩ := wit_ok h; exact oft_bd hNB HB1 k e m he)
 clear HX HXB htx hNB HW HB1
 have HH := Lib.hid h
 have hbl : Below w.heap.size w (w.alloc (.cells #[.int .i64 0, .string ⟨#[]⟩, .int .u64 0, .int .u64 0, .int .u64 0, .int .u64 0, .slice none 0 0] 28)) := (Below.refl _ _).alloc (Nat.le_refl _) _
 have HQ1 := Lib.hid (h.below hbl)
 have HA1 := Lib.hid (Own.fresh w 28 [.int .i64 0, .string ⟨#[]⟩, .int .u64 0, .int .u64 0, .int .u64 0, .int .u64 0, .slice none 0 0])
 have HU1 := Lib.hid (But.of_below (S := fun j => j = g) hbl)
 have hlt := h.1.lt
 obtain ⟨N, hN⟩ : ∃ N, w.heap.size = N := ⟨_, rfl⟩
 have HNN := Lib.hid hN
 have HG := Lib.hid (show g < N by omega)
 have HS1 := Lib.hid (show N + 1 ≤ (w.alloc (.cells #[.int .i64 0, .string ⟨#[]⟩, .int .u64 0, .int .u64 0, .int .u64 0, .int .u64 0, .slice none 0 0] 28)).heap.size by simp; omega)
 rw [hN] at HA1
 clear h hbl hlt
 go_enter Try.func83, Try.ntmps83
 go_upto_region 1 with fail
 generalize World.alloc w _ = w1 at *
 try rw [hN]
 clear hN
 obtain ⟨r, hrr⟩ : ∃ r, witT 13 ⟨#[]⟩ (oftP L X op k) = r := ⟨_, rfl⟩
 have HWK := Lib.hid (HWI.out 13 ⟨#[]⟩ k hk)
 rw [hrr] at HBO hRES HWK
 have HSP := Lib.hid hRES
 clear hrr hRES HWI
 go_wp2_with fail
 refine (HWK.out _ HQ1.out).mono ?_
 rintro e w2 ⟨hb, X2, ko, kc, b, rfl, hr⟩
 have hr := OutR.low HS1.out hr
 unfold exv
 have HA2 := Lib.hid (HA1.out.but hb (by have := HG.out; omega))
 have HU2 := Lib.hid (HU1.out.trans hb (fun _ _ h => h))
 have HS2 := Lib.hid (Nat.le_trans HS1.out hb.size)
 clear HA1 HU1 HS1
 clear hb HQ1 HWK
 have hbl : Below w2.heap.size w2 (w2.alloc (.cells #[.int .i64 X2.op, .string X2.text, .int .u64 X2.s0, .int .u64 X2.s1, .int .u64 X2.s2, .int .u64 X2.s3, .slice ko X2.kids.length kc] 28)) := (Below.refl _ _).alloc (Nat.le_refl _) _
 have HM3 := Lib.hid (Own.fresh w2 28 [.int .i64 X2.op, .string X2.text, .int .u64 X2.s0, .int .u64 X2.s1, .int .u64 X2.s2, .int .u64 X2.s3, .slice ko X2.kids.length kc])
 have HA3 := Lib.hid (HA2.out.under hbl HA2.out.lt)
 have HU3 := Lib.hid (HU2.out.then_below hbl)
 have HS3 := Lib.hid (Nat.le_trans HS2.out hbl.size)
 have hr3 := OutR.below hr hbl
 obtain ⟨M, hM⟩ : ∃ q, w2.heap.size = q := ⟨_, rfl⟩
 have HGM := Lib.hid (show g < M ∧ N < M from ⟨by have := HS2.out; have := HG.out; omega, by have := HS2.out; omega⟩)
 rw [hM] at HM3
 clear hbl HA2 HU2 HS2 hr
 go_upto_region 2 with fail
 generalize w2.alloc _ = w3 at *
 try rw [hM]
 clear hM
 cases r with
 | error f =>
  obtain ⟨rfl, hf, k', q, hq⟩ := hr3
  have HE := Lib.hid (show RES = .error f from HSP.out.symm)
  obtain ⟨m0, m1, m2, m3, m4, m5, m6⟩ := HM3.out.seven
  have ml := HM3.out.lt
  obtain ⟨z0, z1, z2, z3, z4, z5, z6, y0, y1, y2, y3, y4, y5, y6⟩ := HA3.out.seven2
  have zl := HA3.out.lt
  have HRR := Lib.hid (show OutR (N + 1) g lo lc L op RES X2 ko false w3 from by rw [HE.out]; exact ⟨rfl, hf, _, _, hq⟩)
  go_wp2
  clear z0 z1 z2 z3 z4 z5 z6 y0 y1 y2 y3 y4 y5 y6 zl
  rw [set7t_fold]
  obtain ⟨hU, hR⟩ := OutR.fin (N := N) HH.out (Nat.le_of_eq HNN.out) HU3.out HRR.out (.int .i64 X2.op) (.string X2.text) (.int .u64 X2.s0) (.int .u64 X2.s1) (.int .u64 X2.s2) (.int .u64 X2.s3) (.slice ko X2.kids.length kc)
  have HF := HA3.out.put7 (u0 := .int .i64 X2.op) (u1 := .string X2.text) (u2 := .int .u64 X2.s0) (u3 := .int .u64 X2.s1) (u4 := .int .u64 X2.s2) (u5 := .int .u64 X2.s3) (u6 := .slice ko X2.kids.length kc)
  generalize set7t w3 N _ _ _ _ _ _ _ = w99 at *
  obtain ⟨z0, z1, z2, z3, z4, z5, z6⟩ := HF.seven
  refine bodyPost_ret (by simp [results, Try.results83, go_sem, z0, z1, z2, z3, z4, z5, z6]; rfl) rfl ?_
  exact ⟨hU, X2, ko, kc, false, rfl, hR⟩
 | ok p =>
  obtain ⟨x, m⟩ := p
  obtain ⟨rfl, hq, rfl, n2, hE⟩ := hr3
  have HQ3 := Lib.hid hq
  have HT3 := Lib.hid hE
  have HMn := Lib.hid (HBO.out x m rfl)
  clear hq hE HBO
  go_wp2_with fail
  refine (HTK.out ⟨#[126]⟩ m HMn.out _ HQ3.out).mono ?_
  rintro e w4 ⟨rfl, hb, hq⟩
  have HA4 := Lib.hid (HA3.out.but hb (by have := HG.out; omega))
  have HU4 := Lib.hid (HU3.out.trans hb (fun _ _ h => h))
  have HS4 := Lib.hid (Nat.le_trans HS3.out hb.size)
  have HM4 := Lib.hid (HM3.out.but hb (by have := HGM.out; omega))
  clear HA3 HU3 HS3 HM3
  have HT4 := Lib.hid (HasE.but hb (fun j hj => by have := HG.out; omega) HT3.out)
  obtain ⟨z, hz⟩ : ∃ z, isS L m (⟨#[126]⟩ : ByteArray).data.toList = z := ⟨_, rfl⟩
  rw [hz] at hq ⊢
  have HQ4 := Lib.hid hq
  clear hb hq HQ3 HT3
  cases z with
  | true =>
   have HE := Lib.hid (show RES = .ok (x, m + 1) from HSP.out.symm.trans (if_pos hz))
   obtain ⟨m0, m1, m2, m3, m4, m5, m6⟩ := HM4.out.seven
   have ml := HM4.out.lt
   obtain ⟨z0, z1, z2, z3, z4, z5, z6, y0, y1, y2, y3, y4, y5, y6⟩ := HA4.out.seven2
   have zl := HA4.out.lt
   have HRR := Lib.hid (show OutR (N + 1) g lo lc L op RES x ko true w4 from by rw [HE.out]; exact ⟨rfl, HQ4.out, rfl, n2, HT4.out⟩)
   go_wp2
   clear z0 z1 z2 z3 z4 z5 z6 y0 y1 y2 y3 y4 y5 y6 zl
   rw [set7t_fold]
   obtain ⟨hU, hR⟩ := OutR.fin (N := N) HH.out (Nat.le_of_eq HNN.out) HU4.out HRR.out (.int .i64 x.op) (.string x.text) (.int .u64 x.s0) (.int .u64 x.s1) (.int .u64 x.s2) (.int .u64 x.s3) (.slice ko x.kids.length kc)
   have HF := HA4.out.put7 (u0 := .int .i64 x.op) (u1 := .string x.text) (u2 := .int .u64 x.s0) (u3 := .int .u64 x.s1) (u4 := .int .u64 x.s2) (u5 := .int .u64 x.s3) (u6 := .slice ko x.kids.length kc)
   generalize set7t w4 N _ _ _ _ _ _ _ = w99 at *
   obtain ⟨z0, z1, z2, z3, z4, z5, z6⟩ := HF.seven
   refine bodyPost_ret (by simp [results, Try.results83, go_sem, z0, z1, z2, z3, z4, z5, z6]; rfl) rfl ?_
   exact ⟨hU, x, ko, kc, true, rfl, hR⟩
  | false =>
   have HE := Lib.hid (show RES = badF L 2 m from HSP.out.symm.trans (if_neg (by rw [hz]; decide)))
   go_wp2_with fail
   refine (HST.out m HMn.out _ HQ4.out).mono ?_
   rintro e w5 ⟨rfl, hb, hq⟩
   have HA5 := Lib.hid (HA4.out.but hb (by have := HG.out; omega))
   have HU5 := Lib.hid (HU4.out.trans hb (fun _ _ h => h))
   have HS5 := Lib.hid (Nat.le_trans HS4.out hb.size)
   have HM5 := Lib.hid (HM4.out.but hb (by have := HGM.out; omega))
   clear HA4 HU4 HS4 HM4
   have HQ5 := Lib.hid hq
   clear hb hq HQ4
   rw [ex0_agg7]
   obtain ⟨z0, z1, z2, z3, z4, z5, z6, y0, y1, y2, y3, y4, y5, y6⟩ := HA5.out.seven2
   have zl := HA5.out.lt
   have HRR := Lib.hid (show OutR (N + 1) g lo lc L op RES ex0 none false w5 from by rw [HE.out]; exact ⟨rfl, (by show (2 : Int) ≠ 0; decide), _, _, HQ5.out⟩)
   go_wp2
   clear z0 z1 z2 z3 z4 z5 z6 y0 y1 y2 y3 y4 y5 y6 zl
   rw [set7t_fold]
   obtain ⟨hU, hR⟩ := OutR.fin (N := N) HH.out (Nat.le_of_eq HNN.out) HU5.out HRR.out (.int .i64 0) (.string ⟨#[]⟩) (.int .u64 0) (.int .u64 0) (.int .u64 0) (.int .u64 0) (.slice none 0 0)
   have HF := HA5.out.put7 (u0 := .int .i64 0) (u1 := .string ⟨#[]⟩) (u2 := .int .u64 0) (u3 := .int .u64 0) (u4 := .int .u64 0) (u5 := .int .u64 0) (u6 := .slice none 0 0)
   generalize set7t w5 N _ _ _ _ _ _ _ = w99 at *
   obtain ⟨z0, z1, z2, z3, z4, z5, z6⟩ := HF.seven
   refine bodyPost_ret (by simp [results, Try.results83, go_sem, z0, z1, z2, z3, z4, z5, z6]; rfl) rfl ?_
   exact ⟨hU, ex0, none, 0, false, rfl, hR⟩
set_option maxRecDepth 1000000 in
set_option maxHeartbeats 3200000 in
theorem rq_lab (HW : WordOk) (g : Nat) (lo : Option Addr) (lc : Nat) (L : List Tok) (k : Nat) (op : Int) (hop : 0 ≤ op ∧ op ≤ 12) (hn : (L.length : Int) ≤ 90000) (hNB : ∀ j, (tkA L j).kd ≠ 0 → j + 1 < L.length) (hk : k < L.length) (hk2 : k + 2 < L.length) (htx : ∀ t ∈ L, t.tx.size ≤ 1000000) (X : Nat → Rs) (HXB : ∀ j x m, X j = .ok (x, m) → m < L.length) (HX : op ≠ 12 → ∀ m, m < L.length → ∀ W, Rq W g lo lc L m (op + 1) none → Calls Try.prog 26 #[.pointer (some ⟨g, 0, none⟩)] W fun e w' => OutP W g lo lc L (op + 1) (X m) e w') (HB1 : ∀ j x m, oneP L X op j = .ok (x, m) → m < L.length) (w : World) (h : Rq w g lo lc L k op none) :
  Calls Try.prog 85 #[.pointer (some ⟨g, 0, none⟩)] w fun e w' => OutP w g lo lc L op (labP L X op k) e w' := by
 obtain ⟨RES, hRES⟩ : ∃ r, labP L X op k = r := ⟨_, rfl⟩
 rw [hRES]
 unfold labP at hRES
 have HWI := Lib.hid (fun o tx j (hj : j < L.length) W hW => rq_wit HW o tx g lo lc L j op hop hn hNB hj htx X HXB HX (HB1 j) W hW)
 have HNM := Lib.hid (fun W hW => rq_name HW g lo lc L k op none (by omega) hk htx W hW)
 have HST := Lib.hid (fun j (hj : j < L.length) W hW => rq_stop 2 g lo lc L j op none (by omega) hj W hW)
 have hw1 : IntKind.i64.wrap ((k + 1 : Nat) + 1 : Int) = ((k + 2 : Nat) : Int) := by rw [IntKind.wrap_i64] <;> omega
 have hw2 : IntKind.i64.wrap ((k : Int) + 1 + 1) = ((k + 2 : Nat) : Int) := by rw [IntKind.wrap_i64] <;> omega
 have HK2 := Lib.hid hk2
 clear HX HXB htx hNB HW HB1 hk2
 have HH := Lib.hid h
 have hbl : Below w.heap.size w (w.alloc (.cells #[.int .i64 0, .string ⟨#[]⟩, .int .u64 0, .int .u64 0, .int .u64 0, .int .u64 0, .slice none 0 0] 28)) := (Below.refl _ _).alloc (Nat.le_refl _) _
 have HQ1 := Lib.hid (h.below hbl)
 have HA1 := Lib.hid (Own.fresh w 28 [.int .i64 0, .string ⟨#[]⟩, .int .u64 0, .int .u64 0, .int .u64 0, .int .u64 0, .slice none 0 0])
 have HU1 := Lib.hid (But.of_below (S := fun j => j = g) hbl)
 have hlt := h.1.lt
 obtain ⟨N, hN⟩ : ∃ N, w.heap.size = N := ⟨_, rfl⟩
 have HNN := Lib.hid hN
 have HG := Lib.hid (show g < N by omega)
 have HS1 := Lib.hid (show N + 1 ≤ (w.alloc (.cells #[.int .i64 0, .string ⟨#[]⟩, .int .u64 0, .int .u64 0, .int .u64 0, .int .u64 0, .slice none 0 0] 28)).heap.size by simp; omega)
 rw [hN] at HA1
 clear h hbl hlt
 go_enter Try.func85, Try.ntmps85
 go_upto_region 1 with fail
 generalize World.alloc w _ = w1 at *
 try rw [hN]
 clear hN
 go_wp2_with fail
 refine (HNM.out _ HQ1.out).mono ?_
 rintro e w2 ⟨hb, he⟩
 have HA2 := Lib.hid (HA1.out.but hb (by have := HG.out; omega))
 have HU2 := Lib.hid (HU1.out.trans hb (fun _ _ h => h))
 have HS2 := Lib.hid (Nat.le_trans HS1.out hb.size)
 clear HA1 HU1 HS1
 obtain ⟨r, hrr⟩ : ∃ r, nmeP L k = r := ⟨_, rfl⟩
 rw [hrr] at he hRES
 have HSP := Lib.hid hRES
 clear hrr hRES hb HQ1 HNM
 cases r with
 | none =>
  obtain ⟨rfl, hq⟩ := he
  have HQ2 := Lib.hid hq
  clear hq
  have HE := Lib.hid (show RES = badF L 2 k from HSP.out.symm)
  go_wp2_with fail
  refine (HST.out k hk _ HQ2.out).mono ?_
  rintro e w3 ⟨rfl, hb, hq⟩
  have HA3 := Lib.hid (HA2.out.but hb (by have := HG.out; omega))
  have HU3 := Lib.hid (HU2.out.trans hb (fun _ _ h => h))
  have HS3 := Lib.hid (Nat.le_trans HS2.out hb.size)
  clear HA2 HU2 HS2
  have HQ3 := Lib.hid hq
  clear hb hq HQ2
  rw [ex0_agg7]
  obtain ⟨z0, z1, z2, z3, z4, z5, z6, y0, y1, y2, y3, y4, y5, y6⟩ := HA3.out.seven2
  have zl := HA3.out.lt
  have HRR := Lib.hid (show OutR (N + 1) g lo lc L op RES ex0 none false w3 from by rw [HE.out]; exact ⟨rfl, (by show (2 : Int) ≠ 0; decide), _, _, HQ3.out⟩)
  go_wp2
  clear z0 z1 z2 z3 z4 z5 z6 y0 y1 y2 y3 y4 y5 y6 zl
  rw [set7t_fold]
  obtain ⟨hU, hR⟩ := OutR.fin (N := N) HH.out (Nat.le_of_eq HNN.out) HU3.out HRR.out (.int .i64 0) (.string ⟨#[]⟩) (.int .u64 0) (.int .u64 0) (.int .u64 0) (.int .u64 0) (.slice none 0 0)
  have HF := HA3.out.put7 (u0 := .int .i64 0) (u1 := .string ⟨#[]⟩) (u2 := .int .u64 0) (u3 := .int .u64 0) (u4 := .int .u64 0) (u5 := .int .u64 0) (u6 := .slice none 0 0)
  generalize set7t w3 N _ _ _ _ _ _ _ = w99 at *
  obtain ⟨z0, z1, z2, z3, z4, z5, z6⟩ := HF.seven
  refine bodyPost_ret (by simp [results, Try.results85, go_sem, z0, z1, z2, z3, z4, z5, z6]; rfl) rfl ?_
  exact ⟨hU, ex0, none, 0, false, rfl, hR⟩
 | some v =>
  obtain ⟨rfl, hq⟩ := he
  have HQ2 := Lib.hid hq
  clear hq
  have HE := Lib.hid (show RES = witT 12 v (oftP L X op (k + 2)) from HSP.out.symm)
  obtain ⟨d0, d1, d2, d3, d4, d5, d6⟩ := HQ2.out.1.seven
  have dg := HQ2.out.1.lt
  have df : w2.frozen? ⟨g, 1, none⟩ = false := HQ2.out.1.thaw 1
  have HQ3 := Lib.hid (HQ2.out.at (k + 2) (.int .i64 ((k + 2 : Nat) : Int)) rfl)
  have hb : But (fun j => j = g) w2 (w2.setCell ⟨g, 1, none⟩ (.int .i64 ((k + 2 : Nat) : Int))) := But.put _ _ _ _
  have HA3 := Lib.hid (HA2.out.but hb (by have := HG.out; omega))
  have HU3 := Lib.hid (HU2.out.trans hb (fun _ _ h => h))
  have HS3 := Lib.hid (Nat.le_trans HS2.out hb.size)
  clear HA2 HU2 HS2
  obtain ⟨k2, hk2⟩ : ∃ q, k + 2 = q := ⟨_, rfl⟩
  rw [hk2] at HQ3 HA3 HU3 HS3 HE HK2 hw1 hw2
  go_upto_region 5 with fail
  clear d0 d1 d2 d3 d4 d5 d6 dg df hb HQ2
  generalize w2.setCell ⟨g, 1, none⟩ _ = w3 at *
  go_wp2_with fail
  refine (HWI.out 12 v k2 HK2.out _ HQ3.out).mono ?_
  rintro e w4 ⟨hb, X2, ko, kc, b, rfl, hr⟩
  have hrl := OutR.low HS3.out hr
  unfold exv
  have HA4 := Lib.hid (HA3.out.but hb (by have := HG.out; omega))
  have HU4 := Lib.hid (HU3.out.trans hb (fun _ _ h => h))
  have HS4 := Lib.hid (Nat.le_trans HS3.out hb.size)
  clear HA3 HU3 HS3
  clear hb hr
  obtain ⟨z0, z1, z2, z3, z4, z5, z6, y0, y1, y2, y3, y4, y5, y6⟩ := HA4.out.seven2
  have zl := HA4.out.lt
  have HRR := Lib.hid (show OutR (N + 1) g lo lc L op RES X2 ko b w4 from by rw [HE.out]; exact hrl)
  go_wp2
  clear z0 z1 z2 z3 z4 z5 z6 y0 y1 y2 y3 y4 y5 y6 zl
  rw [set7t_fold]
  obtain ⟨hU, hR⟩ := OutR.fin (N := N) HH.out (Nat.le_of_eq HNN.out) HU4.out HRR.out (.int .i64 X2.op) (.string X2.text) (.int .u64 X2.s0) (.int .u64 X2.s1) (.int .u64 X2.s2) (.int .u64 X2.s3) (.slice ko X2.kids.length kc)
  have HF := HA4.out.put7 (u0 := .int .i64 X2.op) (u1 := .string X2.text) (u2 := .int .u64 X2.s0) (u3 := .int .u64 X2.s1) (u4 := .int .u64 X2.s2) (u5 := .int .u64 X2.s3) (u6 := .slice ko X2.kids.length kc)
  generalize set7t w4 N _ _ _ _ _ _ _ = w99 at *
  obtain ⟨z0, z1, z2, z3, z4, z5, z6⟩ := HF.seven
  refine bodyPost_ret (by simp [results, Try.results85, go_sem, z0, z1, z2, z3, z4, z5, z6]; rfl) rfl ?_
  exact ⟨hU, X2, ko, kc, b, rfl, hR⟩
set_option maxRecDepth 1000000 in
set_option maxHeartbeats 3200000 in
theorem rq_part (HW : WordOk) (g : Nat) (lo : Option Addr) (lc : Nat) (L : List Tok) (k : Nat) (op : Int) (hop : 0 ≤ op ∧ op ≤ 12) (hn : (L.length : Int) ≤ 90000) (hNB : ∀ j, (tkA L j).kd ≠ 0 → j + 1 < L.length) (hk : k < L.length) (htx : ∀ t ∈ L, t.tx.size ≤ 1000000) (X : Nat → Rs) (HXB : ∀ j x m, X j = .ok (x, m) → m < L.length) (HX : op ≠ 12 → ∀ m, m < L.length → ∀ W, Rq W g lo lc L m (op + 1) none → Calls Try.prog 26 #[.pointer (some ⟨g, 0, none⟩)] W fun e w' => OutP W g lo lc L (op + 1) (X m) e w') (HB1 : ∀ j x m, oneP L X op j = .ok (x, m) → m < L.length) (w : World) (h : Rq w g lo lc L k op none) :
  Calls Try.prog 62 #[.pointer (some ⟨g, 0, none⟩)] w fun e w' => OutP w g lo lc L op (partP L X op k) e w' := by
 obtain ⟨RES, hRES⟩ : ∃ r, partP L X op k = r := ⟨_, rfl⟩
 rw [hRES]
 unfold partP at hRES
 have HWI := Lib.hid (fun o tx j (hj : j < L.length) W hW => rq_wit HW o tx g lo lc L j op hop hn hNB hj htx X HXB HX (HB1 j) W hW)
 have HSE := Lib.hid (fun j (hj : j < L.length) W hW => rq_sea HW g lo lc L j op hop hn hNB hj htx X HXB HX HB1 W hW)
 have HLA := Lib.hid (fun hk2 W hW => rq_lab HW g lo lc L k op hop hn hNB hk hk2 htx X HXB HX HB1 W hW)
 have HOF := Lib.hid (fun W hW => rq_oft HW g lo lc L k op hop hn hNB hk htx X HXB HX (HB1 k) W hW)
 have HTK := Lib.hid (fun s W hW => rq_take s g lo lc L k op none (by omega) hk W hW)
 have HLC := Lib.hid (fun W hW => rq_lc g lo lc L k op none (by omega) hk W hW)
 have HK1 := Lib.hid (fun s (h : isS L k s = true) => hNB k (by rw [isS_kd4 h]; decide))
 have HK2 := Lib.hid (fun (h : labO L k = true) => show k + 2 < L.length from by unfold labO at h; rw [Bool.and_eq_true] at h; exact hNB (k + 1) (by rw [isS_kd4 h.2]; decide))
 clear HX HXB htx hNB HW HB1
 have HH := Lib.hid h
 have hbl : Below w.heap.size w (w.alloc (.cells #[.int .i64 0, .string ⟨#[]⟩, .int .u64 0, .int .u64 0, .int .u64 0, .int .u64 0, .slice none 0 0] 28)) := (Below.refl _ _).alloc (Nat.le_refl _) _
 have HQ1 := Lib.hid (h.below hbl)
 have HA1 := Lib.hid (Own.fresh w 28 [.int .i64 0, .string ⟨#[]⟩, .int .u64 0, .int .u64 0, .int .u64 0, .int .u64 0, .slice none 0 0])
 have HU1 := Lib.hid (But.of_below (S := fun j => j = g) hbl)
 have hlt := h.1.lt
 obtain ⟨N, hN⟩ : ∃ N, w.heap.size = N := ⟨_, rfl⟩
 have HNN := Lib.hid hN
 have HG := Lib.hid (show g < N by omega)
 have HS1 := Lib.hid (show N + 1 ≤ (w.alloc (.cells #[.int .i64 0, .string ⟨#[]⟩, .int .u64 0, .int .u64 0, .int .u64 0, .int .u64 0, .slice none 0 0] 28)).heap.size by simp; omega)
 rw [hN] at HA1
 clear h hbl hlt
 go_enter Try.func62, Try.ntmps62
 go_upto_region 1 with fail
 generalize World.alloc w _ = w1 at *
 try rw [hN]
 clear hN
 have HSP := Lib.hid hRES
 clear hRES
 go_wp2_with fail
 refine (HTK.out ⟨#[38]⟩ _ HQ1.out).mono ?_
 rintro e w2 ⟨rfl, hb, hq⟩
 have HA2 := Lib.hid (HA1.out.but hb (by have := HG.out; omega))
 have HU2 := Lib.hid (HU1.out.trans hb (fun _ _ h => h))
 have HS2 := Lib.hid (Nat.le_trans HS1.out hb.size)
 clear HA1 HU1 HS1
 obtain ⟨z, hz2⟩ : ∃ z, isS L k (⟨#[38]⟩ : ByteArray).data.toList = z := ⟨_, rfl⟩
 rw [hz2] at hq ⊢
 have HQ2 := Lib.hid hq
 clear hb hq HQ1
 cases z with
 | true =>
  have HE := Lib.hid (show RES = witT 9 ⟨#[]⟩ (oftP L X op (k + 1)) from HSP.out.symm.trans (if_pos hz2))
  go_wp2_with fail
  refine (HWI.out 9 ⟨#[]⟩ (k + 1) (HK1.out _ hz2) _ HQ2.out).mono ?_
  rintro e w3 ⟨hb, X2, ko, kc, b, rfl, hr⟩
  have hrl := OutR.low HS2.out hr
  unfold exv
  have HA3 := Lib.hid (HA2.out.but hb (by have := HG.out; omega))
  have HU3 := Lib.hid (HU2.out.trans hb (fun _ _ h => h))
  have HS3 := Lib.hid (Nat.le_trans HS2.out hb.size)
  clear HA2 HU2 HS2
  clear hb hr
  obtain ⟨z0, z1, z2, z3, z4, z5, z6, y0, y1, y2, y3, y4, y5, y6⟩ := HA3.out.seven2
  have zl := HA3.out.lt
  have HRR := Lib.hid (show OutR (N + 1) g lo lc L op RES X2 ko b w3 from by rw [HE.out]; exact hrl)
  go_wp2
  clear z0 z1 z2 z3 z4 z5 z6 y0 y1 y2 y3 y4 y5 y6 zl
  rw [set7t_fold]
  obtain ⟨hU, hR⟩ := OutR.fin (N := N) HH.out (Nat.le_of_eq HNN.out) HU3.out HRR.out (.int .i64 X2.op) (.string X2.text) (.int .u64 X2.s0) (.int .u64 X2.s1) (.int .u64 X2.s2) (.int .u64 X2.s3) (.slice ko X2.kids.length kc)
  have HF := HA3.out.put7 (u0 := .int .i64 X2.op) (u1 := .string X2.text) (u2 := .int .u64 X2.s0) (u3 := .int .u64 X2.s1) (u4 := .int .u64 X2.s2) (u5 := .int .u64 X2.s3) (u6 := .slice ko X2.kids.length kc)
  generalize set7t w3 N _ _ _ _ _ _ _ = w99 at *
  obtain ⟨z0, z1, z2, z3, z4, z5, z6⟩ := HF.seven
  refine bodyPost_ret (by simp [results, Try.results62, go_sem, z0, z1, z2, z3, z4, z5, z6]; rfl) rfl ?_
  exact ⟨hU, X2, ko, kc, b, rfl, hR⟩
 | false =>
  go_wp2_with fail
  refine (HTK.out ⟨#[33]⟩ _ HQ2.out).mono ?_
  rintro e w3 ⟨rfl, hb, hq⟩
  have HA3 := Lib.hid (HA2.out.but hb (by have := HG.out; omega))
  have HU3 := Lib.hid (HU2.out.trans hb (fun _ _ h => h))
  have HS3 := Lib.hid (Nat.le_trans HS2.out hb.size)
  clear HA2 HU2 HS2
  obtain ⟨z, hz3⟩ : ∃ z, isS L k (⟨#[33]⟩ : ByteArray).data.toList = z := ⟨_, rfl⟩
  rw [hz3] at hq ⊢
  have HQ3 := Lib.hid hq
  clear hb hq HQ2
  cases z with
  | true =>
   have HE := Lib.hid (show RES = witT 10 ⟨#[]⟩ (oftP L X op (k + 1)) from HSP.out.symm.trans ((if_neg (by rw [hz2]; decide)).trans (if_pos hz3)))
   go_wp2_with fail
   refine (HWI.out 10 ⟨#[]⟩ (k + 1) (HK1.out _ hz3) _ HQ3.out).mono ?_
   rintro e w4 ⟨hb, X2, ko, kc, b, rfl, hr⟩
   have hrl := OutR.low HS3.out hr
   unfold exv
   have HA4 := Lib.hid (HA3.out.but hb (by have := HG.out; omega))
   have HU4 := Lib.hid (HU3.out.trans hb (fun _ _ h => h))
   have HS4 := Lib.hid (Nat.le_trans HS3.out hb.size)
   clear HA3 HU3 HS3
   clear hb hr
   obtain ⟨z0, z1, z2, z3, z4, z5, z6, y0, y1, y2, y3, y4, y5, y6⟩ := HA4.out.seven2
   have zl := HA4.out.lt
   have HRR := Lib.hid (show OutR (N + 1) g lo lc L op RES X2 ko b w4 from by rw [HE.out]; exact hrl)
   go_wp2
   clear z0 z1 z2 z3 z4 z5 z6 y0 y1 y2 y3 y4 y5 y6 zl
   rw [set7t_fold]
   obtain ⟨hU, hR⟩ := OutR.fin (N := N) HH.out (Nat.le_of_eq HNN.out) HU4.out HRR.out (.int .i64 X2.op) (.string X2.text) (.int .u64 X2.s0) (.int .u64 X2.s1) (.int .u64 X2.s2) (.int .u64 X2.s3) (.slice ko X2.kids.length kc)
   have HF := HA4.out.put7 (u0 := .int .i64 X2.op) (u1 := .string X2.text) (u2 := .int .u64 X2.s0) (u3 := .int .u64 X2.s1) (u4 := .int .u64 X2.s2) (u5 := .int .u64 X2.s3) (u6 := .slice ko X2.kids.length kc)
   generalize set7t w4 N _ _ _ _ _ _ _ = w99 at *
   obtain ⟨z0, z1, z2, z3, z4, z5, z6⟩ := HF.seven
   refine bodyPost_ret (by simp [results, Try.results62, go_sem, z0, z1, z2, z3, z4, z5, z6]; rfl) rfl ?_
   exact ⟨hU, X2, ko, kc, b, rfl, hR⟩
  | false =>
   go_wp2_with fail
   refine (HTK.out ⟨#[126]⟩ _ HQ3.out).mono ?_
   rintro e w4 ⟨rfl, hb, hq⟩
   have HA4 := Lib.hid (HA3.out.but hb (by have := HG.out; omega))
   have HU4 := Lib.hid (HU3.out.trans hb (fun _ _ h => h))
   have HS4 := Lib.hid (Nat.le_trans HS3.out hb.size)
   clear HA3 HU3 HS3
   obtain ⟨z, hz4⟩ : ∃ z, isS L k (⟨#[126]⟩ : ByteArray).data.toList = z := ⟨_, rfl⟩
   rw [hz4] at hq ⊢
   have HQ4 := Lib.hid hq
   clear hb hq HQ3
   cases z with
   | true =>
    have HE := Lib.hid (show RES = seaP L X op (k + 1) from HSP.out.symm.trans ((if_neg (by rw [hz2]; decide)).trans ((if_neg (by rw [hz3]; decide)).trans (if_pos hz4))))
    go_wp2_with fail
    refine (HSE.out (k + 1) (HK1.out _ hz4) _ HQ4.out).mono ?_
    rintro e w5 ⟨hb, X2, ko, kc, b, rfl, hr⟩
    have hrl := OutR.low HS4.out hr
    unfold exv
    have HA5 := Lib.hid (HA4.out.but hb (by have := HG.out; omega))
    have HU5 := Lib.hid (HU4.out.trans hb (fun _ _ h => h))
    have HS5 := Lib.hid (Nat.le_trans HS4.out hb.size)
    clear HA4 HU4 HS4
    clear hb hr
    obtain ⟨z0, z1, z2, z3, z4, z5, z6, y0, y1, y2, y3, y4, y5, y6⟩ := HA5.out.seven2
    have zl := HA5.out.lt
    have HRR := Lib.hid (show OutR (N + 1) g lo lc L op RES X2 ko b w5 from by rw [HE.out]; exact hrl)
    go_wp2
    clear z0 z1 z2 z3 z4 z5 z6 y0 y1 y2 y3 y4 y5 y6 zl
    rw [set7t_fold]
    obtain ⟨hU, hR⟩ := OutR.fin (N := N) HH.out (Nat.le_of_eq HNN.out) HU5.out HRR.out (.int .i64 X2.op) (.string X2.text) (.int .u64 X2.s0) (.int .u64 X2.s1) (.int .u64 X2.s2) (.int .u64 X2.s3) (.slice ko X2.kids.length kc)
    have HF := HA5.out.put7 (u0 := .int .i64 X2.op) (u1 := .string X2.text) (u2 := .int .u64 X2.s0) (u3 := .int .u64 X2.s1) (u4 := .int .u64 X2.s2) (u5 := .int .u64 X2.s3) (u6 := .slice ko X2.kids.length kc)
    generalize set7t w5 N _ _ _ _ _ _ _ = w99 at *
    obtain ⟨z0, z1, z2, z3, z4, z5, z6⟩ := HF.seven
    refine bodyPost_ret (by simp [results, Try.results62, go_sem, z0, z1, z2, z3, z4, z5, z6]; rfl) rfl ?_
    exact ⟨hU, X2, ko, kc, b, rfl, hR⟩
   | false =>
    go_wp2_with fail
    refine (HLC.out _ HQ4.out).mono ?_
    rintro e w5 ⟨rfl, hb⟩
    have HA5 := Lib.hid (HA4.out.under hb HA4.out.lt)
    have HU5 := Lib.hid (HU4.out.then_below hb)
    have HQ5 := Lib.hid (HQ4.out.below hb)
    have HS5 := Lib.hid (Nat.le_trans HS4.out hb.size)
    clear HA4 HU4 HQ4 HS4
    obtain ⟨z, hz5⟩ : ∃ z, labO L k = z := ⟨_, rfl⟩
    rw [hz5]
    clear hb
    cases z with
    | true =>
     have HE := Lib.hid (show RES = labP L X op k from HSP.out.symm.trans ((if_neg (by rw [hz2]; decide)).trans ((if_neg (by rw [hz3]; decide)).trans ((if_neg (by rw [hz4]; decide)).trans (if_pos hz5)))))
     go_wp2_with fail
     refine (HLA.out (HK2.out hz5) _ HQ5.out).mono ?_
     rintro e w6 ⟨hb, X2, ko, kc, b, rfl, hr⟩
     have hrl := OutR.low HS5.out hr
     unfold exv
     have HA6 := Lib.hid (HA5.out.but hb (by have := HG.out; omega))
     have HU6 := Lib.hid (HU5.out.trans hb (fun _ _ h => h))
     have HS6 := Lib.hid (Nat.le_trans HS5.out hb.size)
     clear HA5 HU5 HS5
     clear hb hr
     obtain ⟨z0, z1, z2, z3, z4, z5, z6, y0, y1, y2, y3, y4, y5, y6⟩ := HA6.out.seven2
     have zl := HA6.out.lt
     have HRR := Lib.hid (show OutR (N + 1) g lo lc L op RES X2 ko b w6 from by rw [HE.out]; exact hrl)
     go_wp2
     clear z0 z1 z2 z3 z4 z5 z6 y0 y1 y2 y3 y4 y5 y6 zl
     rw [set7t_fold]
     obtain ⟨hU, hR⟩ := OutR.fin (N := N) HH.out (Nat.le_of_eq HNN.out) HU6.out HRR.out (.int .i64 X2.op) (.string X2.text) (.int .u64 X2.s0) (.int .u64 X2.s1) (.int .u64 X2.s2) (.int .u64 X2.s3) (.slice ko X2.kids.length kc)
     have HF := HA6.out.put7 (u0 := .int .i64 X2.op) (u1 := .string X2.text) (u2 := .int .u64 X2.s0) (u3 := .int .u64 X2.s1) (u4 := .int .u64 X2.s2) (u5 := .int .u64 X2.s3) (u6 := .slice ko X2.kids.length kc)
     generalize set7t w6 N _ _ _ _ _ _ _ = w99 at *
     obtain ⟨z0, z1, z2, z3, z4, z5, z6⟩ := HF.seven
     refine bodyPost_ret (by simp [results, Try.results62, go_sem, z0, z1, z2, z3, z4, z5, z6]; rfl) rfl ?_
     exact ⟨hU, X2, ko, kc, b, rfl, hR⟩
    | false =>
     have HE := Lib.hid (show RES = oftP L X op k from HSP.out.symm.trans ((if_neg (by rw [hz2]; decide)).trans ((if_neg (by rw [hz3]; decide)).trans ((if_neg (by rw [hz4]; decide)).trans (if_neg (by rw [hz5]; decide))))))
     go_wp2_with fail
     refine (HOF.out _ HQ5.out).mono ?_
     rintro e w6 ⟨hb, X2, ko, kc, b, rfl, hr⟩
     have hrl := OutR.low HS5.out hr
     unfold exv
     have HA6 := Lib.hid (HA5.out.but hb (by have := HG.out; omega))
     have HU6 := Lib.hid (HU5.out.trans hb (fun _ _ h => h))
     have HS6 := Lib.hid (Nat.le_trans HS5.out hb.size)
     clear HA5 HU5 HS5
     clear hb hr
     obtain ⟨z0, z1, z2, z3, z4, z5, z6, y0, y1, y2, y3, y4, y5, y6⟩ := HA6.out.seven2
     have zl := HA6.out.lt
     have HRR := Lib.hid (show OutR (N + 1) g lo lc L op RES X2 ko b w6 from by rw [HE.out]; exact hrl)
     go_wp2
     clear z0 z1 z2 z3 z4 z5 z6 y0 y1 y2 y3 y4 y5 y6 zl
     rw [set7t_fold]
     obtain ⟨hU, hR⟩ := OutR.fin (N := N) HH.out (Nat.le_of_eq HNN.out) HU6.out HRR.out (.int .i64 X2.op) (.string X2.text) (.int .u64 X2.s0) (.int .u64 X2.s1) (.int .u64 X2.s2) (.int .u64 X2.s3) (.slice ko X2.kids.length kc)
     have HF := HA6.out.put7 (u0 := .int .i64 X2.op) (u1 := .string X2.text) (u2 := .int .u64 X2.s0) (u3 := .int .u64 X2.s1) (u4 := .int .u64 X2.s2) (u5 := .int .u64 X2.s3) (u6 := .slice ko X2.kids.length kc)
     generalize set7t w6 N _ _ _ _ _ _ _ = w99 at *
     obtain ⟨z0, z1, z2, z3, z4, z5, z6⟩ := HF.seven
     refine bodyPost_ret (by simp [results, Try.results62, go_sem, z0, z1, z2, z3, z4, z5, z6]; rfl) rfl ?_
     exact ⟨hU, X2, ko, kc, b, rfl, hR⟩
end Go.Proofs.Ytonknapfndaalaa

namespace Go.Proofs.Ytonknapfndaalaa
set_option linter.unusedVariables false
set_option maxRecDepth 1000000
open Go.RowKit Go.Sort
/-- The slice v holds the expressions K, in blocks of T; if G, what is within them lies in T as well, in no block of that row. -/
def XT (T : Nat → Prop) (G : Prop) (w : World) (v : Value) (K : List Ex) : Prop :=
 ∃ (R S : Nat → Prop) (Z : List Zx) (n : Nat), (∀ b, R b ∨ S b → T b ∧ b < w.heap.size) ∧ (∀ b, R b → ¬ S b) ∧ Z.map (·.1) = K ∧
  Win S 28 7 w v Z.length (Z.flatMap xrow) ∧ (G → ∀ z ∈ Z, HasP w R n z.2.1 z.1.kids)
section
variable {T : Nat → Prop} {G : Prop} {w w' : World} {v : Value} {K : List Ex}
theorem XT.toS {D : Nat} (h : XT T G w v K) (hT : ∀ b, T b → D ≤ b) : XS G w D v K := by
 obtain ⟨R, S, Z, n, h1, h2, h3, h4, h5⟩ := h
 exact ⟨R, S, Z, n, fun b hb => ⟨hT b (h1 b hb).1, (h1 b hb).2⟩, h2, h3, h4, h5⟩
theorem XT.keep {U : Nat → Prop} (h : XT T G w v K) (hb : But U w w') (hU : ∀ b, T b → ¬ U b) : XT T G w' v K := by
 obtain ⟨R, S, Z, n, h1, h2, h3, h4, h5⟩ := h
 exact ⟨R, S, Z, n, fun b hb' => ⟨(h1 b hb').1, Nat.lt_of_lt_of_le (h1 b hb').2 hb.size⟩, h2, h3, h4.keep hb fun g _ hs hu => hU g (h1 g (.inr hs)).1 hu, fun hG z hz => (h5 hG z hz).but hb fun g _ hr hu => hU g (h1 g (.inl hr)).1 hu⟩
theorem XT.below (h : XT T G w v K) (hb : Below w.heap.size w w') : XT T G w' v K := h.keep (U := fun _ => False) (But.of_below hb) fun _ _ h => h
theorem XT.form (h : XT T G w v K) : ∃ ao cap, v = .slice ao K.length cap := by
 obtain ⟨R, S, Z, n, h1, h2, rfl, h4, h5⟩ := h
 obtain ⟨ao, cap, hv, -⟩ := h4.form
 exact ⟨ao, cap, by rw [hv, List.length_map]⟩
theorem XT.first {B n : Nat} {x : Ex} {ko : Option Addr} {kc : Nat} {R : Nat → Prop} (hB : Own w B 28 (xrow (x, ko, kc))) (hT : T B) (hR : ∀ b, R b → T b ∧ b < B) (hE : G → HasP w R n ko x.kids) : XT T G w (.slice (some ⟨B, 0, none⟩) 1 1) [x] := by
 refine ⟨R, fun b => b = B, [(x, ko, kc)], n, ?_, fun b h e => by have := hR b h; omega, rfl, ⟨rfl, .inr ⟨B, 0, 1, _, rfl, rfl, hB, Nat.le_refl _, by unfold maxLen; omega, by simp [xrow], ?_⟩⟩, fun hG z hz => ?_⟩
 ·
  intro b hb
  have := hB.lt
  rcases hb with hb | hb
  ·
   exact ⟨(hR b hb).1, by have := hR b hb; omega⟩
  ·
   exact ⟨by rw [hb]; exact hT, by omega⟩
 ·
  simp [xrow]
 ·
  rw [List.mem_singleton] at hz
  subst hz
  exact hE hG
/-- One expression more: in w1 it was made, in w2 it lies in a row of one, w3 is behind. -/
theorem XT.snoc {w0 w1 w2 w3 : World} {n n' : Nat} {v' : Value} {R S U : Nat → Prop} {Z : List Zx} {x : Ex} {ko : Option Addr} {kc : Nat} (hN : ∀ b, w0.heap.size ≤ b → T b) (hU : ∀ b, T b → ¬ U b)
  (h1 : ∀ b, R b ∨ S b → T b ∧ b < w0.heap.size) (h2 : ∀ b, R b → ¬ S b) (h5 : G → ∀ z ∈ Z, HasP w0 R n z.2.1 z.1.kids)
  (hb1 : But U w0 w1) (hE : G → HasE w1 w0.heap.size n' ko x.kids) (hb2 : Below w1.heap.size w1 w2)
  (hw : Win (fun b => S b ∨ w2.heap.size ≤ b) 28 7 w3 v' (Z.length + 1) (Z.flatMap xrow ++ xrow (x, ko, kc))) (hb3 : But S w2 w3) : XT T G w3 v' (Z.map (·.1) ++ [x]) := by
 have s1 := hb1.size
 have s2 := hb2.size
 have s3 := hb3.size
 have hkeep : ∀ (Q : Nat → Prop) (m : Nat) (ao : Option Addr) (K : List Ex), (∀ b, Q b → ¬ U b ∧ ¬ S b) → HasP w0 Q m ao K → HasP w3 Q m ao K := fun Q m ao K hq h =>
  ((h.but hb1 fun j _ hj => (hq j hj).1).but (But.of_below (S := fun _ => False) hb2) fun _ _ _ h => h).but hb3 fun j _ hj => (hq j hj).2
 have hkeep2 : ∀ (Q : Nat → Prop) (m : Nat) (ao : Option Addr) (K : List Ex), (∀ b, Q b → ¬ S b) → HasP w1 Q m ao K → HasP w3 Q m ao K := fun Q m ao K hq h =>
  (h.but (But.of_below (S := fun _ => False) hb2) fun _ _ _ h => h).but hb3 fun j _ hj => hq j hj
 refine ⟨fun b => R b ∨ (w0.heap.size ≤ b ∧ b < w1.heap.size), fun b => (S b ∨ w2.heap.size ≤ b) ∧ b < w3.heap.size, Z ++ [(x, ko, kc)], max n n', ?_, ?_, by simp, ?_, ?_⟩
 ·
  intro b hb
  rcases hb with (hb | hb) | ⟨hb | hb, hlt⟩
  ·
   have := h1 b (.inl hb); exact ⟨this.1, by omega⟩
  ·
   exact ⟨hN b hb.1, by omega⟩
  ·
   have := h1 b (.inr hb); exact ⟨this.1, by omega⟩
  ·
   exact ⟨hN b (by omega), hlt⟩
 ·
  rintro b hb ⟨hs, hlt⟩
  rcases hb with hb | hb
  ·
   rcases hs with hs | hs
   ·
    exact h2 b hb hs
   ·
    have := (h1 b (.inl hb)).2; omega
  ·
   rcases hs with hs | hs
   ·
    have := (h1 b (.inr hs)).2; omega
   ·
    omega
 ·
  rw [List.length_append, List.flatMap_append]
  have e : List.flatMap xrow [(x, ko, kc)] = xrow (x, ko, kc) := by simp
  rw [e]
  exact hw.mono fun b hb hs => ⟨hs, hb⟩
 ·
  intro hG z hz
  rw [List.mem_append, List.mem_singleton] at hz
  rcases hz with hz | rfl
  ·
   exact ((hkeep R n _ _ (fun b hb => ⟨hU b (h1 b (.inl hb)).1, h2 b hb⟩) (h5 hG z hz)).mono (fun b _ h => .inl h)).upto _ (Nat.le_max_left _ _)
  ·
   exact ((hkeep2 _ n' _ _ (fun b hb hs => by have := (h1 b (.inr hs)).2; omega) (HasP.ofE (hE hG))).mono (fun b _ h => .inr h)).upto _ (Nat.le_max_right _ _)
end
theorem OutR.ends {w9 : World} {g lc D k : Nat} {lo : Option Addr} {L : List Tok} {RS : Except (Int × Int) (List Ex × Nat)} {K : List Ex} {F : Option (Int × Int)} {op q p : Int} {ko : Option Addr} {b : Bool} (hR : Rq w9 g lo lc L k q F) (hq : F = none → q = p) (hF : LsEnd RS K k F)
  (hE : F = none → ∃ n, HasE w9 D n ko (oneX op K).kids) (hb : b = F.isNone) : OutR D g lo lc L p (endX op RS) (oneX op K) ko b w9 := by
 subst hb
 cases F with
 | none =>
  have hF : RS = .ok (K, k) := hF
  subst hF
  exact ⟨rfl, by rw [← hq rfl]; exact hR, rfl, hE rfl⟩
 | some e =>
  have hF2 : RS = .error e := hF.2
  subst hF2
  exact ⟨rfl, hF.1, k, q, hR⟩
set_option maxRecDepth 1000000 in
set_option maxHeartbeats 1600000 in
theorem rq_sev (op : Int) (D cap : Nat) (G : Prop) (ao : Option Addr) (K : List Ex) (hK : 1 ≤ K.length ∧ K.length ≤ 100000) (w : World) (h : XS G w D (.slice ao K.length cap) K) :
  Calls Try.prog 47 #[.int .i64 op, .slice ao K.length cap] w fun e w' => Below w.heap.size w w' ∧ ∃ ko kc, e = .returned (exv (oneX op K) ko kc) ∧ (G → ∃ n, HasE w' D n ko (oneX op K).kids) := by
 have HXS := Lib.hid (h.below ((Below.refl _ _).alloc (Nat.le_refl _) (.cells #[.int .i64 0, .string ⟨#[]⟩, .int .u64 0, .int .u64 0, .int .u64 0, .int .u64 0, .slice none 0 0] 28)))
 have HH := Lib.hid h
 have HR := Lib.hid (Own.fresh w 28 [.int .i64 0, .string ⟨#[]⟩, .int .u64 0, .int .u64 0, .int .u64 0, .int .u64 0, .slice none 0 0])
 have HB := Lib.hid ((Below.refl w.heap.size w).alloc (Nat.le_refl _) (.cells #[.int .i64 0, .string ⟨#[]⟩, .int .u64 0, .int .u64 0, .int .u64 0, .int .u64 0, .slice none 0 0] 28))
 clear h
 go_enter Try.func47, Try.ntmps47
 go_upto_region 1 with fail
 generalize World.alloc w _ = w1 at *
 obtain ⟨N, hN⟩ : ∃ N, w.heap.size = N := ⟨_, rfl⟩
 rw [hN] at HR HB ⊢
 have HNN := Lib.hid hN
 clear hN
 by_cases hk1 : K.length = 1
 ·
  obtain ⟨X2, rfl⟩ : ∃ x, K = [x] := List.length_eq_one_iff.1 hk1
  obtain ⟨bb, off, ko, kc, rfl, hbl, hbD, a0, a1, a2, a3, a4, a5, a6, hkid⟩ := HH.out.at_ (k := 0) (x := X2) rfl
  have hbw : Below w.heap.size w w1 := by rw [HNN.out]; exact HB.out
  replace a0 := keepc a0 hbw
  replace a1 := keepc a1 hbw
  replace a2 := keepc a2 hbw
  replace a3 := keepc a3 hbw
  replace a4 := keepc a4 hbw
  replace a5 := keepc a5 hbw
  replace a6 := keepc a6 hbw
  have HKID := Lib.hid hkid
  rw [Nat.zero_mul, Nat.add_zero] at a0 a1 a2 a3 a4 a5 a6
  obtain ⟨z0, z1, z2, z3, z4, z5, z6, y0, y1, y2, y3, y4, y5, y6⟩ := HR.out.seven2
  have zl := HR.out.lt
  clear hkid hbD hk1 hK hbw
  go_wp2
  rw [set7t_fold]
  have HF := HR.out.put7 (u0 := .int .i64 X2.op) (u1 := .string X2.text) (u2 := .int .u64 X2.s0) (u3 := .int .u64 X2.s1) (u4 := .int .u64 X2.s2) (u5 := .int .u64 X2.s3) (u6 := .slice ko X2.kids.length kc)
  have HBF := below_put7 HB.out (Nat.le_refl _) (.int .i64 X2.op) (.string X2.text) (.int .u64 X2.s0) (.int .u64 X2.s1) (.int .u64 X2.s2) (.int .u64 X2.s3) (.slice ko X2.kids.length kc)
  clear z0 z1 z2 z3 z4 z5 z6 y0 y1 y2 y3 y4 y5 y6
  generalize set7t _ N _ _ _ _ _ _ _ = w9 at *
  obtain ⟨z0, z1, z2, z3, z4, z5, z6⟩ := HF.seven
  refine bodyPost_ret (by simp [results, Try.results47, go_sem, z0, z1, z2, z3, z4, z5, z6]; rfl) rfl ?_
  rw [← HNN.out] at HBF
  refine ⟨HBF, ko, kc, rfl, fun hG => ?_⟩
  obtain ⟨n, hn⟩ := HKID.out hG
  exact ⟨n, HasE.but (But.of_below (S := fun _ => False) HBF) (fun _ h => h.elim) hn⟩
 ·
  have hk1i : ¬ (K.length : Int) = 1 := by omega
  have HK1 := Lib.hid (oneX_many (op := op) hk1)
  obtain ⟨z0, z1, z2, z3, z4, z5, z6, y0, y1, y2, y3, y4, y5, y6⟩ := HR.out.seven2
  have zl := HR.out.lt
  clear hk1
  go_wp2
  rw [set7t_fold]
  have HF := HR.out.put7 (u0 := .int .i64 op) (u1 := .string ⟨#[]⟩) (u2 := .int .u64 0) (u3 := .int .u64 0) (u4 := .int .u64 0) (u5 := .int .u64 0) (u6 := .slice ao K.length cap)
  have HBF := below_put7 HB.out (Nat.le_refl _) (.int .i64 op) (.string ⟨#[]⟩) (.int .u64 0) (.int .u64 0) (.int .u64 0) (.int .u64 0) (.slice ao K.length cap)
  clear z0 z1 z2 z3 z4 z5 z6 y0 y1 y2 y3 y4 y5 y6
  generalize set7t _ N _ _ _ _ _ _ _ = w9 at *
  obtain ⟨z0, z1, z2, z3, z4, z5, z6⟩ := HF.seven
  refine bodyPost_ret (by simp [results, Try.results47, go_sem, z0, z1, z2, z3, z4, z5, z6]; rfl) rfl ?_
  rw [← HNN.out] at HBF
  refine ⟨HBF, ao, cap, by rw [HK1.out]; rfl, fun hG => ?_⟩
  obtain ⟨n, hn⟩ := HH.out.hasE hG
  rw [HK1.out]
  exact ⟨n, HasE.but (But.of_below (S := fun _ => False) HBF) (fun _ h => h.elim) hn⟩
end Go.Proofs.Ytonknapfndaalaa
