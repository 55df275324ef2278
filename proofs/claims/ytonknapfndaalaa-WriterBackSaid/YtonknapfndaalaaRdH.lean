/- What is looked ahead for, a sea, what has a label, or what stands alone, walked. -/
import Derived.Test.YtonknapfndaalaaGu
import Derived.Test.YtonknapfndaalaaGm
namespace Go.Proofs.Ytonknapfndaalaa
set_option linter.unusedVariables false
set_option maxRecDepth 1000000
open Go.RowKit Go.Sort
theorem OutQ.mapk {w0 w : World} {g D : Nat} {lo : Option Addr} {lc : Nat} {L : List Tok} {r : Rs} {X2 : Ex} {ko : Option Addr} {kc : Nat} (op : Int) (tx : ByteArray) (H : OutQ w0 g lo lc L r D X2 ko w) (hD : D ≤ w.heap.size) :
  OutQ w0 g lo lc L (mapX (fun e => .mk op tx 0 0 0 0 [e]) r) D (.mk op tx 0 0 0 0 [X2]) (some ⟨w.heap.size, 0, none⟩) (w.alloc (.cells #[.int .i64 X2.op, .string X2.text, .int .u64 X2.s0, .int .u64 X2.s1, .int .u64 X2.s2, .int .u64 X2.s3, .slice ko X2.kids.length kc] 28)) := by
 have hbl : Below w.heap.size w (w.alloc (.cells #[.int .i64 X2.op, .string X2.text, .int .u64 X2.s0, .int .u64 X2.s1, .int .u64 X2.s2, .int .u64 X2.s3, .slice ko X2.kids.length kc] 28)) := (Below.refl _ _).alloc (Nat.le_refl _) _
 cases r with
 | error f =>
  obtain ⟨h1, k, h2⟩ := H
  exact ⟨h1, k, h2.below hbl⟩
 | ok q =>
  obtain ⟨x, m⟩ := q
  obtain ⟨h1, rfl, n, h2⟩ := H
  exact OutQ.kid op tx (h1.below hbl) (Own.fresh w 28 [.int .i64 x.op, .string x.text, .int .u64 x.s0, .int .u64 x.s1, .int .u64 x.s2, .int .u64 x.s3, .slice ko x.kids.length kc]) hD (HasE.but (But.of_below (S := fun _ => False) hbl) (fun _ h => h.elim) h2)
@[go_sem 2000] theorem ebuildL (k : Int) (t : ByteArray) (A : Option Addr) (n c : Nat) (w : World) : (Instr.build 28 #[(0, .int .i64 k), (1, .string t), (3, .slice A n c)]).run Try.prog w = .ok (.agg #[.int .i64 k, .string t, .int .u64 0, .int .u64 0, .int .u64 0, .int .u64 0, .slice A n c]) w := by kernel_rfl
set_option maxRecDepth 1000000 in
set_option maxHeartbeats 1600000 in
theorem rd_pre (X : Nat → Rs) (big : Bool) (dp : Int) (g : Nat) (lo : Option Addr) (lc : Nat) (L : List Tok) (k : Nat) (hn : (L.length : Int) ≤ 90000) (hk : k ≤ L.length) (htx : ∀ t ∈ L, t.tx.size ≤ 1000000)
  (HS : ∀ (m : Nat), m ≤ L.length → ∀ W, Rd W g lo lc L m none → Calls Try.prog 95 #[.pointer (some ⟨g, 0, none⟩), .int .i64 dp] W fun e w' => Out W g lo lc L (sufO L X big m) e w')
  (HSL : ∀ (m : Nat) (x : Ex) (n : Nat), sufO L X big m = .ok (x, n) → n ≤ L.length) (w : World) (h : Rd w g lo lc L k none) :
  Calls Try.prog 71 #[.pointer (some ⟨g, 0, none⟩), .int .i64 dp] w fun e w' => Out w g lo lc L (preO L X big k) e w' := by
 have HH := Lib.hid h
 have HSS := Lib.hid HS
 have HNW := Lib.hid (fun (W : World) (hW : Rd W g lo lc L k none) => rd_now g lo lc L k none (by omega) (by omega) W hW)
 have HTK := Lib.hid (fun (m : Nat) (hm : (m : Int) ≤ 1000000) (s : ByteArray) (W : World) (hW : Rd W g lo lc L m none) => rd_take s g lo lc L m none (by omega) hm W hW)
 have HFL := Lib.hid (fun (c : Int) (m : Nat) (hm : (m : Int) ≤ 1000000) (W : World) (hW : Rd W g lo lc L m none) => show Calls Try.prog 31 #[.pointer (some ⟨g, 0, none⟩), .int .i64 c] W fun e w' => e = .returned (.agg #[.int .i64 0, .string ⟨#[]⟩, .int .u64 0, .int .u64 0, .int .u64 0, .int .u64 0, .slice none 0 0]) ∧ But (fun j => j = g) W w' ∧ Rd w' g lo lc L m (some (c, ((tkA L m).pos : Int))) from rd_fail c g lo lc L m (by omega) hm W hW)
 have HWD := Lib.hid (fun (m : Nat) (W : World) => rword_any (tkA L m).tx (by
  unfold tkA
  rw [List.getD_eq_getElem?_getD]
  cases hq : L[m]? with
  | none => show (0 : Nat) ≤ maxLen; exact Nat.zero_le _
  | some t => have := htx t (List.mem_of_getElem? hq); show t.tx.size ≤ maxLen; unfold maxLen; omega) W)
 have HR := Lib.hid (Own.fresh w 28 [.int .i64 0, .string ⟨#[]⟩, .int .u64 0, .int .u64 0, .int .u64 0, .int .u64 0, .slice none 0 0])
 have H1 := Lib.hid (h.below ((Below.refl _ _).alloc (Nat.le_refl _) (.cells #[.int .i64 0, .string ⟨#[]⟩, .int .u64 0, .int .u64 0, .int .u64 0, .int .u64 0, .slice none 0 0] 28)))
 have HU := Lib.hid (But.of_below (S := fun j => j = g) ((Below.refl w.heap.size w).alloc (Nat.le_refl _) (.cells #[.int .i64 0, .string ⟨#[]⟩, .int .u64 0, .int .u64 0, .int .u64 0, .int .u64 0, .slice none 0 0] 28)))
 have HGN := Lib.hid (show g < w.heap.size from h.1.lt)
 have HXL := Lib.hid HSL
 have HSP := Lib.hid (show preO L X big k = _ from by unfold preO; rfl)
 generalize preO L X big k = RES at *
 clear h HS HSL
 go_enter Try.func71, Try.ntmps71
 go_upto_region 1 with fail
 have HS1 := Lib.hid (show w.heap.size < (w.alloc (.cells #[.int .i64 0, .string ⟨#[]⟩, .int .u64 0, .int .u64 0, .int .u64 0, .int .u64 0, .slice none 0 0] 28)).heap.size by simp)
 generalize World.alloc w _ = w1 at *
 obtain ⟨N, hN⟩ : ∃ N, w.heap.size = N := ⟨_, rfl⟩
 rw [hN] at HR HGN HS1
 rw [hN]
 have HNN := Lib.hid hN
 clear hN
 go_wp2_with fail
 refine (HNW.out _ H1.out).mono ?_
 obtain ⟨t, ht⟩ : ∃ t, tkA L k = t := ⟨_, rfl⟩
 have HT := Lib.hid ht
 rw [ht] at HSP ⊢
 clear ht
 unfold tokV
 rintro e w2 ⟨rfl, hb2⟩
 have H2 := Lib.hid ((H1.out.below hb2).below ((Below.refl _ _).alloc (Nat.le_refl _) (.cells #[.int .i64 (t.kd : Int), .string t.tx, .int .u64 (t.st.1 : Int), .int .u64 (t.st.2.1 : Int), .int .u64 (t.st.2.2.1 : Int), .int .u64 (t.st.2.2.2 : Int), .int .i64 (t.pos : Int)] 48)))
 have HU2 := Lib.hid ((HU.out.then_below hb2).alloc (.cells #[.int .i64 (t.kd : Int), .string t.tx, .int .u64 (t.st.1 : Int), .int .u64 (t.st.2.1 : Int), .int .u64 (t.st.2.2.1 : Int), .int .u64 (t.st.2.2.2 : Int), .int .i64 (t.pos : Int)] 48))
 have HR2 := Lib.hid ((HR.out.under hb2 HR.out.lt).on_alloc (.cells #[.int .i64 (t.kd : Int), .string t.tx, .int .u64 (t.st.1 : Int), .int .u64 (t.st.2.1 : Int), .int .u64 (t.st.2.2.1 : Int), .int .u64 (t.st.2.2.2 : Int), .int .i64 (t.pos : Int)] 48))
 have HX := Lib.hid (Own.fresh w2 48 [.int .i64 (t.kd : Int), .string t.tx, .int .u64 (t.st.1 : Int), .int .u64 (t.st.2.1 : Int), .int .u64 (t.st.2.2.1 : Int), .int .u64 (t.st.2.2.2 : Int), .int .i64 (t.pos : Int)])
 have HGX := Lib.hid (show N < w2.heap.size from Nat.lt_of_lt_of_le HR.out.lt hb2.size)
 clear hb2 H1 HU HR
 go_upto_region 2 with fail
 generalize World.alloc w2 _ = w3 at *
 generalize w2.heap.size = G at *
 have HGW := Lib.hid (show G < w3.heap.size from HX.out.lt)
 have HX2 := HX
 clear HX
 have HS2 := Lib.hid (show w3.heap.size ≤ w3.heap.size from Nat.le_refl _)
 obtain ⟨z38, hz38⟩ : ∃ z, isS L k [38] = z := ⟨_, rfl⟩
 have HTT := Lib.hid (HTK.out k (by omega) ⟨#[38]⟩ w3 H2.out)
 rw [show (⟨#[38]⟩ : ByteArray).data.toList = [38] from rfl, hz38] at HTT
 rw [hz38] at HSP
 have HZ := Lib.hid hz38
 clear hz38
 go_wp2_with fail
 refine HTT.out.mono ?_
 rintro e w4 ⟨rfl, hbu, hrd⟩
 have HR4 := Lib.hid (HR2.out.but hbu (by have := HGN.out; omega))
 have HU4 := Lib.hid (HU2.out.trans hbu (fun _ _ h => h))
 have HX4 := Lib.hid (HX2.out.but hbu (by have := HGN.out; have := HGX.out; omega))
 have HS4 := Lib.hid (show w3.heap.size ≤ w4.heap.size from Nat.le_trans HS2.out hbu.size)
 have HRD := Lib.hid hrd
 clear hbu hrd HTT H2 HU2 HR2 HX2 HS2
 cases z38
 case true =>
  rw [if_pos rfl] at HSP
  have H4 := Lib.hid (show Rd w4 g lo lc L (k + 1) none from HRD.out)
  have hkl : k + 1 ≤ L.length := isS_lt HZ.out
  go_wp2_with fail
  refine (HSS.out (k + 1) hkl w4 H4.out).mono ?_
  rintro e w6 ⟨hbu, X2, ko, kc, rfl, hq⟩
  unfold exv
  have HE := Lib.hid HSP.out
  have HQ := Lib.hid (OutQ.mapk (kc := kc) 9 ⟨#[]⟩ hq (by exact hbu.size))
  have HUA := Lib.hid ((HU4.out.trans hbu (fun _ _ h => h)).alloc (.cells #[.int .i64 X2.op, .string X2.text, .int .u64 X2.s0, .int .u64 X2.s1, .int .u64 X2.s2, .int .u64 X2.s3, .slice ko X2.kids.length kc] 28))
  have HRA := Lib.hid ((HR4.out.but hbu (by have := HGN.out; omega)).on_alloc (.cells #[.int .i64 X2.op, .string X2.text, .int .u64 X2.s0, .int .u64 X2.s1, .int .u64 X2.s2, .int .u64 X2.s3, .slice ko X2.kids.length kc] 28))
  clear hbu hq H4 HU4 HR4 HX4 HRD
  have HST := Lib.hid (store7_run HRA.out 9 ⟨#[]⟩ 0 0 0 0 (some ⟨w6.heap.size, 0, none⟩) 1 1)
  have HF := Lib.hid (HRA.out.put7 (u0 := .int .i64 9) (u1 := .string ⟨#[]⟩) (u2 := .int .u64 0) (u3 := .int .u64 0) (u4 := .int .u64 0) (u5 := .int .u64 0) (u6 := .slice (some ⟨w6.heap.size, 0, none⟩) 1 1))
  have HZ7 := Lib.hid (Rd.set7 (N := N) (D' := w.heap.size) HH.out (Nat.le_of_eq HNN.out) (by have := HS4.out; have := HGX.out; have := HGW.out; omega) (by have := HS4.out; have := HGX.out; have := HGW.out; have := HNN.out; omega) HUA.out HQ.out (.int .i64 9) (.string ⟨#[]⟩) (.int .u64 0) (.int .u64 0) (.int .u64 0) (.int .u64 0) (.slice (some ⟨w6.heap.size, 0, none⟩) 1 1))
  obtain ⟨w9, hw9⟩ : ∃ w9, set7t (w6.alloc (.cells #[.int .i64 X2.op, .string X2.text, .int .u64 X2.s0, .int .u64 X2.s1, .int .u64 X2.s2, .int .u64 X2.s3, .slice ko X2.kids.length kc] 28)) N (.int .i64 9) (.string ⟨#[]⟩) (.int .u64 0) (.int .u64 0) (.int .u64 0) (.int .u64 0) (.slice (some ⟨w6.heap.size, 0, none⟩) 1 1) = w9 := ⟨_, rfl⟩
  rw [hw9] at HST HF HZ7
  clear hw9 HRA HQ HUA
  obtain ⟨z0, z1, z2, z3, z4, z5, z6⟩ := HF.out.seven
  go_wp2_with (with_reducible refine wpList_store_lit (.pointer (some ⟨N, 0, none⟩)) (.agg #[.int .i64 9, .string ⟨#[]⟩, .int .u64 0, .int .u64 0, .int .u64 0, .int .u64 0, .slice (some ⟨w6.heap.size, 0, none⟩) 1 1]) HST.out ?_ ?_ ?_)
  ·
   rfl
  ·
   rfl
  refine bodyPost_ret (by simp [Act.put, results, Try.results71, go_sem, z0, z1, z2, z3, z4, z5, z6]; rfl) rfl ?_
  rw [HE.out]
  exact ⟨HZ7.out.1, .mk 9 ⟨#[]⟩ 0 0 0 0 [X2], some ⟨w6.heap.size, 0, none⟩, 1, rfl, HZ7.out.2⟩
 case false =>
  rw [if_neg (by decide)] at HSP
  have H4 := Lib.hid (show Rd w4 g lo lc L k none from HRD.out)
  clear HRD HZ
  obtain ⟨z33, hz33⟩ : ∃ z, isS L k [33] = z := ⟨_, rfl⟩
  have HTT := Lib.hid (HTK.out k (by omega) ⟨#[33]⟩ w4 H4.out)
  rw [show (⟨#[33]⟩ : ByteArray).data.toList = [33] from rfl, hz33] at HTT
  rw [hz33] at HSP
  have HZ := Lib.hid hz33
  clear hz33
  go_wp2_with fail
  refine HTT.out.mono ?_
  rintro e w5 ⟨rfl, hbu, hrd⟩
  have HR5 := Lib.hid (HR4.out.but hbu (by have := HGN.out; omega))
  have HU5 := Lib.hid (HU4.out.trans hbu (fun _ _ h => h))
  have HX5 := Lib.hid (HX4.out.but hbu (by have := HGN.out; have := HGX.out; omega))
  have HS5 := Lib.hid (show w3.heap.size ≤ w5.heap.size from Nat.le_trans HS4.out hbu.size)
  have HRD := Lib.hid hrd
  clear hbu hrd HTT H4 HU4 HR4 HX4 HS4
  cases z33
  case true =>
   rw [if_pos rfl] at HSP
   have H5 := Lib.hid (show Rd w5 g lo lc L (k + 1) none from HRD.out)
   have hkl : k + 1 ≤ L.length := isS_lt HZ.out
   go_wp2_with fail
   refine (HSS.out (k + 1) hkl w5 H5.out).mono ?_
   rintro e w6 ⟨hbu, X2, ko, kc, rfl, hq⟩
   unfold exv
   have HE := Lib.hid HSP.out
   have HQ := Lib.hid (OutQ.mapk (kc := kc) 10 ⟨#[]⟩ hq (by exact hbu.size))
   have HUA := Lib.hid ((HU5.out.trans hbu (fun _ _ h => h)).alloc (.cells #[.int .i64 X2.op, .string X2.text, .int .u64 X2.s0, .int .u64 X2.s1, .int .u64 X2.s2, .int .u64 X2.s3, .slice ko X2.kids.length kc] 28))
   have HRA := Lib.hid ((HR5.out.but hbu (by have := HGN.out; omega)).on_alloc (.cells #[.int .i64 X2.op, .string X2.text, .int .u64 X2.s0, .int .u64 X2.s1, .int .u64 X2.s2, .int .u64 X2.s3, .slice ko X2.kids.length kc] 28))
   clear hbu hq H5 HU5 HR5 HX5 HRD
   have HST := Lib.hid (store7_run HRA.out 10 ⟨#[]⟩ 0 0 0 0 (some ⟨w6.heap.size, 0, none⟩) 1 1)
   have HF := Lib.hid (HRA.out.put7 (u0 := .int .i64 10) (u1 := .string ⟨#[]⟩) (u2 := .int .u64 0) (u3 := .int .u64 0) (u4 := .int .u64 0) (u5 := .int .u64 0) (u6 := .slice (some ⟨w6.heap.size, 0, none⟩) 1 1))
   have HZ7 := Lib.hid (Rd.set7 (N := N) (D' := w.heap.size) HH.out (Nat.le_of_eq HNN.out) (by have := HS5.out; have := HGX.out; have := HGW.out; omega) (by have := HS5.out; have := HGX.out; have := HGW.out; have := HNN.out; omega) HUA.out HQ.out (.int .i64 10) (.string ⟨#[]⟩) (.int .u64 0) (.int .u64 0) (.int .u64 0) (.int .u64 0) (.slice (some ⟨w6.heap.size, 0, none⟩) 1 1))
   obtain ⟨w9, hw9⟩ : ∃ w9, set7t (w6.alloc (.cells #[.int .i64 X2.op, .string X2.text, .int .u64 X2.s0, .int .u64 X2.s1, .int .u64 X2.s2, .int .u64 X2.s3, .slice ko X2.kids.length kc] 28)) N (.int .i64 10) (.string ⟨#[]⟩) (.int .u64 0) (.int .u64 0) (.int .u64 0) (.int .u64 0) (.slice (some ⟨w6.heap.size, 0, none⟩) 1 1) = w9 := ⟨_, rfl⟩
   rw [hw9] at HST HF HZ7
   clear hw9 HRA HQ HUA
   obtain ⟨z0, z1, z2, z3, z4, z5, z6⟩ := HF.out.seven
   go_wp2_with (with_reducible refine wpList_store_lit (.pointer (some ⟨N, 0, none⟩)) (.agg #[.int .i64 10, .string ⟨#[]⟩, .int .u64 0, .int .u64 0, .int .u64 0, .int .u64 0, .slice (some ⟨w6.heap.size, 0, none⟩) 1 1]) HST.out ?_ ?_ ?_)
   ·
    rfl
   ·
    rfl
   refine bodyPost_ret (by simp [Act.put, results, Try.results71, go_sem, z0, z1, z2, z3, z4, z5, z6]; rfl) rfl ?_
   rw [HE.out]
   exact ⟨HZ7.out.1, .mk 10 ⟨#[]⟩ 0 0 0 0 [X2], some ⟨w6.heap.size, 0, none⟩, 1, rfl, HZ7.out.2⟩
  case false =>
   rw [if_neg (by decide)] at HSP
   have H5 := Lib.hid (show Rd w5 g lo lc L k none from HRD.out)
   clear HRD HZ
   obtain ⟨z126, hz126⟩ : ∃ z, isS L k [126] = z := ⟨_, rfl⟩
   have HTT := Lib.hid (HTK.out k (by omega) ⟨#[126]⟩ w5 H5.out)
   rw [show (⟨#[126]⟩ : ByteArray).data.toList = [126] from rfl, hz126] at HTT
   rw [hz126] at HSP
   have HZ := Lib.hid hz126
   clear hz126
   go_wp2_with fail
   refine HTT.out.mono ?_
   rintro e w6 ⟨rfl, hbu, hrd⟩
   have HR6 := Lib.hid (HR5.out.but hbu (by have := HGN.out; omega))
   have HU6 := Lib.hid (HU5.out.trans hbu (fun _ _ h => h))
   have HX6 := Lib.hid (HX5.out.but hbu (by have := HGN.out; have := HGX.out; omega))
   have HS6 := Lib.hid (show w3.heap.size ≤ w6.heap.size from Nat.le_trans HS5.out hbu.size)
   have HRD := Lib.hid hrd
   clear hbu hrd HTT H5 HU5 HR5 HX5 HS5
   cases z126
   case true =>
    rw [if_pos rfl] at HSP
    have H6 := Lib.hid (show Rd w6 g lo lc L (k + 1) none from HRD.out)
    have hkl : k + 1 ≤ L.length := isS_lt HZ.out
    go_wp2_with fail
    refine (HSS.out (k + 1) hkl w6 H6.out).mono ?_
    rintro e w7 ⟨hbu, X2, ko, kc, rfl, hq⟩
    unfold exv
    obtain ⟨r, hr⟩ : ∃ r, sufO L X big (k + 1) = r := ⟨_, rfl⟩
    have HXR := Lib.hid (fun x m (h : r = .ok (x, m)) => HXL.out (k + 1) x m (hr.trans h))
    rw [hr] at hq HSP
    clear hr
    have HS7 := Lib.hid (show w6.heap.size ≤ w7.heap.size from hbu.size)
    have HQ3 := Lib.hid (show OutQ w g lo lc L r w6.heap.size X2 ko (w7.alloc (.cells #[.int .i64 X2.op, .string X2.text, .int .u64 X2.s0, .int .u64 X2.s1, .int .u64 X2.s2, .int .u64 X2.s3, .slice ko X2.kids.length kc] 28)) from OutQ.below hq ((Below.refl _ _).alloc (Nat.le_refl _) _))
    have HR7 := Lib.hid ((HR6.out.but hbu (by have := HGN.out; omega)).on_alloc (.cells #[.int .i64 X2.op, .string X2.text, .int .u64 X2.s0, .int .u64 X2.s1, .int .u64 X2.s2, .int .u64 X2.s3, .slice ko X2.kids.length kc] 28))
    have HU7 := Lib.hid ((HU6.out.trans hbu (fun _ _ h => h)).alloc (.cells #[.int .i64 X2.op, .string X2.text, .int .u64 X2.s0, .int .u64 X2.s1, .int .u64 X2.s2, .int .u64 X2.s3, .slice ko X2.kids.length kc] 28))
    have HE7 := Lib.hid (Own.fresh w7 28 [.int .i64 X2.op, .string X2.text, .int .u64 X2.s0, .int .u64 X2.s1, .int .u64 X2.s2, .int .u64 X2.s3, .slice ko X2.kids.length kc])
    clear hbu hq H6 HR6 HU6 HX6 HRD
    go_upto_region 8 with fail
    generalize World.alloc w7 _ = w8 at *
    generalize w7.heap.size = E at *
    have HEL := Lib.hid (show E < w8.heap.size from HE7.out.lt)
    cases r
    case error f =>
     have HE := Lib.hid (show RES = .error f from HSP.out)
     obtain ⟨hf, kf, hR⟩ := HQ3.out
     obtain ⟨c0, c1, c2, c3, c4, c5, cg⟩ := hR.1.six_r
     have c2' : w8.cell? ⟨g, 2, none⟩ = some (.int .i64 f.1) := c2
     have ef : (f.1 == 0) = false := by simp [hf]
     obtain ⟨m0, m1, m2, m3, m4, m5, m6, -⟩ := HE7.out.seven2
     have ml := HE7.out.lt
     have HDD := Lib.hid (show N < w6.heap.size from by have := HS6.out; have := HGX.out; have := HGW.out; omega)
     clear c2 hR hf HSP HXR
     have HQ := Lib.hid (OutQ.mapk (kc := kc) 13 ⟨#[]⟩ HQ3.out (by have := HS7.out; have := HEL.out; omega))
     have HUA := Lib.hid (HU7.out.alloc (.cells #[.int .i64 X2.op, .string X2.text, .int .u64 X2.s0, .int .u64 X2.s1, .int .u64 X2.s2, .int .u64 X2.s3, .slice ko X2.kids.length kc] 28))
     have HRA := Lib.hid (HR7.out.on_alloc (.cells #[.int .i64 X2.op, .string X2.text, .int .u64 X2.s0, .int .u64 X2.s1, .int .u64 X2.s2, .int .u64 X2.s3, .slice ko X2.kids.length kc] 28))
     have HST := Lib.hid (store7_run HRA.out 13 ⟨#[]⟩ 0 0 0 0 (some ⟨w8.heap.size, 0, none⟩) 1 1)
     have HF := Lib.hid (HRA.out.put7 (u0 := .int .i64 13) (u1 := .string ⟨#[]⟩) (u2 := .int .u64 0) (u3 := .int .u64 0) (u4 := .int .u64 0) (u5 := .int .u64 0) (u6 := .slice (some ⟨w8.heap.size, 0, none⟩) 1 1))
     have HZ7 := Lib.hid (Rd.set7 (N := N) (D' := w.heap.size) HH.out (Nat.le_of_eq HNN.out) (by have := HDD.out; omega) (by have := HDD.out; have := HNN.out; omega) HUA.out HQ.out (.int .i64 13) (.string ⟨#[]⟩) (.int .u64 0) (.int .u64 0) (.int .u64 0) (.int .u64 0) (.slice (some ⟨w8.heap.size, 0, none⟩) 1 1))
     obtain ⟨w9, hw9⟩ : ∃ w9, set7t (w8.alloc (.cells #[.int .i64 X2.op, .string X2.text, .int .u64 X2.s0, .int .u64 X2.s1, .int .u64 X2.s2, .int .u64 X2.s3, .slice ko X2.kids.length kc] 28)) N (.int .i64 13) (.string ⟨#[]⟩) (.int .u64 0) (.int .u64 0) (.int .u64 0) (.int .u64 0) (.slice (some ⟨w8.heap.size, 0, none⟩) 1 1) = w9 := ⟨_, rfl⟩
     rw [hw9] at HST HF HZ7
     clear hw9 HRA HQ HUA
     obtain ⟨z0, z1, z2, z3, z4, z5, z6⟩ := HF.out.seven
     go_wp2_with (with_reducible refine wpList_store_lit (.pointer (some ⟨N, 0, none⟩)) (.agg #[.int .i64 13, .string ⟨#[]⟩, .int .u64 0, .int .u64 0, .int .u64 0, .int .u64 0, .slice (some ⟨w8.heap.size, 0, none⟩) 1 1]) HST.out ?_ ?_ ?_)
     ·
      rfl
     ·
      rfl
     refine bodyPost_ret (by simp [Act.put, results, Try.results71, go_sem, z0, z1, z2, z3, z4, z5, z6]; rfl) rfl ?_
     rw [HE.out]
     exact ⟨HZ7.out.1, .mk 13 ⟨#[]⟩ 0 0 0 0 [X2], some ⟨w8.heap.size, 0, none⟩, 1, rfl, HZ7.out.2⟩
    case ok pq =>
     obtain ⟨x, m⟩ := pq
     obtain ⟨hR, hx, n2, hE2⟩ := HQ3.out
     subst hx
     have hml := HXR.out x m rfl
     have HD7 := Lib.hid hR
     have HT7 := Lib.hid hE2
     obtain ⟨c0, c1, c2, c3, c4, c5, cg⟩ := hR.1.six_r
     have c2' : w8.cell? ⟨g, 2, none⟩ = some (.int .i64 0) := c2
     obtain ⟨zt, hzt⟩ : ∃ z, isS L m [126] = z := ⟨_, rfl⟩
     have HTT := Lib.hid (HTK.out m (by omega) ⟨#[126]⟩ w8 HD7.out)
     rw [show (⟨#[126]⟩ : ByteArray).data.toList = [126] from rfl, hzt] at HTT
     have HSQ := Lib.hid (show RES = if zt = true then .ok (kidX 13 x, m + 1) else badF L 2 m from by rw [HSP.out, ← hzt])
     clear hzt c2 hR hE2 HQ3 HSP
     go_wp2_with fail
     refine HTT.out.mono ?_
     rintro e w9' ⟨rfl, hbu, hrd⟩
     have HR8 := Lib.hid (HR7.out.but hbu (by have := HGN.out; omega))
     have HU8 := Lib.hid (HU7.out.trans hbu (fun _ _ h => h))
     have HE8 := Lib.hid (HE7.out.but hbu (by have := HGN.out; have := HGX.out; have := HGW.out; have := HS6.out; have := HS7.out; omega))
     have HT8 := Lib.hid (HasE.but hbu (fun j hj => by have := HGN.out; have := HGX.out; have := HGW.out; have := HS6.out; omega) HT7.out)
     have HEL8 := Lib.hid (show E < w9'.heap.size from HE8.out.lt)
     have HRD := Lib.hid hrd
     clear hbu hrd HTT HR7 HU7 HE7 HT7 HD7 c0 c1 c2' c3 c4 c5 cg
     cases zt
     case false =>
      rw [if_neg (by decide)] at HSQ
      have HD8 := Lib.hid (show Rd w9' g lo lc L m none from HRD.out)
      have HE := Lib.hid (show RES = badF L 2 (m) from by exact HSQ.out)
      go_wp2_with fail
      refine (HFL.out 2 (m) (by omega) _ HD8.out).mono ?_
      rintro e w10 ⟨rfl, hbu, hrd⟩
      have HR9 := Lib.hid (HR8.out.but hbu (by have := HGN.out; omega))
      have HU9 := Lib.hid (HU8.out.trans hbu (fun _ _ h => h))
      have HD9 := Lib.hid hrd
      clear hbu hrd
      obtain ⟨z0, z1, z2, z3, z4, z5, z6, y0, y1, y2, y3, y4, y5, y6⟩ := HR9.out.seven2
      have zl := HR9.out.lt
      go_wp2
      rw [set7t_fold]
      have HF := HR9.out.put7 (u0 := .int .i64 0) (u1 := .string ⟨#[]⟩) (u2 := .int .u64 0) (u3 := .int .u64 0) (u4 := .int .u64 0) (u5 := .int .u64 0) (u6 := .slice none 0 0)
      obtain ⟨hU, hR⟩ := Rd.fin HH.out (Nat.le_of_eq HNN.out) HU9.out HD9.out (.int .i64 0) (.string ⟨#[]⟩) (.int .u64 0) (.int .u64 0) (.int .u64 0) (.int .u64 0) (.slice none 0 0)
      clear z0 z1 z2 z3 z4 z5 z6 y0 y1 y2 y3 y4 y5 y6
      generalize set7t w10 N (.int .i64 0) (.string ⟨#[]⟩) (.int .u64 0) (.int .u64 0) (.int .u64 0) (.int .u64 0) (.slice none 0 0) = w99 at *
      obtain ⟨z0, z1, z2, z3, z4, z5, z6⟩ := HF.seven
      refine bodyPost_ret (by simp [results, Try.results71, go_sem, z0, z1, z2, z3, z4, z5, z6]; rfl) rfl ?_
      rw [HE.out]
      exact ⟨hU, leafX 0 ⟨#[]⟩, none, 0, rfl, by show (2 : Int) ≠ 0; decide, m, hR⟩
     case true =>
      rw [if_pos rfl] at HSQ
      have HD8 := Lib.hid (show Rd w9' g lo lc L (m + 1) none from HRD.out)
      have HE := Lib.hid HSQ.out
      obtain ⟨m0, m1, m2, m3, m4, m5, m6, -⟩ := HE8.out.seven2
      have ml := HE8.out.lt
      have HQ8 := Lib.hid (show OutQ w g lo lc L (.ok (x, m + 1)) w6.heap.size x ko w9' from ⟨HD8.out, rfl, n2, HT8.out⟩)
      have HDD := Lib.hid (show N < w6.heap.size from by have := HS6.out; have := HGX.out; have := HGW.out; omega)
      have HQ := Lib.hid (OutQ.mapk (kc := kc) 13 ⟨#[]⟩ HQ8.out (by have := HS7.out; have := HEL8.out; omega))
      have HUA := Lib.hid (HU8.out.alloc (.cells #[.int .i64 x.op, .string x.text, .int .u64 x.s0, .int .u64 x.s1, .int .u64 x.s2, .int .u64 x.s3, .slice ko x.kids.length kc] 28))
      have HRA := Lib.hid (HR8.out.on_alloc (.cells #[.int .i64 x.op, .string x.text, .int .u64 x.s0, .int .u64 x.s1, .int .u64 x.s2, .int .u64 x.s3, .slice ko x.kids.length kc] 28))
      have HST := Lib.hid (store7_run HRA.out 13 ⟨#[]⟩ 0 0 0 0 (some ⟨w9'.heap.size, 0, none⟩) 1 1)
      have HF := Lib.hid (HRA.out.put7 (u0 := .int .i64 13) (u1 := .string ⟨#[]⟩) (u2 := .int .u64 0) (u3 := .int .u64 0) (u4 := .int .u64 0) (u5 := .int .u64 0) (u6 := .slice (some ⟨w9'.heap.size, 0, none⟩) 1 1))
      have HZ7 := Lib.hid (Rd.set7 (N := N) (D' := w.heap.size) HH.out (Nat.le_of_eq HNN.out) (by have := HDD.out; omega) (by have := HDD.out; have := HNN.out; omega) HUA.out HQ.out (.int .i64 13) (.string ⟨#[]⟩) (.int .u64 0) (.int .u64 0) (.int .u64 0) (.int .u64 0) (.slice (some ⟨w9'.heap.size, 0, none⟩) 1 1))
      obtain ⟨w9, hw9⟩ : ∃ w9, set7t (w9'.alloc (.cells #[.int .i64 x.op, .string x.text, .int .u64 x.s0, .int .u64 x.s1, .int .u64 x.s2, .int .u64 x.s3, .slice ko x.kids.length kc] 28)) N (.int .i64 13) (.string ⟨#[]⟩) (.int .u64 0) (.int .u64 0) (.int .u64 0) (.int .u64 0) (.slice (some ⟨w9'.heap.size, 0, none⟩) 1 1) = w9 := ⟨_, rfl⟩
      rw [hw9] at HST HF HZ7
      clear hw9 HRA HQ HUA
      obtain ⟨z0, z1, z2, z3, z4, z5, z6⟩ := HF.out.seven
      go_wp2_with (with_reducible refine wpList_store_lit (.pointer (some ⟨N, 0, none⟩)) (.agg #[.int .i64 13, .string ⟨#[]⟩, .int .u64 0, .int .u64 0, .int .u64 0, .int .u64 0, .slice (some ⟨w9'.heap.size, 0, none⟩) 1 1]) HST.out ?_ ?_ ?_)
      ·
       rfl
      ·
       rfl
      refine bodyPost_ret (by simp [Act.put, results, Try.results71, go_sem, z0, z1, z2, z3, z4, z5, z6]; rfl) rfl ?_
      rw [HE.out]
      exact ⟨HZ7.out.1, .mk 13 ⟨#[]⟩ 0 0 0 0 [x], some ⟨w9'.heap.size, 0, none⟩, 1, rfl, HZ7.out.2⟩
   case false =>
    rw [if_neg (by decide)] at HSP
    have H6 := Lib.hid (show Rd w6 g lo lc L k none from HRD.out)
    clear HRD HZ
    have x0 : w6.cell? ⟨G, 0, none⟩ = some (.int .i64 (t.kd : Int)) := HX6.out.cell 0
    have xl := HX6.out.lt
    by_cases q1 : t.kd = 1
    ·
     have i1 : ((t.kd : Int) == 1) = true := by simp [q1]
     have hw1 : IntKind.i64.wrap ((k : Int) + 1) = (k : Int) + 1 := by rw [IntKind.wrap_i64]; omega
     obtain ⟨c0, c1, c2, c3, c4, c5, cg⟩ := H6.out.1.six_r
     by_cases h1 : k + 1 < L.length
     ·
      obtain ⟨y, hy⟩ : ∃ y, L[k + 1]? = some y := ⟨_, List.getElem?_eq_getElem h1⟩
      obtain ⟨b, off, hlo, hb, a0, a1, -⟩ := H6.out.2.1 (k + 1) y hy
      subst hlo
      clear hw1
      have hw1 : IntKind.i64.wrap ((k : Int) + 1) = ((k + 1 : Nat) : Int) := by rw [IntKind.wrap_i64]; omega
      have h1' : decide (((k + 1 : Nat) : Int) < (L.length : Int)) = true := decide_eq_true (by omega)
      have h1i : ((k + 1 : Nat) : Int) < (L.length : Int) := by omega
      have HI := Lib.hid (show isS L (k + 1) [58] = (y.kd == 4 && (y.tx.data.toList == [58])) from by unfold isS; rw [tkA_in hy])
      generalize hj : k + 1 = j at hw1 h1' h1i a0 a1
      by_cases q4 : y.kd = 4
      ·
       have i4 : ((y.kd : Int) == 4) = true := by simp [q4]
       obtain ⟨z, hz⟩ : ∃ z, (y.tx.toList == [58]) = z := ⟨_, rfl⟩
       have HI2 := Lib.hid (show isS L (k + 1) [58] = z from by rw [HI.out, q4, ← hz, ByteArray.toList_eq]; rfl)
       cases z
       ·
        have HE := Lib.hid (show RES = sufO L X big k from by rw [HSP.out, if_neg (by rw [HI2.out]; simp)])
        go_wp2_with fail
        go_quiet (fail)
        have hbd : Below w6.heap.size w6 (w6.drewN nq) := below_drewN (Below.refl _ _) nq
        have HR7 := Lib.hid (show Own (w6.drewN nq) N _ _ from HR6.out.on_drewN nq)
        have HU7 := Lib.hid (HU6.out.then_below hbd)
        have H7 := Lib.hid (H6.out.below hbd)
        have HS7 := Lib.hid (show N < (w6.drewN nq).heap.size from by have := HS6.out; have := HGX.out; have := HGW.out; have := hbd.size; omega)
        clear hbd HR6 HU6 H6 HX6 x0 xl HSP c0 c1 c2 c3 c4 c5 cg a0 a1
        generalize World.drewN w6 nq = w7 at *
        go_wp2_with fail
        refine (HSS.out k hk w7 H7.out).mono ?_
        rintro e w8 ⟨hbu, X2, ko, kc, rfl, hq⟩
        unfold exv
        have HQ := Lib.hid (show OutQ w g _ lc L (sufO L X big k) w7.heap.size X2 ko w8 from hq)
        have HR8 := Lib.hid (HR7.out.but hbu (by have := HGN.out; omega))
        have HU8 := Lib.hid (HU7.out.trans hbu (fun _ _ h => h))
        clear hbu hq HR7 HU7 H7
        obtain ⟨z0, z1, z2, z3, z4, z5, z6, y0, y1, y2, y3, y4, y5, y6⟩ := HR8.out.seven2
        have zl := HR8.out.lt
        go_wp2
        rw [set7t_fold]
        have HF := HR8.out.put7 (u0 := .int .i64 X2.op) (u1 := .string X2.text) (u2 := .int .u64 X2.s0) (u3 := .int .u64 X2.s1) (u4 := .int .u64 X2.s2) (u5 := .int .u64 X2.s3) (u6 := .slice ko X2.kids.length kc)
        obtain ⟨hU, hQ⟩ := Rd.set7 (N := N) (D' := w.heap.size) HH.out (Nat.le_of_eq HNN.out) (by have := HS7.out; omega) (by have := HS7.out; have := HNN.out; omega) HU8.out HQ.out (.int .i64 X2.op) (.string X2.text) (.int .u64 X2.s0) (.int .u64 X2.s1) (.int .u64 X2.s2) (.int .u64 X2.s3) (.slice ko X2.kids.length kc)
        clear z0 z1 z2 z3 z4 z5 z6 y0 y1 y2 y3 y4 y5 y6
        generalize set7t _ N _ _ _ _ _ _ _ = w9 at *
        obtain ⟨z0, z1, z2, z3, z4, z5, z6⟩ := HF.seven
        refine bodyPost_ret (by simp [results, Try.results71, go_sem, z0, z1, z2, z3, z4, z5, z6]; rfl) rfl ?_
        rw [HE.out]
        exact ⟨hU, X2, ko, kc, rfl, hQ⟩
       ·
        have HI3 := Lib.hid (show ((t.kd == 1) && decide (k + 1 < L.length) && isS L (k + 1) [58]) = true from by rw [HI2.out, q1]; simp; omega)
        rw [if_pos HI3.out] at HSP
        have HKL := Lib.hid (show k + 2 ≤ L.length from by omega)
        have x1 : w6.cell? ⟨G, 1, none⟩ = some (.string t.tx) := HX6.out.cell 1
        have hw2 : IntKind.i64.wrap ((k : Int) + 2) = (k : Int) + 2 := by rw [IntKind.wrap_i64]; omega
        have HW1 := Lib.hid (show ∀ W : World, Calls Try.prog 51 #[.string t.tx] W fun e W' => e = .returned (.bool (wordB t.tx)) ∧ W = W' from by rw [← HT.out]; exact HWD.out k)
        go_wp2_with fail
        go_quiet (fail)
        have hbd : Below w6.heap.size w6 (w6.drewN nq) := below_drewN (Below.refl _ _) nq
        have HR7 := Lib.hid (show Own (w6.drewN nq) N _ _ from HR6.out.on_drewN nq)
        have HX7 := Lib.hid (show Own (w6.drewN nq) G _ _ from HX6.out.on_drewN nq)
        have HU7 := Lib.hid (HU6.out.then_below hbd)
        have H7 := Lib.hid (H6.out.below hbd)
        have HS7 := Lib.hid (show w3.heap.size ≤ (w6.drewN nq).heap.size from Nat.le_trans HS6.out hbd.size)
        clear hbd HR6 HU6 H6 HX6 x0 x1 xl c0 c1 c2 c3 c4 c5 cg a0 a1
        generalize World.drewN w6 nq = w7 at *
        have x1 : w7.cell? ⟨G, 1, none⟩ = some (.string t.tx) := HX7.out.cell 1
        have xl := HX7.out.lt
        go_wp2_with fail
        refine (HW1.out _).mono ?_
        rintro e w8 ⟨rfl, rfl⟩
        cases hwb : wordB t.tx
        case false =>
         have HSF := Lib.hid (show RES = badF L 2 k from HSP.out.trans (if_neg (by rw [hwb]; decide)))
         clear x1 xl HSP
         have HE := Lib.hid (show RES = badF L 2 (k) from by exact HSF.out)
         go_wp2_with fail
         refine (HFL.out 2 (k) (by omega) _ H7.out).mono ?_
         rintro e w10 ⟨rfl, hbu, hrd⟩
         have HR9 := Lib.hid (HR7.out.but hbu (by have := HGN.out; omega))
         have HU9 := Lib.hid (HU7.out.trans hbu (fun _ _ h => h))
         have HD9 := Lib.hid hrd
         clear hbu hrd
         obtain ⟨z0, z1, z2, z3, z4, z5, z6, y0, y1, y2, y3, y4, y5, y6⟩ := HR9.out.seven2
         have zl := HR9.out.lt
         go_wp2
         rw [set7t_fold]
         have HF := HR9.out.put7 (u0 := .int .i64 0) (u1 := .string ⟨#[]⟩) (u2 := .int .u64 0) (u3 := .int .u64 0) (u4 := .int .u64 0) (u5 := .int .u64 0) (u6 := .slice none 0 0)
         obtain ⟨hU, hR⟩ := Rd.fin HH.out (Nat.le_of_eq HNN.out) HU9.out HD9.out (.int .i64 0) (.string ⟨#[]⟩) (.int .u64 0) (.int .u64 0) (.int .u64 0) (.int .u64 0) (.slice none 0 0)
         clear z0 z1 z2 z3 z4 z5 z6 y0 y1 y2 y3 y4 y5 y6
         generalize set7t w10 N (.int .i64 0) (.string ⟨#[]⟩) (.int .u64 0) (.int .u64 0) (.int .u64 0) (.int .u64 0) (.slice none 0 0) = w99 at *
         obtain ⟨z0, z1, z2, z3, z4, z5, z6⟩ := HF.seven
         refine bodyPost_ret (by simp [results, Try.results71, go_sem, z0, z1, z2, z3, z4, z5, z6]; rfl) rfl ?_
         rw [HE.out]
         exact ⟨hU, leafX 0 ⟨#[]⟩, none, 0, rfl, by show (2 : Int) ≠ 0; decide, k, hR⟩
        case true =>
         have HSF := Lib.hid (show RES = mapX (fun e => .mk 12 t.tx 0 0 0 0 [e]) (sufO L X big (k + 2)) from HSP.out.trans (if_pos hwb))
         obtain ⟨c0, c1, c2, c3, c4, c5, cg⟩ := H7.out.1.six_r
         have cf : w7.frozen? ⟨g, 1, none⟩ = false := H7.out.1.thaw 1
         have H8 := Lib.hid ((H7.out.at1 (k + 2) (.int .i64 ((k : Int) + 2)) (by simp)).below ((Below.refl _ _).drew))
         have HU8 := Lib.hid ((HU7.out.setCell (p := ⟨g, 1, none⟩) (fun _ => rfl) (.int .i64 ((k : Int) + 2))).drew)
         have HR8 := Lib.hid ((HR7.out.off (p := ⟨g, 1, none⟩) (by have := HGN.out; show N ≠ g; omega) (.int .i64 ((k : Int) + 2))).on_drew)
         have HX8 := Lib.hid ((HX7.out.off (p := ⟨g, 1, none⟩) (by have := HGN.out; have := HGX.out; show G ≠ g; omega) (.int .i64 ((k : Int) + 2))).on_drew)
         have HS8 := Lib.hid (show w3.heap.size ≤ ((w7.setCell ⟨g, 1, none⟩ (.int .i64 ((k : Int) + 2))).drew).heap.size by have := HS7.out; simpa [World.setCell] using this)
         have HNG := Lib.hid (show G ≠ N from by have := HGX.out; omega)
         go_upto_region 15 with fail
         clear c0 c1 c2 c3 c4 c5 cg cf H7 HU7 HR7 HX7 x1 xl HS7 HSP
         refine wp_region_held (S := fun Wx => G < Wx.heap.size ∧ Wx.cell? ⟨G, 1, none⟩ = some (.string t.tx)) (by kernel_rfl) ?_
         change wpAnyH _ _ _ _ _ _ _ _ (World.drew _)
         generalize World.drew _ = wb at *
         have HS := Lib.hid (show G < wb.heap.size ∧ wb.cell? ⟨G, 1, none⟩ = some (.string t.tx) from ⟨HX8.out.lt, HX8.out.cell 1⟩)
         refine wpAnyH_take (i := 0) (v := ?_) rfl (by kernel_rfl) (by kernel_rfl) (by kernel_rfl) (fun _ _ _ h => h) (Or.inl ⟨by rfl, ?_⟩) HS.out ?_
         rotate_left
         ·
          intro Wx hWx
          go_simp
          try with_reducible rfl
         go_simp
         refine wpAnyH_take (i := 1) (v := ?_) rfl (by kernel_rfl) (by kernel_rfl) (by kernel_rfl) (fun _ _ _ h => h) (Or.inl ⟨by rfl, ?_⟩) HS.out ?_
         rotate_left
         ·
          intro Wx hWx
          obtain ⟨q1, q2⟩ := hWx
          go_simp
          try with_reducible rfl
         go_simp
         refine wpAnyH_take (i := 2) (v := ?_) rfl (by kernel_rfl) (by kernel_rfl) (by kernel_rfl) (fun _ _ _ h => h) (Or.inl ⟨by rfl, ?_⟩) HS.out ?_
         rotate_left
         ·
          intro Wx hWx
          go_simp
          try with_reducible rfl
         go_simp
         refine wpAnyH_take (i := 3) (v := ?_) rfl (by kernel_rfl) (by kernel_rfl) (by kernel_rfl) (fun _ _ _ h => h) (Or.inl ⟨by rfl, ?_⟩) HS.out ?_
         rotate_left
         ·
          intro Wx hWx
          go_simp
          try with_reducible rfl
         go_simp
         refine held_one (i := 4) (by kernel_rfl) (op_call (f := 95) (vs := #[.pointer (some ⟨g, 0, none⟩), .int .i64 dp]) rfl (by kernel_rfl) (by go_simp) ?_)
         refine (HSS.out (k + 2) HKL.out wb H8.out).mono ?_
         rintro e w9 ⟨hbu, X2, ko, kc, rfl, hq⟩
         have HX9 := Lib.hid (HX8.out.but hbu (by have := HGN.out; have := HGX.out; omega))
         have HR9 := Lib.hid (HR8.out.but hbu (by have := HGN.out; omega))
         have HU9 := Lib.hid (HU8.out.trans hbu (fun _ _ h => h))
         have HQ9 := Lib.hid (show OutQ w g _ lc L (sufO L X big (k + 2)) wb.heap.size X2 ko w9 from hq)
         have HZ9 := Lib.hid (show wb.heap.size ≤ w9.heap.size from hbu.size)
         clear hbu hq HS
         have HS := Lib.hid (show G < w9.heap.size ∧ w9.cell? ⟨G, 1, none⟩ = some (.string t.tx) from ⟨HX9.out.lt, HX9.out.cell 1⟩)
         refine ⟨_, rfl, HS.out, ?_⟩
         unfold exv
         go_simp
         refine held_one (i := 5) (by kernel_rfl) (op_value (v := .slice (some ⟨w9.heap.size, 0, none⟩) 1 1) (w' := w9.alloc (.cells #[.int .i64 X2.op, .string X2.text, .int .u64 X2.s0, .int .u64 X2.s1, .int .u64 X2.s2, .int .u64 X2.s3, .slice ko X2.kids.length kc] 28)) rfl (by kernel_rfl) (by go_simp) ?_)
         have HX10 := Lib.hid (HX9.out.on_alloc (.cells #[.int .i64 X2.op, .string X2.text, .int .u64 X2.s0, .int .u64 X2.s1, .int .u64 X2.s2, .int .u64 X2.s3, .slice ko X2.kids.length kc] 28))
         clear HS
         have HS := Lib.hid (show G < (w9.alloc (.cells #[.int .i64 X2.op, .string X2.text, .int .u64 X2.s0, .int .u64 X2.s1, .int .u64 X2.s2, .int .u64 X2.s3, .slice ko X2.kids.length kc] 28)).heap.size ∧ (w9.alloc (.cells #[.int .i64 X2.op, .string X2.text, .int .u64 X2.s0, .int .u64 X2.s1, .int .u64 X2.s2, .int .u64 X2.s3, .slice ko X2.kids.length kc] 28)).cell? ⟨G, 1, none⟩ = some (.string t.tx) from ⟨HX10.out.lt, HX10.out.cell 1⟩)
         refine ⟨HS.out, ?_⟩
         go_simp
         refine wpAnyH_take (i := 6) (v := ?_) rfl (by kernel_rfl) (by kernel_rfl) (by kernel_rfl) (fun _ _ _ h => h) (Or.inl ⟨by rfl, ?_⟩) HS.out ?_
         rotate_left
         ·
          intro Wx hWx
          go_simp
          try with_reducible rfl
         go_simp
         have HDD := Lib.hid (show N < wb.heap.size from by have := HS8.out; have := HGX.out; have := HGW.out; omega)
         have HQ := Lib.hid (OutQ.mapk (kc := kc) 12 t.tx HQ9.out (by exact HZ9.out))
         have HUA := Lib.hid (HU9.out.alloc (.cells #[.int .i64 X2.op, .string X2.text, .int .u64 X2.s0, .int .u64 X2.s1, .int .u64 X2.s2, .int .u64 X2.s3, .slice ko X2.kids.length kc] 28))
         have HRA := Lib.hid (HR9.out.on_alloc (.cells #[.int .i64 X2.op, .string X2.text, .int .u64 X2.s0, .int .u64 X2.s1, .int .u64 X2.s2, .int .u64 X2.s3, .slice ko X2.kids.length kc] 28))
         have HST := Lib.hid (store7_run HRA.out 12 t.tx 0 0 0 0 (some ⟨w9.heap.size, 0, none⟩) 1 1)
         have HF := Lib.hid (HRA.out.put7 (u0 := .int .i64 12) (u1 := .string t.tx) (u2 := .int .u64 0) (u3 := .int .u64 0) (u4 := .int .u64 0) (u5 := .int .u64 0) (u6 := .slice (some ⟨w9.heap.size, 0, none⟩) 1 1))
         have HZ7 := Lib.hid (Rd.set7 (N := N) (D' := w.heap.size) HH.out (Nat.le_of_eq HNN.out) (by have := HDD.out; omega) (by have := HDD.out; have := HNN.out; omega) HUA.out HQ.out (.int .i64 12) (.string t.tx) (.int .u64 0) (.int .u64 0) (.int .u64 0) (.int .u64 0) (.slice (some ⟨w9.heap.size, 0, none⟩) 1 1))
         have HX11 := Lib.hid (HX10.out.but (But.set7 (w9.alloc (.cells #[.int .i64 X2.op, .string X2.text, .int .u64 X2.s0, .int .u64 X2.s1, .int .u64 X2.s2, .int .u64 X2.s3, .slice ko X2.kids.length kc] 28)) N (.int .i64 12) (.string t.tx) (.int .u64 0) (.int .u64 0) (.int .u64 0) (.int .u64 0) (.slice (some ⟨w9.heap.size, 0, none⟩) 1 1)) HNG.out)
         obtain ⟨w11, hw11⟩ : ∃ w11, set7t (w9.alloc (.cells #[.int .i64 X2.op, .string X2.text, .int .u64 X2.s0, .int .u64 X2.s1, .int .u64 X2.s2, .int .u64 X2.s3, .slice ko X2.kids.length kc] 28)) N (.int .i64 12) (.string t.tx) (.int .u64 0) (.int .u64 0) (.int .u64 0) (.int .u64 0) (.slice (some ⟨w9.heap.size, 0, none⟩) 1 1) = w11 := ⟨_, rfl⟩
         rw [hw11] at HST HF HZ7 HX11
         clear hw11 HRA HQ HUA
         refine held_one (i := 7) (by kernel_rfl) (op_store rfl (by kernel_rfl) _ _ _ rfl (.pointer (some ⟨N, 0, none⟩)) (.agg #[.int .i64 12, .string t.tx, .int .u64 0, .int .u64 0, .int .u64 0, .int .u64 0, .slice (some ⟨w9.heap.size, 0, none⟩) 1 1]) rfl rfl HST.out ?_)
         refine ⟨⟨HX11.out.lt, HX11.out.cell 1⟩, ?_⟩
         refine wpAnyH_done (by kernel_rfl) ?_ _
         obtain ⟨z0, z1, z2, z3, z4, z5, z6⟩ := HF.out.seven
         go_wp2
         refine bodyPost_ret (by simp [Act.put, results, Try.results71, go_sem, z0, z1, z2, z3, z4, z5, z6]; rfl) rfl ?_
         rw [HSF.out]
         exact ⟨HZ7.out.1, .mk 12 t.tx 0 0 0 0 [X2], some ⟨w9.heap.size, 0, none⟩, 1, rfl, HZ7.out.2⟩
      ·
       have i4 : ((y.kd : Int) == 4) = false := beq_eq_false_iff_ne.2 (by omega)
       have i4n : (y.kd == 4) = false := beq_eq_false_iff_ne.2 q4
       have HE := Lib.hid (show RES = sufO L X big k from by rw [HSP.out, if_neg (by rw [HI.out, i4n]; simp)])
       go_wp2_with fail
       go_quiet (fail)
       have hbd : Below w6.heap.size w6 (w6.drewN nq) := below_drewN (Below.refl _ _) nq
       have HR7 := Lib.hid (show Own (w6.drewN nq) N _ _ from HR6.out.on_drewN nq)
       have HU7 := Lib.hid (HU6.out.then_below hbd)
       have H7 := Lib.hid (H6.out.below hbd)
       have HS7 := Lib.hid (show N < (w6.drewN nq).heap.size from by have := HS6.out; have := HGX.out; have := HGW.out; have := hbd.size; omega)
       clear hbd HR6 HU6 H6 HX6 x0 xl HSP c0 c1 c2 c3 c4 c5 cg a0 a1
       generalize World.drewN w6 nq = w7 at *
       go_wp2_with fail
       refine (HSS.out k hk w7 H7.out).mono ?_
       rintro e w8 ⟨hbu, X2, ko, kc, rfl, hq⟩
       unfold exv
       have HQ := Lib.hid (show OutQ w g _ lc L (sufO L X big k) w7.heap.size X2 ko w8 from hq)
       have HR8 := Lib.hid (HR7.out.but hbu (by have := HGN.out; omega))
       have HU8 := Lib.hid (HU7.out.trans hbu (fun _ _ h => h))
       clear hbu hq HR7 HU7 H7
       obtain ⟨z0, z1, z2, z3, z4, z5, z6, y0, y1, y2, y3, y4, y5, y6⟩ := HR8.out.seven2
       have zl := HR8.out.lt
       go_wp2
       rw [set7t_fold]
       have HF := HR8.out.put7 (u0 := .int .i64 X2.op) (u1 := .string X2.text) (u2 := .int .u64 X2.s0) (u3 := .int .u64 X2.s1) (u4 := .int .u64 X2.s2) (u5 := .int .u64 X2.s3) (u6 := .slice ko X2.kids.length kc)
       obtain ⟨hU, hQ⟩ := Rd.set7 (N := N) (D' := w.heap.size) HH.out (Nat.le_of_eq HNN.out) (by have := HS7.out; omega) (by have := HS7.out; have := HNN.out; omega) HU8.out HQ.out (.int .i64 X2.op) (.string X2.text) (.int .u64 X2.s0) (.int .u64 X2.s1) (.int .u64 X2.s2) (.int .u64 X2.s3) (.slice ko X2.kids.length kc)
       clear z0 z1 z2 z3 z4 z5 z6 y0 y1 y2 y3 y4 y5 y6
       generalize set7t _ N _ _ _ _ _ _ _ = w9 at *
       obtain ⟨z0, z1, z2, z3, z4, z5, z6⟩ := HF.seven
       refine bodyPost_ret (by simp [results, Try.results71, go_sem, z0, z1, z2, z3, z4, z5, z6]; rfl) rfl ?_
       rw [HE.out]
       exact ⟨hU, X2, ko, kc, rfl, hQ⟩
     ·
      have h1' : decide ((k : Int) + 1 < (L.length : Int)) = false := decide_eq_false (by omega)
      have h1i : ¬ (k : Int) + 1 < (L.length : Int) := by omega
      have HE := Lib.hid (show RES = sufO L X big k from by rw [HSP.out, if_neg (by simp [h1])])
      go_wp2_with fail
      go_quiet (fail)
      have hbd : Below w6.heap.size w6 (w6.drewN nq) := below_drewN (Below.refl _ _) nq
      have HR7 := Lib.hid (show Own (w6.drewN nq) N _ _ from HR6.out.on_drewN nq)
      have HU7 := Lib.hid (HU6.out.then_below hbd)
      have H7 := Lib.hid (H6.out.below hbd)
      have HS7 := Lib.hid (show N < (w6.drewN nq).heap.size from by have := HS6.out; have := HGX.out; have := HGW.out; have := hbd.size; omega)
      clear hbd HR6 HU6 H6 HX6 x0 xl HSP c0 c1 c2 c3 c4 c5 cg
      generalize World.drewN w6 nq = w7 at *
      go_wp2_with fail
      refine (HSS.out k hk w7 H7.out).mono ?_
      rintro e w8 ⟨hbu, X2, ko, kc, rfl, hq⟩
      unfold exv
      have HQ := Lib.hid (show OutQ w g _ lc L (sufO L X big k) w7.heap.size X2 ko w8 from hq)
      have HR8 := Lib.hid (HR7.out.but hbu (by have := HGN.out; omega))
      have HU8 := Lib.hid (HU7.out.trans hbu (fun _ _ h => h))
      clear hbu hq HR7 HU7 H7
      obtain ⟨z0, z1, z2, z3, z4, z5, z6, y0, y1, y2, y3, y4, y5, y6⟩ := HR8.out.seven2
      have zl := HR8.out.lt
      go_wp2
      rw [set7t_fold]
      have HF := HR8.out.put7 (u0 := .int .i64 X2.op) (u1 := .string X2.text) (u2 := .int .u64 X2.s0) (u3 := .int .u64 X2.s1) (u4 := .int .u64 X2.s2) (u5 := .int .u64 X2.s3) (u6 := .slice ko X2.kids.length kc)
      obtain ⟨hU, hQ⟩ := Rd.set7 (N := N) (D' := w.heap.size) HH.out (Nat.le_of_eq HNN.out) (by have := HS7.out; omega) (by have := HS7.out; have := HNN.out; omega) HU8.out HQ.out (.int .i64 X2.op) (.string X2.text) (.int .u64 X2.s0) (.int .u64 X2.s1) (.int .u64 X2.s2) (.int .u64 X2.s3) (.slice ko X2.kids.length kc)
      clear z0 z1 z2 z3 z4 z5 z6 y0 y1 y2 y3 y4 y5 y6
      generalize set7t _ N _ _ _ _ _ _ _ = w9 at *
      obtain ⟨z0, z1, z2, z3, z4, z5, z6⟩ := HF.seven
      refine bodyPost_ret (by simp [results, Try.results71, go_sem, z0, z1, z2, z3, z4, z5, z6]; rfl) rfl ?_
      rw [HE.out]
      exact ⟨hU, X2, ko, kc, rfl, hQ⟩
    ·
     have i1 : ((t.kd : Int) == 1) = false := by simp; omega
     have HE := Lib.hid (show RES = sufO L X big k from by rw [HSP.out, if_neg (by simp [q1])])
     go_wp2_with fail
     go_quiet (fail)
     have hbd : Below w6.heap.size w6 (w6.drewN nq) := below_drewN (Below.refl _ _) nq
     have HR7 := Lib.hid (show Own (w6.drewN nq) N _ _ from HR6.out.on_drewN nq)
     have HU7 := Lib.hid (HU6.out.then_below hbd)
     have H7 := Lib.hid (H6.out.below hbd)
     have HS7 := Lib.hid (show N < (w6.drewN nq).heap.size from by have := HS6.out; have := HGX.out; have := HGW.out; have := hbd.size; omega)
     clear hbd HR6 HU6 H6 HX6 x0 xl HSP
     generalize World.drewN w6 nq = w7 at *
     go_wp2_with fail
     refine (HSS.out k hk w7 H7.out).mono ?_
     rintro e w8 ⟨hbu, X2, ko, kc, rfl, hq⟩
     unfold exv
     have HQ := Lib.hid (show OutQ w g _ lc L (sufO L X big k) w7.heap.size X2 ko w8 from hq)
     have HR8 := Lib.hid (HR7.out.but hbu (by have := HGN.out; omega))
     have HU8 := Lib.hid (HU7.out.trans hbu (fun _ _ h => h))
     clear hbu hq HR7 HU7 H7
     obtain ⟨z0, z1, z2, z3, z4, z5, z6, y0, y1, y2, y3, y4, y5, y6⟩ := HR8.out.seven2
     have zl := HR8.out.lt
     go_wp2
     rw [set7t_fold]
     have HF := HR8.out.put7 (u0 := .int .i64 X2.op) (u1 := .string X2.text) (u2 := .int .u64 X2.s0) (u3 := .int .u64 X2.s1) (u4 := .int .u64 X2.s2) (u5 := .int .u64 X2.s3) (u6 := .slice ko X2.kids.length kc)
     obtain ⟨hU, hQ⟩ := Rd.set7 (N := N) (D' := w.heap.size) HH.out (Nat.le_of_eq HNN.out) (by have := HS7.out; omega) (by have := HS7.out; have := HNN.out; omega) HU8.out HQ.out (.int .i64 X2.op) (.string X2.text) (.int .u64 X2.s0) (.int .u64 X2.s1) (.int .u64 X2.s2) (.int .u64 X2.s3) (.slice ko X2.kids.length kc)
     clear z0 z1 z2 z3 z4 z5 z6 y0 y1 y2 y3 y4 y5 y6
     generalize set7t _ N _ _ _ _ _ _ _ = w9 at *
     obtain ⟨z0, z1, z2, z3, z4, z5, z6⟩ := HF.seven
     refine bodyPost_ret (by simp [results, Try.results71, go_sem, z0, z1, z2, z3, z4, z5, z6]; rfl) rfl ?_
     rw [HE.out]
     exact ⟨hU, X2, ko, kc, rfl, hQ⟩
end Go.Proofs.Ytonknapfndaalaa
