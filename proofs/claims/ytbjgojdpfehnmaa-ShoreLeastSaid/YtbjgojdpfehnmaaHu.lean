import Derived.OrdersHeld
import Derived.Test.YtbjgojdpfehnmaaHa
import Derived.Test.YtbjgojdpfehnmaaHs
namespace Go.Proofs.Ytbjgojdpfehnmaa
set_option linter.unusedVariables false
section
variable {P : Program} {ops : Array Oper} {Q : Exit → Act → World → Prop} {md : Region.Mode} {S : World → Prop}
theorem held_one {i : Nat} {fuel : Nat} {l : Array Bool} {a : Act} {w : World} (hr : Region.ready md ops l = [i]) (h : wpOp P ops Q i (fun a' w' => S w' ∧ wpAnyH P md ops Q S fuel (l.setIfInBounds i true) a' w') a w) : wpAnyH P md ops Q S (fuel + 1) l a w :=
 wpAnyH_all hr (by simp) fun x hx => by obtain rfl := List.mem_singleton.1 hx; exact h
theorem op_call {i : Nat} {o : Oper} {a : Act} {w : World} {K : Act → World → Prop} {f : FuncId} {vs : Array Value} (e : ops[i]? = some o) (hg : Region.wanted o (yielded ops a.tmps) = true) (hrun : (execOp a.eval o).run P w = .ok (.enter f vs) w)
  (hc : Calls P f vs w fun e w' => ∃ v, e = .returned v ∧ K (a.put o.dst v) w') : wpOp P ops Q i K a w := by
 unfold wpOp
 rw [e]
 simp only []
 rw [if_pos hg]
 refine .inl ?_
 unfold Oper.wp
 rw [hrun]
 show Calls P f vs w _
 exact hc.mono fun e w' ⟨v, he, hk⟩ => by subst he; exact hk
theorem op_value {i : Nat} {o : Oper} {a : Act} {w w' : World} {K : Act → World → Prop} {v : Value} (e : ops[i]? = some o) (hg : Region.wanted o (yielded ops a.tmps) = true) (hrun : (execOp a.eval o).run P w = .ok (.value v) w')
  (hK : K (a.put o.dst v) w') : wpOp P ops Q i K a w := by
 unfold wpOp
 rw [e]
 simp only []
 rw [if_pos hg]
 refine .inl ?_
 unfold Oper.wp
 rw [hrun]
 exact hK
theorem op_store {i : Nat} {o : Oper} {a : Act} {w w' : World} {K : Act → World → Prop} (e : ops[i]? = some o) (hg : Region.wanted o (yielded ops a.tmps) = true) (t : TypeId) (x y : Operand) (hop : o.op = Op.store t x y) (p v : Value) (hx : a.eval x = p) (hy : a.eval y = v)
  (hrun : (Instr.storeAt t p v).run P w = .ok () w') (hK : K (a.put o.dst undef) w') : wpOp P ops Q i K a w := by
 unfold wpOp
 rw [e]
 simp only []
 rw [if_pos hg]
 refine .inl ?_
 unfold Oper.wp
 simp [execOp, hop, hx, hy, hrun, Result.andThen]
 exact hK
end
open Go.RowKit Go.Sort
theorem OutQ.mapk {w0 w : World} {g D : Nat} {lo : Option Addr} {lc : Nat} {L : List Tok} {r : Rs} {X2 : Ex} {ko : Option Addr} {kc : Nat} (op : Int) (tx : ByteArray) (H : OutQ w0 g lo lc L r D X2 ko w) (hD : D ≤ w.heap.size) :
  OutQ w0 g lo lc L (mapX (fun e => .mk op tx 0 0 0 0 [e]) r) D (.mk op tx 0 0 0 0 [X2]) (some ⟨w.heap.size, 0, none⟩) (w.alloc (.cells #[.int .i64 X2.op, .string X2.text, .int .u64 X2.s0, .int .u64 X2.s1, .int .u64 X2.s2, .int .u64 X2.s3, .slice ko X2.kids.length kc] 79)) := by
 have hbl : Below w.heap.size w (w.alloc (.cells #[.int .i64 X2.op, .string X2.text, .int .u64 X2.s0, .int .u64 X2.s1, .int .u64 X2.s2, .int .u64 X2.s3, .slice ko X2.kids.length kc] 79)) := bA _
 cases r with
 | error f =>
  obtain ⟨h1, k, h2⟩ := H
  exact ⟨h1, k, h2.below hbl⟩
 | ok q =>
  obtain ⟨x, m⟩ := q
  obtain ⟨h1, rfl, n, h2⟩ := H
  exact OutQ.kid op tx (h1.below hbl) (Own.fresh w 79 [.int .i64 x.op, .string x.text, .int .u64 x.s0, .int .u64 x.s1, .int .u64 x.s2, .int .u64 x.s3, .slice ko x.kids.length kc]) hD (HasE.but (But.of_below (S := fun _ => False) hbl) (fun _ h => h.elim) h2)
@[go_sem 2000] theorem ebuildL (k : Int) (t : ByteArray) (A : Option Addr) (n c : Nat) (w : World) : (Instr.build 79 #[(0, .int .i64 k), (1, .string t), (3, .slice A n c)]).run Try.prog w = .ok (.agg #[.int .i64 k, .string t, .int .u64 0, .int .u64 0, .int .u64 0, .int .u64 0, .slice A n c]) w := by kernel_rfl
set_option maxRecDepth 1000000 in
set_option maxHeartbeats 1600000 in
theorem rd_pre (X : Nat → Rs) (big : Bool) (dp : Int) (g : Nat) (lo : Option Addr) (lc : Nat) (L : List Tok) (k : Nat) (hn : (L.length : Int) ≤ 90000) (hk : k ≤ L.length) (htx : ∀ t ∈ L, t.tx.size ≤ 1000000)
  (HS : ∀ (m : Nat), m ≤ L.length → ∀ W, Rd W g lo lc L m none → Calls Try.prog 116 #[.pointer (some ⟨g, 0, none⟩), .int .i64 dp] W fun e w' => Out W g lo lc L (sufO L X big m) e w')
  (HSL : ∀ (m : Nat) (x : Ex) (n : Nat), sufO L X big m = .ok (x, n) → n ≤ L.length) (w : World) (h : Rd w g lo lc L k none) :
  Calls Try.prog 111 #[.pointer (some ⟨g, 0, none⟩), .int .i64 dp] w fun e w' => Out w g lo lc L (preO L X big k) e w' := by
 have HH := aH h
 have HSS := aH HS
 have HNW := aH (fun (W : World) (hW : Rd W g lo lc L k none) => rd_now g lo lc L k none (by omega) (by omega) W hW)
 have HTK := aH (fun (m : Nat) (hm : (m : Int) ≤ 1000000) (s : ByteArray) (W : World) (hW : Rd W g lo lc L m none) => rd_take s g lo lc L m none (by omega) hm W hW)
 have HFL := aH (fun (c : Int) (m : Nat) (hm : (m : Int) ≤ 1000000) (W : World) (hW : Rd W g lo lc L m none) => show Calls Try.prog 99 #[.pointer (some ⟨g, 0, none⟩), .int .i64 c] W fun e w' => e = .returned (.agg #[.int .i64 0, .string ⟨#[]⟩, .int .u64 0, .int .u64 0, .int .u64 0, .int .u64 0, .slice none 0 0]) ∧ But (fun j => j = g) W w' ∧ Rd w' g lo lc L m (some (c, ((tkA L m).pos : Int))) from rd_fail c g lo lc L m (by omega) hm W hW)
 have HWD := aH (fun (m : Nat) (W : World) => rword_any (tkA L m).tx (by
  unfold tkA
  rw [List.getD_eq_getElem?_getD]
  cases hq : L[m]? with
  | none => show (0 : Nat) ≤ maxLen; exact Nat.zero_le _
  | some t => have := htx t (aM hq); show t.tx.size ≤ maxLen; unfold maxLen; omega) W)
 have HR := aH (Own.fresh w 79 [.int .i64 0, .string ⟨#[]⟩, .int .u64 0, .int .u64 0, .int .u64 0, .int .u64 0, .slice none 0 0])
 have H1 := aH (h.below (bA (.cells #[.int .i64 0, .string ⟨#[]⟩, .int .u64 0, .int .u64 0, .int .u64 0, .int .u64 0, .slice none 0 0] 79)))
 have HU := aH (But.of_below (S := fun j => j = g) ((Below.refl w.heap.size w).alloc (Nat.le_refl _) (.cells #[.int .i64 0, .string ⟨#[]⟩, .int .u64 0, .int .u64 0, .int .u64 0, .int .u64 0, .slice none 0 0] 79)))
 have HGN := aH (show g < w.heap.size from h.1.lt)
 have HXL := aH HSL
 have HSP := aH (show preO L X big k = _ from by unfold preO; rfl)
 generalize preO L X big k = RES at *
 clear h HS HSL
 go_enter Try.func111, Try.ntmps111
 go_upto_region 1 with fail
 have HS1 := aH (show w.heap.size < (w.alloc (.cells #[.int .i64 0, .string ⟨#[]⟩, .int .u64 0, .int .u64 0, .int .u64 0, .int .u64 0, .slice none 0 0] 79)).heap.size by simp)
 generalize World.alloc w _ = w1 at *
 obtain ⟨N, hN⟩ : ∃ N, w.heap.size = N := ⟨_, rfl⟩
 rw [hN] at HR HGN HS1
 rw [hN]
 have HNN := aH hN
 clear hN
 go_wp2_with fail
 refine (HNW.o _ H1.o).mono ?_
 obtain ⟨t, ht⟩ : ∃ t, tkA L k = t := ⟨_, rfl⟩
 have HT := aH ht
 rw [ht] at HSP ⊢
 clear ht
 unfold tokV
 rintro e w2 ⟨rfl, hb2⟩
 have H2 := aH ((H1.o.below hb2).below (bA (.cells #[.int .i64 (t.kd : Int), .string t.tx, .int .u64 (t.st.1 : Int), .int .u64 (t.st.2.1 : Int), .int .u64 (t.st.2.2.1 : Int), .int .u64 (t.st.2.2.2 : Int), .int .i64 (t.pos : Int)] 108)))
 have HU2 := aH ((HU.o.then_below hb2).alloc (.cells #[.int .i64 (t.kd : Int), .string t.tx, .int .u64 (t.st.1 : Int), .int .u64 (t.st.2.1 : Int), .int .u64 (t.st.2.2.1 : Int), .int .u64 (t.st.2.2.2 : Int), .int .i64 (t.pos : Int)] 108))
 have HR2 := aH ((HR.o.under hb2 HR.o.lt).on_alloc (.cells #[.int .i64 (t.kd : Int), .string t.tx, .int .u64 (t.st.1 : Int), .int .u64 (t.st.2.1 : Int), .int .u64 (t.st.2.2.1 : Int), .int .u64 (t.st.2.2.2 : Int), .int .i64 (t.pos : Int)] 108))
 have HX := aH (Own.fresh w2 108 [.int .i64 (t.kd : Int), .string t.tx, .int .u64 (t.st.1 : Int), .int .u64 (t.st.2.1 : Int), .int .u64 (t.st.2.2.1 : Int), .int .u64 (t.st.2.2.2 : Int), .int .i64 (t.pos : Int)])
 have HGX := aH (show N < w2.heap.size from aL HR.o.lt hb2.size)
 clear hb2 H1 HU HR
 go_upto_region 2 with fail
 generalize World.alloc w2 _ = w3 at *
 generalize w2.heap.size = G at *
 have HGW := aH (show G < w3.heap.size from HX.o.lt)
 have HX2 := HX
 clear HX
 have HS2 := aH (show w3.heap.size ≤ w3.heap.size from Nat.le_refl _)
 obtain ⟨z38, hz38⟩ : ∃ z, isS L k [38] = z := ⟨_, rfl⟩
 have HTT := aH (HTK.o k (by omega) ⟨#[38]⟩ w3 H2.o)
 rw [show (⟨#[38]⟩ : ByteArray).data.toList = [38] from rfl, hz38] at HTT
 rw [hz38] at HSP
 have HZ := aH hz38
 clear hz38
 go_wp2_with fail
 refine HTT.o.mono ?_
 rintro e w4 ⟨rfl, hbu, hrd⟩
 have HR4 := aH (HR2.o.but hbu (by have := HGN.o; omega))
 have HU4 := aH (HU2.o.trans hbu (fun _ _ h => h))
 have HX4 := aH (HX2.o.but hbu (by have := HGN.o; have := HGX.o; omega))
 have HS4 := aH (show w3.heap.size ≤ w4.heap.size from Nat.le_trans HS2.o hbu.size)
 have HRD := aH hrd
 clear hbu hrd HTT H2 HU2 HR2 HX2 HS2
 cases z38
 case true =>
  rw [if_pos rfl] at HSP
  have H4 := aH (show Rd w4 g lo lc L (k + 1) none from HRD.o)
  have hkl : k + 1 ≤ L.length := isS_lt HZ.o
  go_wp2_with fail
  refine (HSS.o (k + 1) hkl w4 H4.o).mono ?_
  rintro e w6 ⟨hbu, X2, ko, kc, rfl, hq⟩
  unfold exv
  have HE := aH HSP.o
  have HQ := aH (OutQ.mapk (kc := kc) 9 ⟨#[]⟩ hq (by exact hbu.size))
  have HUA := aH ((HU4.o.trans hbu (fun _ _ h => h)).alloc (.cells #[.int .i64 X2.op, .string X2.text, .int .u64 X2.s0, .int .u64 X2.s1, .int .u64 X2.s2, .int .u64 X2.s3, .slice ko X2.kids.length kc] 79))
  have HRA := aH ((HR4.o.but hbu (by have := HGN.o; omega)).on_alloc (.cells #[.int .i64 X2.op, .string X2.text, .int .u64 X2.s0, .int .u64 X2.s1, .int .u64 X2.s2, .int .u64 X2.s3, .slice ko X2.kids.length kc] 79))
  clear hbu hq H4 HU4 HR4 HX4 HRD
  have HST := aH (store7_run HRA.o 9 ⟨#[]⟩ 0 0 0 0 (some ⟨w6.heap.size, 0, none⟩) 1 1)
  have HF := aH (HRA.o.put7 (u0 := .int .i64 9) (u1 := .string ⟨#[]⟩) (u2 := .int .u64 0) (u3 := .int .u64 0) (u4 := .int .u64 0) (u5 := .int .u64 0) (u6 := .slice (some ⟨w6.heap.size, 0, none⟩) 1 1))
  have HZ7 := aH (Rd.set7 (N := N) (D' := w.heap.size) HH.o (Nat.le_of_eq HNN.o) (by have := HS4.o; have := HGX.o; have := HGW.o; omega) (by have := HS4.o; have := HGX.o; have := HGW.o; have := HNN.o; omega) HUA.o HQ.o (.int .i64 9) (.string ⟨#[]⟩) (.int .u64 0) (.int .u64 0) (.int .u64 0) (.int .u64 0) (.slice (some ⟨w6.heap.size, 0, none⟩) 1 1))
  obtain ⟨w9, hw9⟩ : ∃ w9, set7t (w6.alloc (.cells #[.int .i64 X2.op, .string X2.text, .int .u64 X2.s0, .int .u64 X2.s1, .int .u64 X2.s2, .int .u64 X2.s3, .slice ko X2.kids.length kc] 79)) N (.int .i64 9) (.string ⟨#[]⟩) (.int .u64 0) (.int .u64 0) (.int .u64 0) (.int .u64 0) (.slice (some ⟨w6.heap.size, 0, none⟩) 1 1) = w9 := ⟨_, rfl⟩
  rw [hw9] at HST HF HZ7
  clear hw9 HRA HQ HUA
  obtain ⟨z0, z1, z2, z3, z4, z5, z6⟩ := HF.o.seven
  go_wp2_with (with_reducible refine wpList_store_lit (.pointer (some ⟨N, 0, none⟩)) (.agg #[.int .i64 9, .string ⟨#[]⟩, .int .u64 0, .int .u64 0, .int .u64 0, .int .u64 0, .slice (some ⟨w6.heap.size, 0, none⟩) 1 1]) HST.o ?_ ?_ ?_)
  ·
   rfl
  ·
   rfl
  refine bodyPost_ret (by simp [Act.put, results, Try.results111, go_sem, z0, z1, z2, z3, z4, z5, z6]; rfl) rfl ?_
  rw [HE.o]
  exact ⟨HZ7.o.1, .mk 9 ⟨#[]⟩ 0 0 0 0 [X2], some ⟨w6.heap.size, 0, none⟩, 1, rfl, HZ7.o.2⟩
 case false =>
  rw [if_neg (by decide)] at HSP
  have H4 := aH (show Rd w4 g lo lc L k none from HRD.o)
  clear HRD HZ
  obtain ⟨z33, hz33⟩ : ∃ z, isS L k [33] = z := ⟨_, rfl⟩
  have HTT := aH (HTK.o k (by omega) ⟨#[33]⟩ w4 H4.o)
  rw [show (⟨#[33]⟩ : ByteArray).data.toList = [33] from rfl, hz33] at HTT
  rw [hz33] at HSP
  have HZ := aH hz33
  clear hz33
  go_wp2_with fail
  refine HTT.o.mono ?_
  rintro e w5 ⟨rfl, hbu, hrd⟩
  have HR5 := aH (HR4.o.but hbu (by have := HGN.o; omega))
  have HU5 := aH (HU4.o.trans hbu (fun _ _ h => h))
  have HX5 := aH (HX4.o.but hbu (by have := HGN.o; have := HGX.o; omega))
  have HS5 := aH (show w3.heap.size ≤ w5.heap.size from Nat.le_trans HS4.o hbu.size)
  have HRD := aH hrd
  clear hbu hrd HTT H4 HU4 HR4 HX4 HS4
  cases z33
  case true =>
   rw [if_pos rfl] at HSP
   have H5 := aH (show Rd w5 g lo lc L (k + 1) none from HRD.o)
   have hkl : k + 1 ≤ L.length := isS_lt HZ.o
   go_wp2_with fail
   refine (HSS.o (k + 1) hkl w5 H5.o).mono ?_
   rintro e w6 ⟨hbu, X2, ko, kc, rfl, hq⟩
   unfold exv
   have HE := aH HSP.o
   have HQ := aH (OutQ.mapk (kc := kc) 10 ⟨#[]⟩ hq (by exact hbu.size))
   have HUA := aH ((HU5.o.trans hbu (fun _ _ h => h)).alloc (.cells #[.int .i64 X2.op, .string X2.text, .int .u64 X2.s0, .int .u64 X2.s1, .int .u64 X2.s2, .int .u64 X2.s3, .slice ko X2.kids.length kc] 79))
   have HRA := aH ((HR5.o.but hbu (by have := HGN.o; omega)).on_alloc (.cells #[.int .i64 X2.op, .string X2.text, .int .u64 X2.s0, .int .u64 X2.s1, .int .u64 X2.s2, .int .u64 X2.s3, .slice ko X2.kids.length kc] 79))
   clear hbu hq H5 HU5 HR5 HX5 HRD
   have HST := aH (store7_run HRA.o 10 ⟨#[]⟩ 0 0 0 0 (some ⟨w6.heap.size, 0, none⟩) 1 1)
   have HF := aH (HRA.o.put7 (u0 := .int .i64 10) (u1 := .string ⟨#[]⟩) (u2 := .int .u64 0) (u3 := .int .u64 0) (u4 := .int .u64 0) (u5 := .int .u64 0) (u6 := .slice (some ⟨w6.heap.size, 0, none⟩) 1 1))
   have HZ7 := aH (Rd.set7 (N := N) (D' := w.heap.size) HH.o (Nat.le_of_eq HNN.o) (by have := HS5.o; have := HGX.o; have := HGW.o; omega) (by have := HS5.o; have := HGX.o; have := HGW.o; have := HNN.o; omega) HUA.o HQ.o (.int .i64 10) (.string ⟨#[]⟩) (.int .u64 0) (.int .u64 0) (.int .u64 0) (.int .u64 0) (.slice (some ⟨w6.heap.size, 0, none⟩) 1 1))
   obtain ⟨w9, hw9⟩ : ∃ w9, set7t (w6.alloc (.cells #[.int .i64 X2.op, .string X2.text, .int .u64 X2.s0, .int .u64 X2.s1, .int .u64 X2.s2, .int .u64 X2.s3, .slice ko X2.kids.length kc] 79)) N (.int .i64 10) (.string ⟨#[]⟩) (.int .u64 0) (.int .u64 0) (.int .u64 0) (.int .u64 0) (.slice (some ⟨w6.heap.size, 0, none⟩) 1 1) = w9 := ⟨_, rfl⟩
   rw [hw9] at HST HF HZ7
   clear hw9 HRA HQ HUA
   obtain ⟨z0, z1, z2, z3, z4, z5, z6⟩ := HF.o.seven
   go_wp2_with (with_reducible refine wpList_store_lit (.pointer (some ⟨N, 0, none⟩)) (.agg #[.int .i64 10, .string ⟨#[]⟩, .int .u64 0, .int .u64 0, .int .u64 0, .int .u64 0, .slice (some ⟨w6.heap.size, 0, none⟩) 1 1]) HST.o ?_ ?_ ?_)
   ·
    rfl
   ·
    rfl
   refine bodyPost_ret (by simp [Act.put, results, Try.results111, go_sem, z0, z1, z2, z3, z4, z5, z6]; rfl) rfl ?_
   rw [HE.o]
   exact ⟨HZ7.o.1, .mk 10 ⟨#[]⟩ 0 0 0 0 [X2], some ⟨w6.heap.size, 0, none⟩, 1, rfl, HZ7.o.2⟩
  case false =>
   rw [if_neg (by decide)] at HSP
   have H5 := aH (show Rd w5 g lo lc L k none from HRD.o)
   clear HRD HZ
   obtain ⟨z126, hz126⟩ : ∃ z, isS L k [126] = z := ⟨_, rfl⟩
   have HTT := aH (HTK.o k (by omega) ⟨#[126]⟩ w5 H5.o)
   rw [show (⟨#[126]⟩ : ByteArray).data.toList = [126] from rfl, hz126] at HTT
   rw [hz126] at HSP
   have HZ := aH hz126
   clear hz126
   go_wp2_with fail
   refine HTT.o.mono ?_
   rintro e w6 ⟨rfl, hbu, hrd⟩
   have HR6 := aH (HR5.o.but hbu (by have := HGN.o; omega))
   have HU6 := aH (HU5.o.trans hbu (fun _ _ h => h))
   have HX6 := aH (HX5.o.but hbu (by have := HGN.o; have := HGX.o; omega))
   have HS6 := aH (show w3.heap.size ≤ w6.heap.size from Nat.le_trans HS5.o hbu.size)
   have HRD := aH hrd
   clear hbu hrd HTT H5 HU5 HR5 HX5 HS5
   cases z126
   case true =>
    rw [if_pos rfl] at HSP
    have H6 := aH (show Rd w6 g lo lc L (k + 1) none from HRD.o)
    have hkl : k + 1 ≤ L.length := isS_lt HZ.o
    go_wp2_with fail
    refine (HSS.o (k + 1) hkl w6 H6.o).mono ?_
    rintro e w7 ⟨hbu, X2, ko, kc, rfl, hq⟩
    unfold exv
    obtain ⟨r, hr⟩ : ∃ r, sufO L X big (k + 1) = r := ⟨_, rfl⟩
    have HXR := aH (fun x m (h : r = .ok (x, m)) => HXL.o (k + 1) x m (hr.trans h))
    rw [hr] at hq HSP
    clear hr
    have HS7 := aH (show w6.heap.size ≤ w7.heap.size from hbu.size)
    have HQ3 := aH (show OutQ w g lo lc L r w6.heap.size X2 ko (w7.alloc (.cells #[.int .i64 X2.op, .string X2.text, .int .u64 X2.s0, .int .u64 X2.s1, .int .u64 X2.s2, .int .u64 X2.s3, .slice ko X2.kids.length kc] 79)) from OutQ.below hq (bA _))
    have HR7 := aH ((HR6.o.but hbu (by have := HGN.o; omega)).on_alloc (.cells #[.int .i64 X2.op, .string X2.text, .int .u64 X2.s0, .int .u64 X2.s1, .int .u64 X2.s2, .int .u64 X2.s3, .slice ko X2.kids.length kc] 79))
    have HU7 := aH ((HU6.o.trans hbu (fun _ _ h => h)).alloc (.cells #[.int .i64 X2.op, .string X2.text, .int .u64 X2.s0, .int .u64 X2.s1, .int .u64 X2.s2, .int .u64 X2.s3, .slice ko X2.kids.length kc] 79))
    have HE7 := aH (Own.fresh w7 79 [.int .i64 X2.op, .string X2.text, .int .u64 X2.s0, .int .u64 X2.s1, .int .u64 X2.s2, .int .u64 X2.s3, .slice ko X2.kids.length kc])
    clear hbu hq H6 HR6 HU6 HX6 HRD
    go_upto_region 8 with fail
    generalize World.alloc w7 _ = w8 at *
    generalize w7.heap.size = E at *
    have HEL := aH (show E < w8.heap.size from HE7.o.lt)
    cases r
    case error f =>
     have HE := aH (show RES = .error f from HSP.o)
     obtain ⟨hf, kf, hR⟩ := HQ3.o
     obtain ⟨c0, c1, c2, c3, c4, c5, cg⟩ := hR.1.six_r
     have c2' : w8.cell? ⟨g, 2, none⟩ = some (.int .i64 f.1) := c2
     have ef : (f.1 == 0) = false := by simp [hf]
     obtain ⟨m0, m1, m2, m3, m4, m5, m6, -⟩ := HE7.o.seven2
     have ml := HE7.o.lt
     have HDD := aH (show N < w6.heap.size from by have := HS6.o; have := HGX.o; have := HGW.o; omega)
     clear c2 hR hf HSP HXR
     have HQ := aH (OutQ.mapk (kc := kc) 13 ⟨#[]⟩ HQ3.o (by have := HS7.o; have := HEL.o; omega))
     have HUA := aH (HU7.o.alloc (.cells #[.int .i64 X2.op, .string X2.text, .int .u64 X2.s0, .int .u64 X2.s1, .int .u64 X2.s2, .int .u64 X2.s3, .slice ko X2.kids.length kc] 79))
     have HRA := aH (HR7.o.on_alloc (.cells #[.int .i64 X2.op, .string X2.text, .int .u64 X2.s0, .int .u64 X2.s1, .int .u64 X2.s2, .int .u64 X2.s3, .slice ko X2.kids.length kc] 79))
     have HST := aH (store7_run HRA.o 13 ⟨#[]⟩ 0 0 0 0 (some ⟨w8.heap.size, 0, none⟩) 1 1)
     have HF := aH (HRA.o.put7 (u0 := .int .i64 13) (u1 := .string ⟨#[]⟩) (u2 := .int .u64 0) (u3 := .int .u64 0) (u4 := .int .u64 0) (u5 := .int .u64 0) (u6 := .slice (some ⟨w8.heap.size, 0, none⟩) 1 1))
     have HZ7 := aH (Rd.set7 (N := N) (D' := w.heap.size) HH.o (Nat.le_of_eq HNN.o) (by have := HDD.o; omega) (by have := HDD.o; have := HNN.o; omega) HUA.o HQ.o (.int .i64 13) (.string ⟨#[]⟩) (.int .u64 0) (.int .u64 0) (.int .u64 0) (.int .u64 0) (.slice (some ⟨w8.heap.size, 0, none⟩) 1 1))
     obtain ⟨w9, hw9⟩ : ∃ w9, set7t (w8.alloc (.cells #[.int .i64 X2.op, .string X2.text, .int .u64 X2.s0, .int .u64 X2.s1, .int .u64 X2.s2, .int .u64 X2.s3, .slice ko X2.kids.length kc] 79)) N (.int .i64 13) (.string ⟨#[]⟩) (.int .u64 0) (.int .u64 0) (.int .u64 0) (.int .u64 0) (.slice (some ⟨w8.heap.size, 0, none⟩) 1 1) = w9 := ⟨_, rfl⟩
     rw [hw9] at HST HF HZ7
     clear hw9 HRA HQ HUA
     obtain ⟨z0, z1, z2, z3, z4, z5, z6⟩ := HF.o.seven
     go_wp2_with (with_reducible refine wpList_store_lit (.pointer (some ⟨N, 0, none⟩)) (.agg #[.int .i64 13, .string ⟨#[]⟩, .int .u64 0, .int .u64 0, .int .u64 0, .int .u64 0, .slice (some ⟨w8.heap.size, 0, none⟩) 1 1]) HST.o ?_ ?_ ?_)
     ·
      rfl
     ·
      rfl
     refine bodyPost_ret (by simp [Act.put, results, Try.results111, go_sem, z0, z1, z2, z3, z4, z5, z6]; rfl) rfl ?_
     rw [HE.o]
     exact ⟨HZ7.o.1, .mk 13 ⟨#[]⟩ 0 0 0 0 [X2], some ⟨w8.heap.size, 0, none⟩, 1, rfl, HZ7.o.2⟩
    case ok pq =>
     obtain ⟨x, m⟩ := pq
     obtain ⟨hR, hx, n2, hE2⟩ := HQ3.o
     subst hx
     have hml := HXR.o x m rfl
     have HD7 := aH hR
     have HT7 := aH hE2
     obtain ⟨c0, c1, c2, c3, c4, c5, cg⟩ := hR.1.six_r
     have c2' : w8.cell? ⟨g, 2, none⟩ = some (.int .i64 0) := c2
     obtain ⟨zt, hzt⟩ : ∃ z, isS L m [126] = z := ⟨_, rfl⟩
     have HTT := aH (HTK.o m (by omega) ⟨#[126]⟩ w8 HD7.o)
     rw [show (⟨#[126]⟩ : ByteArray).data.toList = [126] from rfl, hzt] at HTT
     have HSQ := aH (show RES = if zt = true then .ok (kidX 13 x, m + 1) else badF L 2 m from by rw [HSP.o, ← hzt])
     clear hzt c2 hR hE2 HQ3 HSP
     go_wp2_with fail
     refine HTT.o.mono ?_
     rintro e w9' ⟨rfl, hbu, hrd⟩
     have HR8 := aH (HR7.o.but hbu (by have := HGN.o; omega))
     have HU8 := aH (HU7.o.trans hbu (fun _ _ h => h))
     have HE8 := aH (HE7.o.but hbu (by have := HGN.o; have := HGX.o; have := HGW.o; have := HS6.o; have := HS7.o; omega))
     have HT8 := aH (HasE.but hbu (fun j hj => by have := HGN.o; have := HGX.o; have := HGW.o; have := HS6.o; omega) HT7.o)
     have HEL8 := aH (show E < w9'.heap.size from HE8.o.lt)
     have HRD := aH hrd
     clear hbu hrd HTT HR7 HU7 HE7 HT7 HD7 c0 c1 c2' c3 c4 c5 cg
     cases zt
     case false =>
      rw [if_neg (by decide)] at HSQ
      have HD8 := aH (show Rd w9' g lo lc L m none from HRD.o)
      have HE := aH (show RES = badF L 2 (m) from by exact HSQ.o)
      go_wp2_with fail
      refine (HFL.o 2 (m) (by omega) _ HD8.o).mono ?_
      rintro e w10 ⟨rfl, hbu, hrd⟩
      have HR9 := aH (HR8.o.but hbu (by have := HGN.o; omega))
      have HU9 := aH (HU8.o.trans hbu (fun _ _ h => h))
      have HD9 := aH hrd
      clear hbu hrd
      obtain ⟨z0, z1, z2, z3, z4, z5, z6, y0, y1, y2, y3, y4, y5, y6⟩ := HR9.o.seven2
      have zl := HR9.o.lt
      go_wp2
      rw [set7t_fold]
      have HF := HR9.o.put7 (u0 := .int .i64 0) (u1 := .string ⟨#[]⟩) (u2 := .int .u64 0) (u3 := .int .u64 0) (u4 := .int .u64 0) (u5 := .int .u64 0) (u6 := .slice none 0 0)
      obtain ⟨hU, hR⟩ := Rd.fin HH.o (Nat.le_of_eq HNN.o) HU9.o HD9.o (.int .i64 0) (.string ⟨#[]⟩) (.int .u64 0) (.int .u64 0) (.int .u64 0) (.int .u64 0) (.slice none 0 0)
      clear z0 z1 z2 z3 z4 z5 z6 y0 y1 y2 y3 y4 y5 y6
      generalize set7t w10 N (.int .i64 0) (.string ⟨#[]⟩) (.int .u64 0) (.int .u64 0) (.int .u64 0) (.int .u64 0) (.slice none 0 0) = w99 at *
      obtain ⟨z0, z1, z2, z3, z4, z5, z6⟩ := HF.seven
      refine bodyPost_ret (by simp [results, Try.results111, go_sem, z0, z1, z2, z3, z4, z5, z6]; rfl) rfl ?_
      rw [HE.o]
      exact ⟨hU, leafX 0 ⟨#[]⟩, none, 0, rfl, by show (2 : Int) ≠ 0; decide, m, hR⟩
     case true =>
      rw [if_pos rfl] at HSQ
      have HD8 := aH (show Rd w9' g lo lc L (m + 1) none from HRD.o)
      have HE := aH HSQ.o
      obtain ⟨m0, m1, m2, m3, m4, m5, m6, -⟩ := HE8.o.seven2
      have ml := HE8.o.lt
      have HQ8 := aH (show OutQ w g lo lc L (.ok (x, m + 1)) w6.heap.size x ko w9' from ⟨HD8.o, rfl, n2, HT8.o⟩)
      have HDD := aH (show N < w6.heap.size from by have := HS6.o; have := HGX.o; have := HGW.o; omega)
      have HQ := aH (OutQ.mapk (kc := kc) 13 ⟨#[]⟩ HQ8.o (by have := HS7.o; have := HEL8.o; omega))
      have HUA := aH (HU8.o.alloc (.cells #[.int .i64 x.op, .string x.text, .int .u64 x.s0, .int .u64 x.s1, .int .u64 x.s2, .int .u64 x.s3, .slice ko x.kids.length kc] 79))
      have HRA := aH (HR8.o.on_alloc (.cells #[.int .i64 x.op, .string x.text, .int .u64 x.s0, .int .u64 x.s1, .int .u64 x.s2, .int .u64 x.s3, .slice ko x.kids.length kc] 79))
      have HST := aH (store7_run HRA.o 13 ⟨#[]⟩ 0 0 0 0 (some ⟨w9'.heap.size, 0, none⟩) 1 1)
      have HF := aH (HRA.o.put7 (u0 := .int .i64 13) (u1 := .string ⟨#[]⟩) (u2 := .int .u64 0) (u3 := .int .u64 0) (u4 := .int .u64 0) (u5 := .int .u64 0) (u6 := .slice (some ⟨w9'.heap.size, 0, none⟩) 1 1))
      have HZ7 := aH (Rd.set7 (N := N) (D' := w.heap.size) HH.o (Nat.le_of_eq HNN.o) (by have := HDD.o; omega) (by have := HDD.o; have := HNN.o; omega) HUA.o HQ.o (.int .i64 13) (.string ⟨#[]⟩) (.int .u64 0) (.int .u64 0) (.int .u64 0) (.int .u64 0) (.slice (some ⟨w9'.heap.size, 0, none⟩) 1 1))
      obtain ⟨w9, hw9⟩ : ∃ w9, set7t (w9'.alloc (.cells #[.int .i64 x.op, .string x.text, .int .u64 x.s0, .int .u64 x.s1, .int .u64 x.s2, .int .u64 x.s3, .slice ko x.kids.length kc] 79)) N (.int .i64 13) (.string ⟨#[]⟩) (.int .u64 0) (.int .u64 0) (.int .u64 0) (.int .u64 0) (.slice (some ⟨w9'.heap.size, 0, none⟩) 1 1) = w9 := ⟨_, rfl⟩
      rw [hw9] at HST HF HZ7
      clear hw9 HRA HQ HUA
      obtain ⟨z0, z1, z2, z3, z4, z5, z6⟩ := HF.o.seven
      go_wp2_with (with_reducible refine wpList_store_lit (.pointer (some ⟨N, 0, none⟩)) (.agg #[.int .i64 13, .string ⟨#[]⟩, .int .u64 0, .int .u64 0, .int .u64 0, .int .u64 0, .slice (some ⟨w9'.heap.size, 0, none⟩) 1 1]) HST.o ?_ ?_ ?_)
      ·
       rfl
      ·
       rfl
      refine bodyPost_ret (by simp [Act.put, results, Try.results111, go_sem, z0, z1, z2, z3, z4, z5, z6]; rfl) rfl ?_
      rw [HE.o]
      exact ⟨HZ7.o.1, .mk 13 ⟨#[]⟩ 0 0 0 0 [x], some ⟨w9'.heap.size, 0, none⟩, 1, rfl, HZ7.o.2⟩
   case false =>
    rw [if_neg (by decide)] at HSP
    have H6 := aH (show Rd w6 g lo lc L k none from HRD.o)
    clear HRD HZ
    have x0 : w6.cell? ⟨G, 0, none⟩ = some (.int .i64 (t.kd : Int)) := HX6.o.cell 0
    have xl := HX6.o.lt
    by_cases q1 : t.kd = 1
    ·
     have i1 : ((t.kd : Int) == 1) = true := by simp [q1]
     have hw1 : IntKind.i64.wrap ((k : Int) + 1) = (k : Int) + 1 := wI
     obtain ⟨c0, c1, c2, c3, c4, c5, cg⟩ := H6.o.1.six_r
     by_cases h1 : k + 1 < L.length
     ·
      obtain ⟨y, hy⟩ : ∃ y, L[k + 1]? = some y := ⟨_, aG h1⟩
      obtain ⟨b, off, hlo, hb, a0, a1, -⟩ := H6.o.2.1 (k + 1) y hy
      subst hlo
      clear hw1
      have hw1 : IntKind.i64.wrap ((k : Int) + 1) = ((k + 1 : Nat) : Int) := wI
      have h1' : decide (((k + 1 : Nat) : Int) < (L.length : Int)) = true := aT (by omega)
      have h1i : ((k + 1 : Nat) : Int) < (L.length : Int) := by omega
      have HI := aH (show isS L (k + 1) [58] = (y.kd == 4 && (y.tx.data.toList == [58])) from by unfold isS; rw [tkA_in hy])
      generalize hj : k + 1 = j at hw1 h1' h1i a0 a1
      by_cases q4 : y.kd = 4
      ·
       have i4 : ((y.kd : Int) == 4) = true := by simp [q4]
       obtain ⟨z, hz⟩ : ∃ z, (y.tx.toList == [58]) = z := ⟨_, rfl⟩
       have HI2 := aH (show isS L (k + 1) [58] = z from by rw [HI.o, q4, ← hz, ByteArray.toList_eq]; rfl)
       cases z
       ·
        have HE := aH (show RES = sufO L X big k from by rw [HSP.o, if_neg (by rw [HI2.o]; simp)])
        go_wp2_with fail
        go_quiet (fail)
        have hbd : Below w6.heap.size w6 (w6.drewN nq) := below_drewN (Below.refl _ _) nq
        have HR7 := aH (show Own (w6.drewN nq) N _ _ from HR6.o.on_drewN nq)
        have HU7 := aH (HU6.o.then_below hbd)
        have H7 := aH (H6.o.below hbd)
        have HS7 := aH (show N < (w6.drewN nq).heap.size from by have := HS6.o; have := HGX.o; have := HGW.o; have := hbd.size; omega)
        clear hbd HR6 HU6 H6 HX6 x0 xl HSP c0 c1 c2 c3 c4 c5 cg a0 a1
        generalize World.drewN w6 nq = w7 at *
        go_wp2_with fail
        refine (HSS.o k hk w7 H7.o).mono ?_
        rintro e w8 ⟨hbu, X2, ko, kc, rfl, hq⟩
        unfold exv
        have HQ := aH (show OutQ w g _ lc L (sufO L X big k) w7.heap.size X2 ko w8 from hq)
        have HR8 := aH (HR7.o.but hbu (by have := HGN.o; omega))
        have HU8 := aH (HU7.o.trans hbu (fun _ _ h => h))
        clear hbu hq HR7 HU7 H7
        obtain ⟨z0, z1, z2, z3, z4, z5, z6, y0, y1, y2, y3, y4, y5, y6⟩ := HR8.o.seven2
        have zl := HR8.o.lt
        go_wp2
        rw [set7t_fold]
        have HF := HR8.o.put7 (u0 := .int .i64 X2.op) (u1 := .string X2.text) (u2 := .int .u64 X2.s0) (u3 := .int .u64 X2.s1) (u4 := .int .u64 X2.s2) (u5 := .int .u64 X2.s3) (u6 := .slice ko X2.kids.length kc)
        obtain ⟨hU, hQ⟩ := Rd.set7 (N := N) (D' := w.heap.size) HH.o (Nat.le_of_eq HNN.o) (by have := HS7.o; omega) (by have := HS7.o; have := HNN.o; omega) HU8.o HQ.o (.int .i64 X2.op) (.string X2.text) (.int .u64 X2.s0) (.int .u64 X2.s1) (.int .u64 X2.s2) (.int .u64 X2.s3) (.slice ko X2.kids.length kc)
        clear z0 z1 z2 z3 z4 z5 z6 y0 y1 y2 y3 y4 y5 y6
        generalize set7t _ N _ _ _ _ _ _ _ = w9 at *
        obtain ⟨z0, z1, z2, z3, z4, z5, z6⟩ := HF.seven
        refine bodyPost_ret (by simp [results, Try.results111, go_sem, z0, z1, z2, z3, z4, z5, z6]; rfl) rfl ?_
        rw [HE.o]
        exact ⟨hU, X2, ko, kc, rfl, hQ⟩
       ·
        have HI3 := aH (show ((t.kd == 1) && decide (k + 1 < L.length) && isS L (k + 1) [58]) = true from by rw [HI2.o, q1]; simp; omega)
        rw [if_pos HI3.o] at HSP
        have HKL := aH (show k + 2 ≤ L.length from by omega)
        have x1 : w6.cell? ⟨G, 1, none⟩ = some (.string t.tx) := HX6.o.cell 1
        have hw2 : IntKind.i64.wrap ((k : Int) + 2) = (k : Int) + 2 := wI
        have HW1 := aH (show ∀ W : World, Calls Try.prog 83 #[.string t.tx] W fun e W' => e = .returned (.bool (wordB t.tx)) ∧ W = W' from by rw [← HT.o]; exact HWD.o k)
        go_wp2_with fail
        go_quiet (fail)
        have hbd : Below w6.heap.size w6 (w6.drewN nq) := below_drewN (Below.refl _ _) nq
        have HR7 := aH (show Own (w6.drewN nq) N _ _ from HR6.o.on_drewN nq)
        have HX7 := aH (show Own (w6.drewN nq) G _ _ from HX6.o.on_drewN nq)
        have HU7 := aH (HU6.o.then_below hbd)
        have H7 := aH (H6.o.below hbd)
        have HS7 := aH (show w3.heap.size ≤ (w6.drewN nq).heap.size from Nat.le_trans HS6.o hbd.size)
        clear hbd HR6 HU6 H6 HX6 x0 x1 xl c0 c1 c2 c3 c4 c5 cg a0 a1
        generalize World.drewN w6 nq = w7 at *
        have x1 : w7.cell? ⟨G, 1, none⟩ = some (.string t.tx) := HX7.o.cell 1
        have xl := HX7.o.lt
        go_wp2_with fail
        refine (HW1.o _).mono ?_
        rintro e w8 ⟨rfl, rfl⟩
        cases hwb : wordB t.tx
        case false =>
         have HSF := aH (show RES = badF L 2 k from HSP.o.trans (if_neg (by rw [hwb]; decide)))
         clear x1 xl HSP
         have HE := aH (show RES = badF L 2 (k) from by exact HSF.o)
         go_wp2_with fail
         refine (HFL.o 2 (k) (by omega) _ H7.o).mono ?_
         rintro e w10 ⟨rfl, hbu, hrd⟩
         have HR9 := aH (HR7.o.but hbu (by have := HGN.o; omega))
         have HU9 := aH (HU7.o.trans hbu (fun _ _ h => h))
         have HD9 := aH hrd
         clear hbu hrd
         obtain ⟨z0, z1, z2, z3, z4, z5, z6, y0, y1, y2, y3, y4, y5, y6⟩ := HR9.o.seven2
         have zl := HR9.o.lt
         go_wp2
         rw [set7t_fold]
         have HF := HR9.o.put7 (u0 := .int .i64 0) (u1 := .string ⟨#[]⟩) (u2 := .int .u64 0) (u3 := .int .u64 0) (u4 := .int .u64 0) (u5 := .int .u64 0) (u6 := .slice none 0 0)
         obtain ⟨hU, hR⟩ := Rd.fin HH.o (Nat.le_of_eq HNN.o) HU9.o HD9.o (.int .i64 0) (.string ⟨#[]⟩) (.int .u64 0) (.int .u64 0) (.int .u64 0) (.int .u64 0) (.slice none 0 0)
         clear z0 z1 z2 z3 z4 z5 z6 y0 y1 y2 y3 y4 y5 y6
         generalize set7t w10 N (.int .i64 0) (.string ⟨#[]⟩) (.int .u64 0) (.int .u64 0) (.int .u64 0) (.int .u64 0) (.slice none 0 0) = w99 at *
         obtain ⟨z0, z1, z2, z3, z4, z5, z6⟩ := HF.seven
         refine bodyPost_ret (by simp [results, Try.results111, go_sem, z0, z1, z2, z3, z4, z5, z6]; rfl) rfl ?_
         rw [HE.o]
         exact ⟨hU, leafX 0 ⟨#[]⟩, none, 0, rfl, by show (2 : Int) ≠ 0; decide, k, hR⟩
        case true =>
         have HSF := aH (show RES = mapX (fun e => .mk 12 t.tx 0 0 0 0 [e]) (sufO L X big (k + 2)) from HSP.o.trans (if_pos hwb))
         obtain ⟨c0, c1, c2, c3, c4, c5, cg⟩ := H7.o.1.six_r
         have cf : w7.frozen? ⟨g, 1, none⟩ = false := H7.o.1.thaw 1
         have H8 := aH ((H7.o.at1 (k + 2) (.int .i64 ((k : Int) + 2)) (by simp)).below ((Below.refl _ _).drew))
         have HU8 := aH ((HU7.o.setCell (p := ⟨g, 1, none⟩) (fun _ => rfl) (.int .i64 ((k : Int) + 2))).drew)
         have HR8 := aH ((HR7.o.off (p := ⟨g, 1, none⟩) (by have := HGN.o; show N ≠ g; omega) (.int .i64 ((k : Int) + 2))).on_drew)
         have HX8 := aH ((HX7.o.off (p := ⟨g, 1, none⟩) (by have := HGN.o; have := HGX.o; show G ≠ g; omega) (.int .i64 ((k : Int) + 2))).on_drew)
         have HS8 := aH (show w3.heap.size ≤ ((w7.setCell ⟨g, 1, none⟩ (.int .i64 ((k : Int) + 2))).drew).heap.size by have := HS7.o; simpa [World.setCell] using this)
         have HNG := aH (show G ≠ N from by have := HGX.o; omega)
         go_upto_region 15 with fail
         clear c0 c1 c2 c3 c4 c5 cg cf H7 HU7 HR7 HX7 x1 xl HS7 HSP
         refine wp_region_held (S := fun Wx => G < Wx.heap.size ∧ Wx.cell? ⟨G, 1, none⟩ = some (.string t.tx)) (by kernel_rfl) ?_
         change wpAnyH _ _ _ _ _ _ _ _ (World.drew _)
         generalize World.drew _ = wb at *
         have HS := aH (show G < wb.heap.size ∧ wb.cell? ⟨G, 1, none⟩ = some (.string t.tx) from ⟨HX8.o.lt, HX8.o.cell 1⟩)
         refine wpAnyH_take (i := 0) (v := ?_) rfl (by kernel_rfl) (by kernel_rfl) (by kernel_rfl) (fun _ _ _ h => h) (Or.inl ⟨by rfl, ?_⟩) HS.o ?_
         rotate_left
         ·
          intro Wx hWx
          go_simp
          try with_reducible rfl
         go_simp
         refine wpAnyH_take (i := 1) (v := ?_) rfl (by kernel_rfl) (by kernel_rfl) (by kernel_rfl) (fun _ _ _ h => h) (Or.inl ⟨by rfl, ?_⟩) HS.o ?_
         rotate_left
         ·
          intro Wx hWx
          obtain ⟨q1, q2⟩ := hWx
          go_simp
          try with_reducible rfl
         go_simp
         refine wpAnyH_take (i := 2) (v := ?_) rfl (by kernel_rfl) (by kernel_rfl) (by kernel_rfl) (fun _ _ _ h => h) (Or.inl ⟨by rfl, ?_⟩) HS.o ?_
         rotate_left
         ·
          intro Wx hWx
          go_simp
          try with_reducible rfl
         go_simp
         refine wpAnyH_take (i := 3) (v := ?_) rfl (by kernel_rfl) (by kernel_rfl) (by kernel_rfl) (fun _ _ _ h => h) (Or.inl ⟨by rfl, ?_⟩) HS.o ?_
         rotate_left
         ·
          intro Wx hWx
          go_simp
          try with_reducible rfl
         go_simp
         refine held_one (i := 4) (by kernel_rfl) (op_call (f := 116) (vs := #[.pointer (some ⟨g, 0, none⟩), .int .i64 dp]) rfl (by kernel_rfl) (by go_simp) ?_)
         refine (HSS.o (k + 2) HKL.o wb H8.o).mono ?_
         rintro e w9 ⟨hbu, X2, ko, kc, rfl, hq⟩
         have HX9 := aH (HX8.o.but hbu (by have := HGN.o; have := HGX.o; omega))
         have HR9 := aH (HR8.o.but hbu (by have := HGN.o; omega))
         have HU9 := aH (HU8.o.trans hbu (fun _ _ h => h))
         have HQ9 := aH (show OutQ w g _ lc L (sufO L X big (k + 2)) wb.heap.size X2 ko w9 from hq)
         have HZ9 := aH (show wb.heap.size ≤ w9.heap.size from hbu.size)
         clear hbu hq HS
         have HS := aH (show G < w9.heap.size ∧ w9.cell? ⟨G, 1, none⟩ = some (.string t.tx) from ⟨HX9.o.lt, HX9.o.cell 1⟩)
         refine ⟨_, rfl, HS.o, ?_⟩
         unfold exv
         go_simp
         refine held_one (i := 5) (by kernel_rfl) (op_value (v := .slice (some ⟨w9.heap.size, 0, none⟩) 1 1) (w' := w9.alloc (.cells #[.int .i64 X2.op, .string X2.text, .int .u64 X2.s0, .int .u64 X2.s1, .int .u64 X2.s2, .int .u64 X2.s3, .slice ko X2.kids.length kc] 79)) rfl (by kernel_rfl) (by go_simp) ?_)
         have HX10 := aH (HX9.o.on_alloc (.cells #[.int .i64 X2.op, .string X2.text, .int .u64 X2.s0, .int .u64 X2.s1, .int .u64 X2.s2, .int .u64 X2.s3, .slice ko X2.kids.length kc] 79))
         clear HS
         have HS := aH (show G < (w9.alloc (.cells #[.int .i64 X2.op, .string X2.text, .int .u64 X2.s0, .int .u64 X2.s1, .int .u64 X2.s2, .int .u64 X2.s3, .slice ko X2.kids.length kc] 79)).heap.size ∧ (w9.alloc (.cells #[.int .i64 X2.op, .string X2.text, .int .u64 X2.s0, .int .u64 X2.s1, .int .u64 X2.s2, .int .u64 X2.s3, .slice ko X2.kids.length kc] 79)).cell? ⟨G, 1, none⟩ = some (.string t.tx) from ⟨HX10.o.lt, HX10.o.cell 1⟩)
         refine ⟨HS.o, ?_⟩
         go_simp
         refine wpAnyH_take (i := 6) (v := ?_) rfl (by kernel_rfl) (by kernel_rfl) (by kernel_rfl) (fun _ _ _ h => h) (Or.inl ⟨by rfl, ?_⟩) HS.o ?_
         rotate_left
         ·
          intro Wx hWx
          go_simp
          try with_reducible rfl
         go_simp
         have HDD := aH (show N < wb.heap.size from by have := HS8.o; have := HGX.o; have := HGW.o; omega)
         have HQ := aH (OutQ.mapk (kc := kc) 12 t.tx HQ9.o (by exact HZ9.o))
         have HUA := aH (HU9.o.alloc (.cells #[.int .i64 X2.op, .string X2.text, .int .u64 X2.s0, .int .u64 X2.s1, .int .u64 X2.s2, .int .u64 X2.s3, .slice ko X2.kids.length kc] 79))
         have HRA := aH (HR9.o.on_alloc (.cells #[.int .i64 X2.op, .string X2.text, .int .u64 X2.s0, .int .u64 X2.s1, .int .u64 X2.s2, .int .u64 X2.s3, .slice ko X2.kids.length kc] 79))
         have HST := aH (store7_run HRA.o 12 t.tx 0 0 0 0 (some ⟨w9.heap.size, 0, none⟩) 1 1)
         have HF := aH (HRA.o.put7 (u0 := .int .i64 12) (u1 := .string t.tx) (u2 := .int .u64 0) (u3 := .int .u64 0) (u4 := .int .u64 0) (u5 := .int .u64 0) (u6 := .slice (some ⟨w9.heap.size, 0, none⟩) 1 1))
         have HZ7 := aH (Rd.set7 (N := N) (D' := w.heap.size) HH.o (Nat.le_of_eq HNN.o) (by have := HDD.o; omega) (by have := HDD.o; have := HNN.o; omega) HUA.o HQ.o (.int .i64 12) (.string t.tx) (.int .u64 0) (.int .u64 0) (.int .u64 0) (.int .u64 0) (.slice (some ⟨w9.heap.size, 0, none⟩) 1 1))
         have HX11 := aH (HX10.o.but (But.set7 (w9.alloc (.cells #[.int .i64 X2.op, .string X2.text, .int .u64 X2.s0, .int .u64 X2.s1, .int .u64 X2.s2, .int .u64 X2.s3, .slice ko X2.kids.length kc] 79)) N (.int .i64 12) (.string t.tx) (.int .u64 0) (.int .u64 0) (.int .u64 0) (.int .u64 0) (.slice (some ⟨w9.heap.size, 0, none⟩) 1 1)) HNG.o)
         obtain ⟨w11, hw11⟩ : ∃ w11, set7t (w9.alloc (.cells #[.int .i64 X2.op, .string X2.text, .int .u64 X2.s0, .int .u64 X2.s1, .int .u64 X2.s2, .int .u64 X2.s3, .slice ko X2.kids.length kc] 79)) N (.int .i64 12) (.string t.tx) (.int .u64 0) (.int .u64 0) (.int .u64 0) (.int .u64 0) (.slice (some ⟨w9.heap.size, 0, none⟩) 1 1) = w11 := ⟨_, rfl⟩
         rw [hw11] at HST HF HZ7 HX11
         clear hw11 HRA HQ HUA
         refine held_one (i := 7) (by kernel_rfl) (op_store rfl (by kernel_rfl) _ _ _ rfl (.pointer (some ⟨N, 0, none⟩)) (.agg #[.int .i64 12, .string t.tx, .int .u64 0, .int .u64 0, .int .u64 0, .int .u64 0, .slice (some ⟨w9.heap.size, 0, none⟩) 1 1]) rfl rfl HST.o ?_)
         refine ⟨⟨HX11.o.lt, HX11.o.cell 1⟩, ?_⟩
         refine wpAnyH_done (by kernel_rfl) ?_ _
         obtain ⟨z0, z1, z2, z3, z4, z5, z6⟩ := HF.o.seven
         go_wp2
         refine bodyPost_ret (by simp [Act.put, results, Try.results111, go_sem, z0, z1, z2, z3, z4, z5, z6]; rfl) rfl ?_
         rw [HSF.o]
         exact ⟨HZ7.o.1, .mk 12 t.tx 0 0 0 0 [X2], some ⟨w9.heap.size, 0, none⟩, 1, rfl, HZ7.o.2⟩
      ·
       have i4 : ((y.kd : Int) == 4) = false := aN.2 (by omega)
       have i4n : (y.kd == 4) = false := aN.2 q4
       have HE := aH (show RES = sufO L X big k from by rw [HSP.o, if_neg (by rw [HI.o, i4n]; simp)])
       go_wp2_with fail
       go_quiet (fail)
       have hbd : Below w6.heap.size w6 (w6.drewN nq) := below_drewN (Below.refl _ _) nq
       have HR7 := aH (show Own (w6.drewN nq) N _ _ from HR6.o.on_drewN nq)
       have HU7 := aH (HU6.o.then_below hbd)
       have H7 := aH (H6.o.below hbd)
       have HS7 := aH (show N < (w6.drewN nq).heap.size from by have := HS6.o; have := HGX.o; have := HGW.o; have := hbd.size; omega)
       clear hbd HR6 HU6 H6 HX6 x0 xl HSP c0 c1 c2 c3 c4 c5 cg a0 a1
       generalize World.drewN w6 nq = w7 at *
       go_wp2_with fail
       refine (HSS.o k hk w7 H7.o).mono ?_
       rintro e w8 ⟨hbu, X2, ko, kc, rfl, hq⟩
       unfold exv
       have HQ := aH (show OutQ w g _ lc L (sufO L X big k) w7.heap.size X2 ko w8 from hq)
       have HR8 := aH (HR7.o.but hbu (by have := HGN.o; omega))
       have HU8 := aH (HU7.o.trans hbu (fun _ _ h => h))
       clear hbu hq HR7 HU7 H7
       obtain ⟨z0, z1, z2, z3, z4, z5, z6, y0, y1, y2, y3, y4, y5, y6⟩ := HR8.o.seven2
       have zl := HR8.o.lt
       go_wp2
       rw [set7t_fold]
       have HF := HR8.o.put7 (u0 := .int .i64 X2.op) (u1 := .string X2.text) (u2 := .int .u64 X2.s0) (u3 := .int .u64 X2.s1) (u4 := .int .u64 X2.s2) (u5 := .int .u64 X2.s3) (u6 := .slice ko X2.kids.length kc)
       obtain ⟨hU, hQ⟩ := Rd.set7 (N := N) (D' := w.heap.size) HH.o (Nat.le_of_eq HNN.o) (by have := HS7.o; omega) (by have := HS7.o; have := HNN.o; omega) HU8.o HQ.o (.int .i64 X2.op) (.string X2.text) (.int .u64 X2.s0) (.int .u64 X2.s1) (.int .u64 X2.s2) (.int .u64 X2.s3) (.slice ko X2.kids.length kc)
       clear z0 z1 z2 z3 z4 z5 z6 y0 y1 y2 y3 y4 y5 y6
       generalize set7t _ N _ _ _ _ _ _ _ = w9 at *
       obtain ⟨z0, z1, z2, z3, z4, z5, z6⟩ := HF.seven
       refine bodyPost_ret (by simp [results, Try.results111, go_sem, z0, z1, z2, z3, z4, z5, z6]; rfl) rfl ?_
       rw [HE.o]
       exact ⟨hU, X2, ko, kc, rfl, hQ⟩
     ·
      have h1' : decide ((k : Int) + 1 < (L.length : Int)) = false := aF (by omega)
      have h1i : ¬ (k : Int) + 1 < (L.length : Int) := by omega
      have HE := aH (show RES = sufO L X big k from by rw [HSP.o, if_neg (by simp [h1])])
      go_wp2_with fail
      go_quiet (fail)
      have hbd : Below w6.heap.size w6 (w6.drewN nq) := below_drewN (Below.refl _ _) nq
      have HR7 := aH (show Own (w6.drewN nq) N _ _ from HR6.o.on_drewN nq)
      have HU7 := aH (HU6.o.then_below hbd)
      have H7 := aH (H6.o.below hbd)
      have HS7 := aH (show N < (w6.drewN nq).heap.size from by have := HS6.o; have := HGX.o; have := HGW.o; have := hbd.size; omega)
      clear hbd HR6 HU6 H6 HX6 x0 xl HSP c0 c1 c2 c3 c4 c5 cg
      generalize World.drewN w6 nq = w7 at *
      go_wp2_with fail
      refine (HSS.o k hk w7 H7.o).mono ?_
      rintro e w8 ⟨hbu, X2, ko, kc, rfl, hq⟩
      unfold exv
      have HQ := aH (show OutQ w g _ lc L (sufO L X big k) w7.heap.size X2 ko w8 from hq)
      have HR8 := aH (HR7.o.but hbu (by have := HGN.o; omega))
      have HU8 := aH (HU7.o.trans hbu (fun _ _ h => h))
      clear hbu hq HR7 HU7 H7
      obtain ⟨z0, z1, z2, z3, z4, z5, z6, y0, y1, y2, y3, y4, y5, y6⟩ := HR8.o.seven2
      have zl := HR8.o.lt
      go_wp2
      rw [set7t_fold]
      have HF := HR8.o.put7 (u0 := .int .i64 X2.op) (u1 := .string X2.text) (u2 := .int .u64 X2.s0) (u3 := .int .u64 X2.s1) (u4 := .int .u64 X2.s2) (u5 := .int .u64 X2.s3) (u6 := .slice ko X2.kids.length kc)
      obtain ⟨hU, hQ⟩ := Rd.set7 (N := N) (D' := w.heap.size) HH.o (Nat.le_of_eq HNN.o) (by have := HS7.o; omega) (by have := HS7.o; have := HNN.o; omega) HU8.o HQ.o (.int .i64 X2.op) (.string X2.text) (.int .u64 X2.s0) (.int .u64 X2.s1) (.int .u64 X2.s2) (.int .u64 X2.s3) (.slice ko X2.kids.length kc)
      clear z0 z1 z2 z3 z4 z5 z6 y0 y1 y2 y3 y4 y5 y6
      generalize set7t _ N _ _ _ _ _ _ _ = w9 at *
      obtain ⟨z0, z1, z2, z3, z4, z5, z6⟩ := HF.seven
      refine bodyPost_ret (by simp [results, Try.results111, go_sem, z0, z1, z2, z3, z4, z5, z6]; rfl) rfl ?_
      rw [HE.o]
      exact ⟨hU, X2, ko, kc, rfl, hQ⟩
    ·
     have i1 : ((t.kd : Int) == 1) = false := by simp; omega
     have HE := aH (show RES = sufO L X big k from by rw [HSP.o, if_neg (by simp [q1])])
     go_wp2_with fail
     go_quiet (fail)
     have hbd : Below w6.heap.size w6 (w6.drewN nq) := below_drewN (Below.refl _ _) nq
     have HR7 := aH (show Own (w6.drewN nq) N _ _ from HR6.o.on_drewN nq)
     have HU7 := aH (HU6.o.then_below hbd)
     have H7 := aH (H6.o.below hbd)
     have HS7 := aH (show N < (w6.drewN nq).heap.size from by have := HS6.o; have := HGX.o; have := HGW.o; have := hbd.size; omega)
     clear hbd HR6 HU6 H6 HX6 x0 xl HSP
     generalize World.drewN w6 nq = w7 at *
     go_wp2_with fail
     refine (HSS.o k hk w7 H7.o).mono ?_
     rintro e w8 ⟨hbu, X2, ko, kc, rfl, hq⟩
     unfold exv
     have HQ := aH (show OutQ w g _ lc L (sufO L X big k) w7.heap.size X2 ko w8 from hq)
     have HR8 := aH (HR7.o.but hbu (by have := HGN.o; omega))
     have HU8 := aH (HU7.o.trans hbu (fun _ _ h => h))
     clear hbu hq HR7 HU7 H7
     obtain ⟨z0, z1, z2, z3, z4, z5, z6, y0, y1, y2, y3, y4, y5, y6⟩ := HR8.o.seven2
     have zl := HR8.o.lt
     go_wp2
     rw [set7t_fold]
     have HF := HR8.o.put7 (u0 := .int .i64 X2.op) (u1 := .string X2.text) (u2 := .int .u64 X2.s0) (u3 := .int .u64 X2.s1) (u4 := .int .u64 X2.s2) (u5 := .int .u64 X2.s3) (u6 := .slice ko X2.kids.length kc)
     obtain ⟨hU, hQ⟩ := Rd.set7 (N := N) (D' := w.heap.size) HH.o (Nat.le_of_eq HNN.o) (by have := HS7.o; omega) (by have := HS7.o; have := HNN.o; omega) HU8.o HQ.o (.int .i64 X2.op) (.string X2.text) (.int .u64 X2.s0) (.int .u64 X2.s1) (.int .u64 X2.s2) (.int .u64 X2.s3) (.slice ko X2.kids.length kc)
     clear z0 z1 z2 z3 z4 z5 z6 y0 y1 y2 y3 y4 y5 y6
     generalize set7t _ N _ _ _ _ _ _ _ = w9 at *
     obtain ⟨z0, z1, z2, z3, z4, z5, z6⟩ := HF.seven
     refine bodyPost_ret (by simp [results, Try.results111, go_sem, z0, z1, z2, z3, z4, z5, z6]; rfl) rfl ?_
     rw [HE.o]
     exact ⟨hU, X2, ko, kc, rfl, hQ⟩
end Go.Proofs.Ytbjgojdpfehnmaa
