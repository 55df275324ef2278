/- The program's reader: its cursor, and the small functions: the token that comes, a sign that comes, and is taken. The program's reader: a fault; whether a part comes, or a label. The program's reader: whether a label comes; a name. -/
import Derived.Test.YtonknapfndaalaaGm
import Derived.Test.YtonknapfndaalaaPs0
import Derived.Lib.QuietBelow
namespace Go.Proofs.Ytonknapfndaalaa
set_option linter.unusedVariables false
set_option maxRecDepth 1000000
open Go.RowKit Go.Sort
/-- The program's cursor: tokens, the place, how many parentheses are open, the fault. -/
def Rq (w : World) (g : Nat) (lo : Option Addr) (lc : Nat) (L : List Tok) (k : Nat) (op : Int) (F : Option (Int × Int)) : Prop :=
 Own w g 56 [.slice lo L.length lc, .int .i64 (k : Int), .int .i64 op, .int .i64 (fE F), .int .i64 (fA F), .int .i64 0, .int .i64 0] ∧ HasT w lo L ∧ ∀ a, lo = some a → a.block ≠ g
section
variable {w w' : World} {g : Nat} {lo : Option Addr} {lc : Nat} {L : List Tok} {k : Nat} {op : Int} {F : Option (Int × Int)}
theorem Rq.below (h : Rq w g lo lc L k op F) (hb : Below w.heap.size w w') : Rq w' g lo lc L k op F := ⟨h.1.under hb h.1.lt, h.2.1.below hb, h.2.2⟩
theorem Rq.but {S : Nat → Prop} (h : Rq w g lo lc L k op F) (hb : But S w w') (hg : ¬ S g) (hl : ∀ a, lo = some a → ¬ S a.block) : Rq w' g lo lc L k op F :=
 ⟨h.1.but hb hg, fun j t hj => by
  obtain ⟨b, off, e, hlt, h0, h1, h2, h3, h4, h5, h6⟩ := h.2.1 j t hj
  have hn : ¬ S b := hl _ e
  exact ⟨b, off, e, Nat.lt_of_lt_of_le hlt hb.size, hb.cell hn h0, hb.cell hn h1, hb.cell hn h2, hb.cell hn h3, hb.cell hn h4, hb.cell hn h5, hb.cell hn h6⟩, h.2.2⟩
theorem Rq.at (h : Rq w g lo lc L k op F) (m : Nat) (v : Value) (hv : v = .int .i64 (m : Int)) : Rq (w.setCell ⟨g, 1, none⟩ v) g lo lc L m op F := by
 subst hv
 exact ⟨h.1.put 1 _, h.2.1.but h.2.2 (But.put _ _ _ _), h.2.2⟩
theorem Rq.open (h : Rq w g lo lc L k op F) (q : Int) : Rq (w.setCell ⟨g, 2, none⟩ (.int .i64 q)) g lo lc L k q F := ⟨h.1.put 2 _, h.2.1.but h.2.2 (But.put _ _ _ _), h.2.2⟩
end
set_option maxRecDepth 1000000 in
set_option maxHeartbeats 1600000 in
theorem rq_now (g : Nat) (lo : Option Addr) (lc : Nat) (L : List Tok) (k : Nat) (op : Int) (F : Option (Int × Int)) (hn : (L.length : Int) ≤ 1000000) (hk : k < L.length) (w : World) (h : Rq w g lo lc L k op F) :
  Calls Try.prog 87 #[.pointer (some ⟨g, 0, none⟩)] w fun e w' => e = .returned (tokV (tkA L k)) ∧ Below w.heap.size w w' := by
 obtain ⟨ho, hT, -⟩ := h
 have HO := Lib.hid (ho.on_alloc (.cells #[.int .i64 0, .string ⟨#[]⟩, .int .u64 0, .int .u64 0, .int .u64 0, .int .u64 0, .int .i64 0] 48))
 have HR := Lib.hid (Own.fresh w 48 [.int .i64 0, .string ⟨#[]⟩, .int .u64 0, .int .u64 0, .int .u64 0, .int .u64 0, .int .i64 0])
 have HB := Lib.hid ((Below.refl w.heap.size w).alloc (Nat.le_refl _) (.cells #[.int .i64 0, .string ⟨#[]⟩, .int .u64 0, .int .u64 0, .int .u64 0, .int .u64 0, .int .i64 0] 48))
 have HT := Lib.hid (hT.below ((Below.refl _ _).alloc (Nat.le_refl _) (.cells #[.int .i64 0, .string ⟨#[]⟩, .int .u64 0, .int .u64 0, .int .u64 0, .int .u64 0, .int .i64 0] 48)))
 obtain ⟨n, hnn⟩ : ∃ n, L.length = n := ⟨_, rfl⟩
 have HN := Lib.hid hnn
 rw [hnn] at hn HO hk
 clear ho hT hnn
 go_enter Try.func87, Try.ntmps87
 go_upto_region 1 with fail
 generalize World.alloc w _ = w1 at *
 obtain ⟨N, hN⟩ : ∃ N, w.heap.size = N := ⟨_, rfl⟩
 rw [hN] at HR HB ⊢
 have HNN := Lib.hid hN
 clear hN
 obtain ⟨c0, c1, c2, c3, c4, c5, c6⟩ := HO.out.seven
 have cg := HO.out.lt
 obtain ⟨t, ht⟩ : ∃ t, L[k]? = some t := ⟨_, List.getElem?_eq_getElem (by have := HN.out; omega)⟩
 obtain ⟨b, off, rfl, hb, a0, a1, a2, a3, a4, a5, a6⟩ := HT.out k t ht
 have HE := Lib.hid (tkA_in ht)
 obtain ⟨z0, z1, z2, z3, z4, z5, z6, y0, y1, y2, y3, y4, y5, y6⟩ := HR.out.seven2
 have zl := HR.out.lt
 have h1' : (k : Int) < n := by omega
 clear ht
 go_still_tail 10, (by kernel_rfl)
 go_wp2
 rw [set7t_fold]
 have HF := (HR.out.put7 (u0 := .int .i64 (t.kd : Int)) (u1 := .string t.tx) (u2 := .int .u64 (t.st.1 : Int)) (u3 := .int .u64 (t.st.2.1 : Int)) (u4 := .int .u64 (t.st.2.2.1 : Int)) (u5 := .int .u64 (t.st.2.2.2 : Int)) (u6 := .int .i64 (t.pos : Int))).on_drew
 have HBF := (below_put7 HB.out (Nat.le_refl _) (.int .i64 (t.kd : Int)) (.string t.tx) (.int .u64 (t.st.1 : Int)) (.int .u64 (t.st.2.1 : Int)) (.int .u64 (t.st.2.2.1 : Int)) (.int .u64 (t.st.2.2.2 : Int)) (.int .i64 (t.pos : Int))).drew
 clear z0 z1 z2 z3 z4 z5 z6 y0 y1 y2 y3 y4 y5 y6
 generalize (set7t w1 N (.int .i64 (t.kd : Int)) (.string t.tx) (.int .u64 (t.st.1 : Int)) (.int .u64 (t.st.2.1 : Int)) (.int .u64 (t.st.2.2.1 : Int)) (.int .u64 (t.st.2.2.2 : Int)) (.int .i64 (t.pos : Int))).drew = w9 at *
 obtain ⟨z0, z1, z2, z3, z4, z5, z6⟩ := HF.seven
 refine bodyPost_ret (by simp [results, Try.results87, go_sem, z0, z1, z2, z3, z4, z5, z6]; rfl) rfl ?_
 exact ⟨by rw [HE.out]; rfl, by rw [HNN.out]; exact HBF⟩
set_option maxRecDepth 1000000 in
set_option maxHeartbeats 1600000 in
theorem rq_comes (s : ByteArray) (g : Nat) (lo : Option Addr) (lc : Nat) (L : List Tok) (k : Nat) (op : Int) (F : Option (Int × Int)) (hn : (L.length : Int) ≤ 1000000) (hk : k < L.length) (w : World) (h : Rq w g lo lc L k op F) :
  Calls Try.prog 64 #[.pointer (some ⟨g, 0, none⟩), .string s] w fun e w' => e = .returned (.bool (isS L k s.data.toList)) ∧ Below w.heap.size w w' := by
 have HNW := Lib.hid (fun (W : World) (hb : Below w.heap.size w W) => rq_now g lo lc L k op F hn hk W (h.below hb))
 have HE := Lib.hid (isS_eq L k s)
 clear h
 obtain ⟨R, hR⟩ : ∃ R, isS L k s.data.toList = R := ⟨_, rfl⟩
 rw [hR] at HE ⊢
 clear hR
 generalize tkA L k = t at *
 unfold tokV at HNW
 obtain ⟨kd, hkd⟩ : ∃ z, t.kd = z := ⟨_, rfl⟩
 rw [hkd] at HNW HE
 go_enter Try.func64, Try.ntmps64
 go_wp2_with fail
 refine (HNW.out _ (Below.refl _ _)).mono ?_
 rintro e w1 ⟨rfl, hb1⟩
 have HB1 := Lib.hid hb1
 clear hb1
 by_cases h4 : kd = 4
 ·
  subst h4
  obtain ⟨z, hz⟩ : ∃ z, (t.tx.toList == s.toList) = z := ⟨_, rfl⟩
  have HZ := Lib.hid (show R = z by rw [HE.out, hz]; rfl)
  go_wp2_with fail
  refine (HNW.out _ HB1.out).mono ?_
  rintro e w2 ⟨rfl, hb2⟩
  have HB2 := Lib.hid (keepb HB1.out hb2)
  clear hb2
  go_wp2
  go_ret
  exact ⟨ret_bool HZ.out.symm, HB2.out⟩
 ·
  have e4 : ((kd : Int) == 4) = false := beq_eq_false_iff_ne.2 (by omega)
  have e4n : (kd == 4) = false := beq_eq_false_iff_ne.2 h4
  have HZ := Lib.hid (show R = false by rw [HE.out, e4n]; rfl)
  clear h4
  go_wp2
  go_ret
  exact ⟨ret_bool HZ.out.symm, HB1.out⟩
set_option maxRecDepth 1000000 in
set_option maxHeartbeats 1600000 in
theorem rq_take (s : ByteArray) (g : Nat) (lo : Option Addr) (lc : Nat) (L : List Tok) (k : Nat) (op : Int) (F : Option (Int × Int)) (hn : (L.length : Int) ≤ 1000000) (hk : k < L.length) (w : World) (h : Rq w g lo lc L k op F) :
  Calls Try.prog 46 #[.pointer (some ⟨g, 0, none⟩), .string s] w fun e w' => e = .returned (.bool (isS L k s.data.toList)) ∧ But (fun j => j = g) w w' ∧ Rq w' g lo lc L (if isS L k s.data.toList = true then k + 1 else k) op F := by
 have HIS := Lib.hid (rq_comes s g lo lc L k op F hn hk w h)
 have H := Lib.hid h
 obtain ⟨z, hz⟩ : ∃ z, isS L k s.data.toList = z := ⟨_, rfl⟩
 rw [hz] at HIS ⊢
 clear h hz
 have hw1 : IntKind.i64.wrap ((k : Int) + 1) = (k : Int) + 1 := by rw [IntKind.wrap_i64]; omega
 go_enter Try.func46, Try.ntmps46
 go_wp2_with fail
 refine HIS.out.mono ?_
 rintro e w1 ⟨rfl, hb1⟩
 have H1 := Lib.hid (H.out.below hb1)
 have HB1 := Lib.hid (But.of_below (S := fun j => j = g) hb1)
 clear hb1
 cases z with
 | false =>
  go_wp2
  go_ret
  exact ⟨rfl, HB1.out, H1.out⟩
 | true =>
  obtain ⟨c0, c1, c2, c3, c4, c5, c6⟩ := H1.out.1.seven
  have cg := H1.out.1.lt
  have cf : w1.frozen? ⟨g, 1, none⟩ = false := H1.out.1.thaw 1
  have HR := Lib.hid (H1.out.at (k + 1) (.int .i64 ((k : Int) + 1)) rfl)
  have HB2 := Lib.hid (HB1.out.setCell (p := ⟨g, 1, none⟩) (fun _ => rfl) (.int .i64 ((k : Int) + 1)))
  clear H1 HB1
  go_wp2
  go_ret
  exact ⟨rfl, HB2.out, HR.out⟩
end Go.Proofs.Ytonknapfndaalaa

namespace Go.Proofs.Ytonknapfndaalaa
set_option linter.unusedVariables false
set_option maxRecDepth 1000000
open Go.RowKit Go.Sort
theorem Rq.fin {w w3 : World} {g N k0 k : Nat} {lo : Option Addr} {lc : Nat} {L : List Tok} {p q : Int} {F0 F : Option (Int × Int)} (H0 : Rq w g lo lc L k0 p F0) (hN : w.heap.size ≤ N) (HU : But (fun j => j = g) w w3) (H3 : Rq w3 g lo lc L k q F) (u0 u1 u2 u3 u4 u5 u6 : Value) :
  But (fun j => j = g) w (set7t w3 N u0 u1 u2 u3 u4 u5 u6) ∧ Rq (set7t w3 N u0 u1 u2 u3 u4 u5 u6) g lo lc L k q F := by
 have hU : But (fun j => j = g) w (set7t w3 N u0 u1 u2 u3 u4 u5 u6) := HU.trans (But.set7 w3 N u0 u1 u2 u3 u4 u5 u6) (fun j hj e => by omega)
 have hg := H0.1.lt
 exact ⟨hU, H3.1.but (But.set7 w3 N u0 u1 u2 u3 u4 u5 u6) (by omega), H0.2.1.but H0.2.2 hU, H0.2.2⟩
set_option maxRecDepth 1000000 in
set_option maxHeartbeats 1600000 in
theorem rq_stop (c : Int) (g : Nat) (lo : Option Addr) (lc : Nat) (L : List Tok) (k : Nat) (op : Int) (F : Option (Int × Int)) (hn : (L.length : Int) ≤ 1000000) (hk : k < L.length) (w : World) (h : Rq w g lo lc L k op F) :
  Calls Try.prog 101 #[.pointer (some ⟨g, 0, none⟩), .int .i64 c] w fun e w' => e = .returned (.tuple #[exv ex0 none 0, .bool false]) ∧ But (fun j => j = g) w w' ∧ Rq w' g lo lc L k op (some (c, ((tkA L k).pos : Int))) := by
 have hlt := h.1.lt
 have HH := Lib.hid h
 have hbl : Below w.heap.size w (w.alloc (.cells #[.int .i64 0, .string ⟨#[]⟩, .int .u64 0, .int .u64 0, .int .u64 0, .int .u64 0, .slice none 0 0] 28)) := (Below.refl _ _).alloc (Nat.le_refl _) _
 have HQ := Lib.hid (h.below hbl)
 have HA := Lib.hid (Own.fresh w 28 [.int .i64 0, .string ⟨#[]⟩, .int .u64 0, .int .u64 0, .int .u64 0, .int .u64 0, .slice none 0 0])
 have HU := Lib.hid (But.of_below (S := fun j => j = g) hbl)
 have HN := Lib.hid (fun W (hW : Rq W g lo lc L k op F) => rq_now g lo lc L k op F hn hk W hW)
 obtain ⟨N, hN⟩ : ∃ N, w.heap.size = N := ⟨_, rfl⟩
 have ne1 : ¬ N = g := by omega
 have ne2 : ¬ g = N := by omega
 rw [hN] at HA
 have HNN := Lib.hid hN
 generalize tkA L k = t at *
 unfold tokV at HN
 obtain ⟨pos, hpos⟩ : ∃ z, (t.pos : Int) = z := ⟨_, rfl⟩
 rw [hpos] at HN ⊢
 clear h hbl hpos
 go_enter Try.func101, Try.ntmps101
 go_upto_region 1 with fail
 generalize World.alloc w _ = w1 at *
 try rw [hN]
 clear hN
 go_wp2_with fail
 refine (HN.out _ HQ.out).mono ?_
 rintro e w2 ⟨rfl, hb2⟩
 have HQ2 := Lib.hid (HQ.out.below hb2)
 have HA2 := Lib.hid (HA.out.under hb2 HA.out.lt)
 have HU2 := Lib.hid (HU.out.then_below hb2)
 clear hb2 HQ HA HU HN
 obtain ⟨c0, c1, c2, c3, c4, c5, c6⟩ := HQ2.out.1.seven
 have cg := HQ2.out.1.lt
 have f3 : w2.frozen? ⟨g, 3, none⟩ = false := HQ2.out.1.thaw 3
 have f4 : w2.frozen? ⟨g, 4, none⟩ = false := HQ2.out.1.thaw 4
 have f5 : w2.frozen? ⟨g, 5, none⟩ = false := HQ2.out.1.thaw 5
 have f6 : w2.frozen? ⟨g, 6, none⟩ = false := HQ2.out.1.thaw 6
 obtain ⟨z0, z1, z2, z3, z4, z5, z6, y0, y1, y2, y3, y4, y5, y6⟩ := HA2.out.seven2
 have zl := HA2.out.lt
 have HU3 := Lib.hid ((((HU2.out.setCell (p := ⟨g, 3, none⟩) (fun _ => rfl) (.int .i64 c)).setCell (p := ⟨g, 4, none⟩) (fun _ => rfl) (.int .i64 pos)).setCell (p := ⟨g, 5, none⟩) (fun _ => rfl) (.int .i64 0)).setCell (p := ⟨g, 6, none⟩) (fun _ => rfl) (.int .i64 0))
 have HQ3 := Lib.hid (show Rq ((((w2.setCell ⟨g, 3, none⟩ (.int .i64 c)).setCell ⟨g, 4, none⟩ (.int .i64 pos)).setCell ⟨g, 5, none⟩ (.int .i64 0)).setCell ⟨g, 6, none⟩ (.int .i64 0)) g lo lc L k op (some (c, pos)) from
  ⟨(((HQ2.out.1.put 3 (.int .i64 c)).put 4 (.int .i64 pos)).put 5 (.int .i64 0)).put 6 (.int .i64 0), HQ2.out.2.1.but HQ2.out.2.2 ((((But.put _ _ _ _).setCell (p := ⟨g, 4, none⟩) (fun _ => rfl) _).setCell (p := ⟨g, 5, none⟩) (fun _ => rfl) _).setCell (p := ⟨g, 6, none⟩) (fun _ => rfl) _), HQ2.out.2.2⟩)
 have HA3 := Lib.hid ((((HA2.out.off (p := ⟨g, 3, none⟩) ne1 (.int .i64 c)).off (p := ⟨g, 4, none⟩) ne1 (.int .i64 pos)).off (p := ⟨g, 5, none⟩) ne1 (.int .i64 0)).off (p := ⟨g, 6, none⟩) ne1 (.int .i64 0))
 go_wp2
 clear c0 c1 c2 c3 c4 c5 c6 cg f3 f4 f5 f6 z0 z1 z2 z3 z4 z5 z6 y0 y1 y2 y3 y4 y5 y6 zl HA2 HQ2 HU2
 generalize (((w2.setCell ⟨g, 3, none⟩ (.int .i64 c)).setCell ⟨g, 4, none⟩ (.int .i64 pos)).setCell ⟨g, 5, none⟩ (.int .i64 0)).setCell ⟨g, 6, none⟩ (.int .i64 0) = w3 at *
 rw [set7t_fold]
 obtain ⟨hU, hR⟩ := Rq.fin HH.out (Nat.le_of_eq HNN.out) HU3.out HQ3.out (.int .i64 0) (.string ⟨#[]⟩) (.int .u64 0) (.int .u64 0) (.int .u64 0) (.int .u64 0) (.slice none 0 0)
 have HF := HA3.out.put7 (u0 := .int .i64 0) (u1 := .string ⟨#[]⟩) (u2 := .int .u64 0) (u3 := .int .u64 0) (u4 := .int .u64 0) (u5 := .int .u64 0) (u6 := .slice none 0 0)
 generalize set7t w3 N _ _ _ _ _ _ _ = w9 at *
 obtain ⟨z0, z1, z2, z3, z4, z5, z6⟩ := HF.seven
 refine bodyPost_ret (by simp [results, Try.results101, go_sem, z0, z1, z2, z3, z4, z5, z6]; rfl) rfl ?_
 exact ⟨rfl, hU, hR⟩
set_option maxRecDepth 1000000 in
set_option maxHeartbeats 1600000 in
theorem rq_pc (g : Nat) (lo : Option Addr) (lc : Nat) (L : List Tok) (k : Nat) (op : Int) (F : Option (Int × Int)) (hn : (L.length : Int) ≤ 1000000) (hk : k < L.length) (w : World) (h : Rq w g lo lc L k op F) :
  Calls Try.prog 63 #[.pointer (some ⟨g, 0, none⟩)] w fun e w' => e = .returned (.bool (startsO L k)) ∧ Below w.heap.size w w' := by
 have HN := Lib.hid (rq_now g lo lc L k op F hn hk w h)
 have HS := Lib.hid (show startsO L k = ((tkA L k).kd == 1 || (tkA L k).kd == 2 || (tkA L k).kd == 3 || isS L k (⟨#[38]⟩ : ByteArray).data.toList || isS L k (⟨#[33]⟩ : ByteArray).data.toList || isS L k (⟨#[126]⟩ : ByteArray).data.toList || isS L k (⟨#[46]⟩ : ByteArray).data.toList || isS L k (⟨#[40]⟩ : ByteArray).data.toList) from rfl)
 rw [isS_eq, isS_eq, isS_eq, isS_eq, isS_eq] at HS
 obtain ⟨R, hR⟩ : ∃ R, startsO L k = R := ⟨_, rfl⟩
 rw [hR] at HS ⊢
 generalize tkA L k = t at *
 unfold tokV at HN
 obtain ⟨kd, hkd⟩ : ∃ z, t.kd = z := ⟨_, rfl⟩
 obtain ⟨tx, htx⟩ : ∃ z, t.tx = z := ⟨_, rfl⟩
 rw [hkd, htx] at HN HS
 clear h hR hkd htx
 go_enter Try.func63, Try.ntmps63
 go_wp2_with fail
 refine HN.out.mono ?_
 rintro e w1 ⟨rfl, hb1⟩
 have HB := Lib.hid (hb1.alloc hb1.size (.cells #[.int .i64 (kd : Int), .string tx, .int .u64 (t.st.1 : Int), .int .u64 (t.st.2.1 : Int), .int .u64 (t.st.2.2.1 : Int), .int .u64 (t.st.2.2.2 : Int), .int .i64 (t.pos : Int)] 48))
 have HA := Lib.hid (Own.fresh w1 48 [.int .i64 (kd : Int), .string tx, .int .u64 (t.st.1 : Int), .int .u64 (t.st.2.1 : Int), .int .u64 (t.st.2.2.1 : Int), .int .u64 (t.st.2.2.2 : Int), .int .i64 (t.pos : Int)])
 clear hb1 HN
 go_upto_region 2 with fail
 generalize w1.alloc _ = w2 at *
 generalize w1.heap.size = N at *
 obtain ⟨c0, c1, c2, c3, c4, c5, c6⟩ := HA.out.seven
 have cl := HA.out.lt
 by_cases h1 : kd = 1
 ·
  subst h1
  go_wp2
  go_ret
  exact ⟨ret_bool (by rw [HS.out]; rfl), HB.out⟩
 by_cases h2 : kd = 2
 ·
  subst h2
  go_wp2
  go_ret
  exact ⟨ret_bool (by rw [HS.out]; rfl), HB.out⟩
 by_cases h3 : kd = 3
 ·
  subst h3
  go_wp2
  go_ret
  exact ⟨ret_bool (by rw [HS.out]; rfl), HB.out⟩
 have e1 : ((kd : Int) == 1) = false := beq_eq_false_iff_ne.2 (by omega)
 have e2 : ((kd : Int) == 2) = false := beq_eq_false_iff_ne.2 (by omega)
 have e3 : ((kd : Int) == 3) = false := beq_eq_false_iff_ne.2 (by omega)
 have n1 : (kd == 1) = false := beq_eq_false_iff_ne.2 h1
 have n2 : (kd == 2) = false := beq_eq_false_iff_ne.2 h2
 have n3 : (kd == 3) = false := beq_eq_false_iff_ne.2 h3
 by_cases h4 : kd = 4
 ·
  subst h4
  rw [show (⟨#[38]⟩ : ByteArray).toList = [38] by decide +kernel, show (⟨#[33]⟩ : ByteArray).toList = [33] by decide +kernel, show (⟨#[126]⟩ : ByteArray).toList = [126] by decide +kernel, show (⟨#[46]⟩ : ByteArray).toList = [46] by decide +kernel, show (⟨#[40]⟩ : ByteArray).toList = [40] by decide +kernel] at HS
  obtain ⟨q1, hq1⟩ : ∃ q, (tx.toList == [38]) = q := ⟨_, rfl⟩
  obtain ⟨q2, hq2⟩ : ∃ q, (tx.toList == [33]) = q := ⟨_, rfl⟩
  obtain ⟨q3, hq3⟩ : ∃ q, (tx.toList == [126]) = q := ⟨_, rfl⟩
  obtain ⟨q4, hq4⟩ : ∃ q, (tx.toList == [46]) = q := ⟨_, rfl⟩
  obtain ⟨q5, hq5⟩ : ∃ q, (tx.toList == [40]) = q := ⟨_, rfl⟩
  rw [hq1, hq2, hq3, hq4, hq5] at HS
  clear e1 e2 e3 h1 h2 h3 n1 n2 n3
  cases q1
  rotate_left
  ·
   go_wp2
   go_ret
   exact ⟨ret_bool (by rw [HS.out]; first | rfl | simp), HB.out⟩
  cases q2
  rotate_left
  ·
   go_wp2
   go_ret
   exact ⟨ret_bool (by rw [HS.out]; first | rfl | simp), HB.out⟩
  cases q3
  rotate_left
  ·
   go_wp2
   go_ret
   exact ⟨ret_bool (by rw [HS.out]; first | rfl | simp), HB.out⟩
  cases q4
  rotate_left
  ·
   go_wp2
   go_ret
   exact ⟨ret_bool (by rw [HS.out]; first | rfl | simp), HB.out⟩
  cases q5
  ·
   go_wp2
   go_ret
   exact ⟨ret_bool (by rw [HS.out]; first | rfl | simp), HB.out⟩
  ·
   go_wp2
   go_ret
   exact ⟨ret_bool (by rw [HS.out]; first | rfl | simp), HB.out⟩
 ·
  have e4 : ((kd : Int) == 4) = false := beq_eq_false_iff_ne.2 (by omega)
  have n4 : (kd == 4) = false := beq_eq_false_iff_ne.2 h4
  have HE := Lib.hid (show R = false by rw [HS.out, n1, n2, n3, n4]; rfl)
  clear h1 h2 h3 h4 n1 n2 n3 n4 HS
  go_wp2
  go_ret
  exact ⟨ret_bool HE.out.symm, HB.out⟩
end Go.Proofs.Ytonknapfndaalaa

namespace Go.Proofs.Ytonknapfndaalaa
set_option linter.unusedVariables false
set_option maxRecDepth 1000000
open Go.RowKit Go.Sort
def labO (L : List Tok) (k : Nat) : Bool := (tkA L k).kd == 1 && decide (k + 1 < L.length) && isS L (k + 1) [58]
set_option maxRecDepth 1000000 in
set_option maxHeartbeats 1600000 in
theorem rq_lc (g : Nat) (lo : Option Addr) (lc : Nat) (L : List Tok) (k : Nat) (op : Int) (F : Option (Int × Int)) (hn : (L.length : Int) ≤ 1000000) (hk : k < L.length) (w : World) (h : Rq w g lo lc L k op F) :
  Calls Try.prog 84 #[.pointer (some ⟨g, 0, none⟩)] w fun e w' => e = .returned (.bool (labO L k)) ∧ Below w.heap.size w w' := by
 have HQ := Lib.hid h
 have C1 := Lib.hid (fun (dq : Nat) (os : Array Obj) => rq_now g lo lc L k op F hn hk (grow (redrawn w dq) os) (h.below (below_regrown w dq os)))
 have HS := Lib.hid (show labO L k = ((tkA L k).kd == 1 && decide (k + 1 < L.length) && isS L (k + 1) (⟨#[58]⟩ : ByteArray).data.toList) from rfl)
 rw [isS_eq] at HS
 obtain ⟨R, hR⟩ : ∃ R, labO L k = R := ⟨_, rfl⟩
 rw [hR] at HS ⊢
 generalize tkA L k = t at *
 unfold tokV at C1
 obtain ⟨kd, hkd⟩ : ∃ z, t.kd = z := ⟨_, rfl⟩
 rw [hkd] at C1 HS
 obtain ⟨n, hnn⟩ : ∃ n, L.length = n := ⟨_, rfl⟩
 have HNN := Lib.hid hnn
 obtain ⟨c0, c1, c2, c3, c4, c5, c6⟩ := HQ.out.1.seven
 have cg := HQ.out.1.lt
 rw [hnn] at c0 HS hk hn
 clear h hR hkd hnn
 have c0' := cell_regrown c0
 have c1' := cell_regrown c1
 have hw1 : IntKind.i64.wrap ((k : Int) + 1) = (k : Int) + 1 := by rw [IntKind.wrap_i64]; omega
 by_cases h1 : kd = 1
 ·
  subst h1
  by_cases h2 : k + 1 < n
  ·
   have d1 : decide ((n : Int) ≤ (k : Int) + 1) = false := decide_eq_false (by omega)
   have d2 : decide (n ≤ k + 1) = false := decide_eq_false (by omega)
   have HE := Lib.hid (show R = ((tkA L (k + 1)).kd == 4 && (tkA L (k + 1)).tx.toList == [58]) by rw [HS.out, decide_eq_true h2, show (⟨#[58]⟩ : ByteArray).toList = [58] by decide +kernel]; rfl)
   go_enter Try.func84, Try.ntmps84
   go_upto_region 1 with fail
   refine wp_region_quiet_below (by kernel_rfl) (by kernel_rfl) ?_
   repeat (go_big_quiet_step (first
    | (go_at_call 87; with_reducible exact Calls.regrown_of (C1.out _ _))))
   refine wpQuiet_nil ?_
   intro _ hw'
   obtain ⟨⟨dq, osq⟩, hw''⟩ := hw'
   subst hw''
   have HB := Lib.hid (below_regrown w dq osq)
   have HQ2 := Lib.hid (HQ.out.below HB.out)
   clear c0 c1 c2 c3 c4 c5 c6 cg c0' c1' C1 HQ HS
   generalize grow (redrawn w dq) osq = w2 at *
   obtain ⟨c0, c1, c2, c3, c4, c5, c6⟩ := HQ2.out.1.seven
   have cg := HQ2.out.1.lt
   rw [HNN.out] at c0
   obtain ⟨u, hu⟩ : ∃ u, L[k + 1]? = some u := ⟨_, List.getElem?_eq_getElem (by have := HNN.out; omega)⟩
   obtain ⟨b, off, hlo, hb, a0, a1, a2, a3, a4, a5, a6⟩ := HQ2.out.2.1 (k + 1) u hu
   rw [tkA_in hu] at HE
   rw [hlo] at c0
   have h2' : (k : Int) + 1 < (n : Int) := by omega
   clear hu hlo
   obtain ⟨ukd, hukd⟩ : ∃ z, u.kd = z := ⟨_, rfl⟩
   obtain ⟨utx, hutx⟩ : ∃ z, u.tx = z := ⟨_, rfl⟩
   rw [hukd] at a0 HE
   rw [hutx] at a1 HE
   clear hukd hutx
   go_upto_region 3 with fail
   go_region
   have HA := Lib.hid ((Own.fresh w2 48 [.int .i64 (ukd : Int), .string utx, .int .u64 (u.st.1 : Int), .int .u64 (u.st.2.1 : Int), .int .u64 (u.st.2.2.1 : Int), .int .u64 (u.st.2.2.2 : Int), .int .i64 (u.pos : Int)]).on_drew)
   have HB2 := Lib.hid ((HB.out.alloc HB.out.size (.cells #[.int .i64 (ukd : Int), .string utx, .int .u64 (u.st.1 : Int), .int .u64 (u.st.2.1 : Int), .int .u64 (u.st.2.2.1 : Int), .int .u64 (u.st.2.2.2 : Int), .int .i64 (u.pos : Int)] 48)).drew)
   clear a0 a1 a2 a3 a4 a5 a6 c0 c1 c2 c3 c4 c5 c6 cg hb HB HQ2
   generalize World.drew (w2.alloc _) = w3 at *
   generalize w2.heap.size = N at *
   obtain ⟨z0, z1, z2, z3, z4, z5, z6⟩ := HA.out.seven
   have zl := HA.out.lt
   by_cases h4 : ukd = 4
   ·
    subst h4
    obtain ⟨q1, hq1⟩ : ∃ q, (utx.toList == [58]) = q := ⟨_, rfl⟩
    rw [hq1] at HE
    cases q1
    all_goals
     go_wp2
     go_ret
     exact ⟨ret_bool (by rw [HE.out]; rfl), HB2.out⟩
   ·
    have e4 : ((ukd : Int) == 4) = false := beq_eq_false_iff_ne.2 (by omega)
    have n4 : (ukd == 4) = false := beq_eq_false_iff_ne.2 h4
    have HE2 := Lib.hid (show R = false by rw [HE.out, n4]; rfl)
    clear h4 n4 HE
    go_wp2
    go_ret
    exact ⟨ret_bool HE2.out.symm, HB2.out⟩
  ·
   have d1 : decide ((n : Int) ≤ (k : Int) + 1) = true := decide_eq_true (by omega)
   have d2 : decide (n ≤ k + 1) = true := decide_eq_true (by omega)
   have HE := Lib.hid (show R = false by rw [HS.out, decide_eq_false h2]; rfl)
   go_enter Try.func84, Try.ntmps84
   go_upto_region 1 with fail
   refine wp_region_quiet_below (by kernel_rfl) (by kernel_rfl) ?_
   repeat (go_big_quiet_step (first
    | (go_at_call 87; with_reducible exact Calls.regrown_of (C1.out _ _))))
   refine wpQuiet_nil ?_
   intro _ hw'
   obtain ⟨⟨dq, osq⟩, hw''⟩ := hw'
   subst hw''
   go_wp2
   go_ret
   exact ⟨ret_bool HE.out.symm, below_regrown w dq osq⟩
 ·
  have e1 : ((kd : Int) == 1) = false := beq_eq_false_iff_ne.2 (by omega)
  have n1 : (kd == 1) = false := beq_eq_false_iff_ne.2 h1
  have e2 : ((kd : Int) != 1) = true := by rw [bne_iff_ne]; omega
  have HE := Lib.hid (show R = false by rw [HS.out, n1]; rfl)
  go_enter Try.func84, Try.ntmps84
  go_upto_region 1 with fail
  refine wp_region_quiet_below (by kernel_rfl) (by kernel_rfl) ?_
  repeat (go_big_quiet_step (first
   | (go_at_call 87; with_reducible exact Calls.regrown_of (C1.out _ _))))
  refine wpQuiet_nil ?_
  intro _ hw'
  obtain ⟨⟨dq, osq⟩, hw''⟩ := hw'
  subst hw''
  go_wp2
  go_ret
  exact ⟨ret_bool HE.out.symm, below_regrown w dq osq⟩
/-- What the program's Word tells. -/
def WordOk : Prop := ∀ (s : ByteArray) (hs : s.size ≤ maxLen) (w : World), Calls Try.prog 111 #[.string s] w fun e w' => e = .returned (.bool (wordB s)) ∧ w = w'
def nmeP (L : List Tok) (k : Nat) : Option ByteArray := if ((tkA L k).kd == 1 && wordB (tkA L k).tx) = true then some (tkA L k).tx else none
set_option maxRecDepth 1000000 in
set_option maxHeartbeats 1600000 in
theorem rq_name (HW : WordOk) (g : Nat) (lo : Option Addr) (lc : Nat) (L : List Tok) (k : Nat) (op : Int) (F : Option (Int × Int)) (hn : (L.length : Int) ≤ 1000000) (hk : k < L.length) (htx : ∀ t ∈ L, t.tx.size ≤ 1000000) (w : World) (h : Rq w g lo lc L k op F) :
  Calls Try.prog 102 #[.pointer (some ⟨g, 0, none⟩)] w fun e w' => But (fun j => j = g) w w' ∧ (match nmeP L k with
   | some v => e = .returned (.tuple #[.string v, .bool true]) ∧ Rq w' g lo lc L (k + 1) op F
   | none => e = .returned (.tuple #[.string ⟨#[]⟩, .bool false]) ∧ Rq w' g lo lc L k op F) := by
 have HN := Lib.hid (rq_now g lo lc L k op F hn hk w h)
 have HQ := Lib.hid h
 have hz : (tkA L k).tx.size ≤ maxLen := by
  rw [tkA_in (List.getElem?_eq_getElem hk)]
  have := htx _ (List.getElem_mem hk)
  unfold maxLen; omega
 have HWD := Lib.hid (fun W => HW (tkA L k).tx hz W)
 obtain ⟨r, hr⟩ : ∃ r, nmeP L k = r := ⟨_, rfl⟩
 have HS := Lib.hid (show (if ((tkA L k).kd == 1 && wordB (tkA L k).tx) = true then some (tkA L k).tx else none) = r from hr)
 rw [hr]
 generalize tkA L k = t at *
 unfold tokV at HN
 obtain ⟨kd, hkd⟩ : ∃ z, t.kd = z := ⟨_, rfl⟩
 obtain ⟨tx, htx⟩ : ∃ z, t.tx = z := ⟨_, rfl⟩
 obtain ⟨wb, hwb⟩ : ∃ z, wordB tx = z := ⟨_, rfl⟩
 rw [htx] at HWD HN HS
 rw [hkd] at HN HS
 rw [hwb] at HWD HS
 clear h hr hkd htx hwb hz
 have hw1 : IntKind.i64.wrap ((k : Int) + 1) = (k : Int) + 1 := by rw [IntKind.wrap_i64]; omega
 go_enter Try.func102, Try.ntmps102
 go_wp2_with fail
 refine HN.out.mono ?_
 rintro e w1 ⟨rfl, hb1⟩
 have hbl := hb1.alloc hb1.size (.cells #[.int .i64 (kd : Int), .string tx, .int .u64 (t.st.1 : Int), .int .u64 (t.st.2.1 : Int), .int .u64 (t.st.2.2.1 : Int), .int .u64 (t.st.2.2.2 : Int), .int .i64 (t.pos : Int)] 48)
 have HU := Lib.hid (But.of_below (S := fun j => j = g) hbl)
 have HQ2 := Lib.hid (HQ.out.below hbl)
 have HA := Lib.hid (Own.fresh w1 48 [.int .i64 (kd : Int), .string tx, .int .u64 (t.st.1 : Int), .int .u64 (t.st.2.1 : Int), .int .u64 (t.st.2.2.1 : Int), .int .u64 (t.st.2.2.2 : Int), .int .i64 (t.pos : Int)])
 have hNg : g < w1.heap.size := (HQ.out.below hb1).1.lt
 clear hb1 hbl HN HQ
 go_upto_region 2 with fail
 generalize w1.alloc _ = w2 at *
 obtain ⟨N, hN⟩ : ∃ N, w1.heap.size = N := ⟨_, rfl⟩
 rw [hN] at HA hNg
 try rw [hN]
 clear hN
 have ne1 : ¬ N = g := by omega
 have ne2 : ¬ g = N := by omega
 obtain ⟨c0, c1, c2, c3, c4, c5, c6⟩ := HA.out.seven
 have cl := HA.out.lt
 obtain ⟨d0, d1, d2, d3, d4, d5, d6⟩ := HQ2.out.1.seven
 have dl := HQ2.out.1.lt
 have df : w2.frozen? ⟨g, 1, none⟩ = false := HQ2.out.1.thaw 1
 by_cases h1 : kd = 1
 ·
  subst h1
  cases wb with
  | false =>
   obtain rfl : none = r := HS.out
   go_wp2_with fail
   refine (HWD.out _).mono ?_
   rintro e w3 ⟨rfl, rfl⟩
   go_wp2
   refine bodyPost_ret (by first | (simp [results, Try.results102, go_sem]; done) | (simp [results, Try.results102, go_sem]; rfl)) rfl ?_
   exact ⟨HU.out, rfl, HQ2.out⟩
  | true =>
   obtain rfl : some tx = r := HS.out
   go_wp2_with fail
   refine (HWD.out _).mono ?_
   rintro e w3 ⟨rfl, rfl⟩
   have HR := Lib.hid (HQ2.out.at (k + 1) (.int .i64 ((k : Int) + 1)) rfl)
   have HU2 := Lib.hid (HU.out.setCell (p := ⟨g, 1, none⟩) (fun _ => rfl) (.int .i64 ((k : Int) + 1)))
   go_wp2
   refine bodyPost_ret (by first | (simp [results, Try.results102, go_sem]; done) | (simp [results, Try.results102, go_sem]; rfl)) rfl ?_
   exact ⟨HU2.out, rfl, HR.out⟩
 ·
  have e1 : ((kd : Int) == 1) = false := beq_eq_false_iff_ne.2 (by omega)
  have e2 : ((kd : Int) != 1) = true := by rw [bne_iff_ne]; omega
  have n1 : (kd == 1) = false := beq_eq_false_iff_ne.2 h1
  obtain rfl : none = r := by have := HS.out; rw [n1] at this; exact this
  go_wp2
  refine bodyPost_ret (by first | (simp [results, Try.results102, go_sem]; done) | (simp [results, Try.results102, go_sem]; rfl)) rfl ?_
  exact ⟨HU.out, rfl, HQ2.out⟩
end Go.Proofs.Ytonknapfndaalaa
