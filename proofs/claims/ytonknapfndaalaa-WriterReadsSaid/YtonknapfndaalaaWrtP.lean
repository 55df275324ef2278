/- Expressions as they are written: the walks of the program. -/
import Derived.Test.YtonknapfndaalaaWrtC
import Derived.Test.YtonknapfndaalaaGg
import Derived.Test.YtonknapfndaalaaShelf
import Derived.Handy
import Derived.KernelRfl
import Derived.WalkLawsBesides
import Derived.BigQuiet
import Derived.Lib.QuietBelow
namespace Go.Proofs.Ytonknapfndaalaa
set_option linter.unusedVariables false
set_option maxRecDepth 1000000
open Go.RowKit Go.Sort
/-- What is known of writing what is n levels deep at most. -/
def Prints (n : Nat) : Prop := ∀ (y : Ex) (ko : Option Addr) (kc : Nat) (W : World), PrOk n y → HasK W n ko y.kids →
 Calls Try.prog 16 #[exv y ko kc] W fun e w' => e = .returned (.string (ofL (prX n y))) ∧ Below W.heap.size W w'
/-- The first k texts, and empty ones behind. -/
def strsL (L : List (List UInt8)) (m k : Nat) : List Value := (L.take k).map (fun l => .string (ofL l)) ++ List.replicate (m - k) (.string ⟨#[]⟩)
theorem strsL_set {L : List (List UInt8)} {m k : Nat} {y : List UInt8} (hm : L.length = m) (h : L[k]? = some y) : (strsL L m k).set k (.string (ofL y)) = strsL L m (k + 1) := by
 have hk : k < L.length := (List.getElem?_eq_some_iff.1 h).1
 unfold strsL
 rw [List.take_add_one, h]
 have e : ((L.take k).map fun l => Value.string (ofL l)).length = k := by simp; omega
 rw [List.set_append_right _ _ (by omega), e, Nat.sub_self, show m - k = (m - (k + 1)) + 1 by omega, List.replicate_succ, List.set_cons_zero]
 simp
theorem strsL_put {L : List (List UInt8)} {m k : Nat} {y : List UInt8} (hm : L.length = m) (h : L[k]? = some y) (a : Value) : ((strsL L m k).set k a).set k (.string (ofL y)) = strsL L m (k + 1) := by
 rw [List.set_set]; exact strsL_set hm h
theorem strsL_at {L : List (List UInt8)} {m k : Nat} {a : Value} (hm : L.length = m) (h : k < m) : ((strsL L m k).set k a)[k]? = some a := by
 have : k < (strsL L m k).length := by unfold strsL; simp; omega
 rw [List.getElem?_set_self this]
theorem strsL_all {L : List (List UInt8)} {m : Nat} (hm : L.length = m) {j : Nat} {y : List UInt8} (h : L[j]? = some y) : (strsL L m m)[j]? = some (.string (ofL y)) := by
 unfold strsL
 have hj : j < L.length := (List.getElem?_eq_some_iff.1 h).1
 rw [List.take_of_length_le (by omega), List.getElem?_append_left (by simpa using hj), List.getElem?_map, h]; rfl
theorem ofL_data (s : List UInt8) : (ofL s).data.toList = s := by show (s.toArray).toList = s; simp
theorem map_ofL : ∀ (L : List (List UInt8)), (L.map ofL).map (·.data.toList) = L
 | [] => rfl
 | a :: L => by rw [List.map_cons, List.map_cons, map_ofL L]; show (ofL a).data.toList :: L = _; rw [ofL_data]
theorem strsL_zero (L : List (List UInt8)) (m : Nat) : strsL L m 0 = List.replicate m (.string ⟨#[]⟩) := by simp [strsL]
theorem info_str : (Try.prog.info? 9).map (fun i => (i.zero, i.size, i.bytes)) = some (some (.string ⟨#[]⟩), 1, 16) := by kernel_rfl
theorem info_parts8 {t : TypeId} {z : Value} {size bytes : Nat} (h : (Try.prog.info? t).map (fun i => (i.zero, i.size, i.bytes)) = some (some z, size, bytes)) : ∃ i, Try.prog.info? t = some i ∧ i.zero = some z ∧ i.size = size ∧ i.bytes = bytes := by
 cases hi : Try.prog.info? t with
 | none => rw [hi] at h; cases h
 | some i =>
  rw [hi] at h
  simp at h
  exact ⟨i, rfl, h.1, h.2.1, h.2.2⟩
theorem run_strs (n : Nat) (hn : (n : Int) ≤ 1000) (w : World) : (Instr.makeSlice 76 (.int .i64 (n : Int)) (.int .i64 (n : Int))).run Try.prog w = .ok (.slice (some ⟨w.heap.size, 0, none⟩) n n) (w.alloc (.cells (Array.replicate n (Value.string ⟨#[]⟩)) 9)) := by
 obtain ⟨j0, hj, hy0, hy1, hy2⟩ := info_parts8 info_str
 have h := run_make (P := Try.prog) w 76 9 j0 (.string ⟨#[]⟩) Try.underlying76 hj hy0 .i64 .i64 n n (by omega) (Int.le_refl _) (by rw [hy2]; omega) (by omega)
 rw [h, hy1, Int.toNat_natCast, Nat.mul_one, ← List.toArray_replicate, ← toList_madeCells_one]
 rfl
set_option maxRecDepth 100000 in
set_option maxHeartbeats 1600000 in
theorem kids_any (n : Nat) (IHP : Prints n) (x : Ex) (ko : Option Addr) (kc : Nat) (sp : ByteArray) (hsp : sp = ofL (sepX x.op)) (w : World) (hx : PrOk (n + 1) x) (hK : HasK w (n + 1) ko x.kids) :
  Calls Try.prog 24 #[exv x ko kc, .string sp] w fun e w' => e = .returned (.string (ofL (rowX (prX n) x))) ∧ Below w.heap.size w w' := by
 have IH := Lib.hid IHP
 have HK := Lib.hid hK
 have HX := Lib.hid hx
 have hl := (tame_len hx.small).1
 obtain ⟨m, hm⟩ : ∃ m, x.kids.length = m := ⟨_, rfl⟩
 have HM := Lib.hid hm
 obtain ⟨L, hL⟩ : ∃ L, x.kids.map (kdX (prX n) x.op) = L := ⟨_, rfl⟩
 have HL := Lib.hid hL
 have HLM := Lib.hid (show L.length = m by rw [← hL, List.length_map, hm])
 have HRES := Lib.hid (show rowX (prX n) x = Lib.join L (sepX x.op) by rw [← hL]; rfl)
 have HLEN := Lib.hid (show (Lib.join L (sepX x.op)).length ≤ 70368744177664 by
  rw [← HRES.out]
  exact hx.room.1)
 have HSP := Lib.hid hsp
 obtain ⟨ox, hox⟩ : ∃ o, x.op = o := ⟨_, rfl⟩
 have HB0 := Lib.hid (below_box w (.cells #[.int .i64 ox, .string x.text, .int .u64 x.s0, .int .u64 x.s1, .int .u64 x.s2, .int .u64 x.s3, .slice ko m kc] 28))
 have HO := Lib.hid (Own.fresh w 28 [.int .i64 ox, .string x.text, .int .u64 x.s0, .int .u64 x.s1, .int .u64 x.s2, .int .u64 x.s3, .slice ko m kc])
 have HC := Lib.hid (clo_any ox)
 obtain ⟨cx, hcx⟩ : ∃ c, cloX ox = c := ⟨_, rfl⟩
 rw [hcx] at HC
 have HCX := Lib.hid hcx
 unfold exv
 rw [hm] at hl ⊢
 rw [hox] at HL HRES HLEN HSP ⊢
 clear hm hK hx hL hsp hcx IHP hox
 have hmk := run_strs m (by omega)
 go_enter Try.func24, Try.ntmps24
 go_wp2_with fail
 have hR0 := Lib.hid (show Own ((w.alloc (.cells #[.int .i64 ox, .string x.text, .int .u64 x.s0, .int .u64 x.s1, .int .u64 x.s2, .int .u64 x.s3, .slice ko m kc] 28)).alloc (.cells (Array.replicate m (Value.string ⟨#[]⟩)) 9)) (w.heap.size + 1) 9 (strsL L m 0) by
  rw [strsL_zero, ← List.toArray_replicate]; exact Own.fresh' (by simp) 9 _)
 have HB1 := Lib.hid (show Below w.heap.size w ((w.alloc (.cells #[.int .i64 ox, .string x.text, .int .u64 x.s0, .int .u64 x.s1, .int .u64 x.s2, .int .u64 x.s3, .slice ko m kc] 28)).alloc (.cells (Array.replicate m (Value.string ⟨#[]⟩)) 9)) from HB0.out.alloc HB0.out.size _)
 have HO1 := Lib.hid (HO.out.on_alloc (.cells (Array.replicate m (Value.string ⟨#[]⟩)) 9))
 generalize World.alloc (w.alloc _) _ = W0 at *
 clear HB0 HO hmk
 go_loopw [15] (fun b15 wr => ∃ k : Nat, b15 = .int .i64 (k : Int) ∧ (k : Int) ≤ m ∧ Hid (Own wr (w.heap.size + 1) 9 (strsL L m k)) ∧ Hid (Below w.heap.size w wr) ∧ Hid (Own wr w.heap.size 28 [.int .i64 ox, .string x.text, .int .u64 x.s0, .int .u64 x.s1, .int .u64 x.s2, .int .u64 x.s3, .slice ko m kc]))
  (fun b15 _ => m - (intOf b15).toNat)
 case atStart => exact ⟨0, rfl, by omega, hR0, HB1, HO1⟩
 case round =>
  obtain ⟨k, rfl, hk2, HR, HB, HOX⟩ := hrel
  clear hR0 HB1 HO1
  by_cases h2 : (k : Int) < m
  ·
   obtain ⟨y, hy⟩ : ∃ y, x.kids[k]? = some y := ⟨_, List.getElem?_eq_getElem (by have := HM.out; omega)⟩
   obtain ⟨g, off, kk, kd, rfl, hg, c0, c1, c2, c3, c4, c5, c6, hr⟩ := HK.out k y hy
   have HRY := Lib.hid hr
   have HPY := Lib.hid (HX.out.kid hy)
   have HLY := Lib.hid (show L[k]? = some (parX (decide (cloX y.op ≤ cx)) (prX n y)) by rw [← HL.out, List.getElem?_map, hy, ← HCX.out]; rfl)
   have HPL := Lib.hid (show (prX n y).length ≤ 70368744177664 from (HX.out.room.2 k y hy).1)
   have HCY := Lib.hid (clo_any y.op)
   have e0 := keepc c0 HB.out
   have e1 := keepc c1 HB.out
   have e2 := keepc c2 HB.out
   have e3 := keepc c3 HB.out
   have e4 := keepc c4 HB.out
   have e5 := keepc c5 HB.out
   have e6 := keepc c6 HB.out
   have hgr : g < wr.heap.size := Nat.lt_of_lt_of_le hg HB.out.size
   clear c0 c1 c2 c3 c4 c5 c6 hg hr hy
   obtain ⟨cy, hcy⟩ : ∃ c, cloX y.op = c := ⟨_, rfl⟩
   rw [hcy] at HLY HCY
   clear hcy
   obtain ⟨q, hq⟩ : ∃ q, prX n y = q := ⟨_, rfl⟩
   have HPR := Lib.hid (show ∀ W : World, HasK W n kk y.kids → Calls Try.prog 16 #[exv y kk kd] W fun e w' => e = .returned (.string (ofL q)) ∧ Below W.heap.size W w' from fun W h => by rw [← hq]; exact IH.out y kk kd W HPY.out h)
   rw [hq] at HLY HPL
   clear hq
   unfold exv at HPR
   have HOY := Lib.hid (Own.fresh wr 28 [.int .i64 y.op, .string y.text, .int .u64 y.s0, .int .u64 y.s1, .int .u64 y.s2, .int .u64 y.s3, .slice kk y.kids.length kd])
   have HB2 := Lib.hid (HB.out.alloc HB.out.size (.cells #[.int .i64 y.op, .string y.text, .int .u64 y.s0, .int .u64 y.s1, .int .u64 y.s2, .int .u64 y.s3, .slice kk y.kids.length kd] 28))
   have HR2 := Lib.hid (HR.out.on_alloc (.cells #[.int .i64 y.op, .string y.text, .int .u64 y.s0, .int .u64 y.s1, .int .u64 y.s2, .int .u64 y.s3, .slice kk y.kids.length kd] 28))
   have HO2 := Lib.hid (HOX.out.on_alloc (.cells #[.int .i64 y.op, .string y.text, .int .u64 y.s0, .int .u64 y.s1, .int .u64 y.s2, .int .u64 y.s3, .slice kk y.kids.length kd] 28))
   have HG := Lib.hid (show w.heap.size + 1 < wr.heap.size from HR.out.lt)
   clear HR HOX
   go_wp2_with fail
   refine (HPR.out _ (HasK.below HB2.out HRY.out)).mono ?_
   rintro e w3 ⟨rfl, hb3⟩
   have HR3 := Lib.hid (HR2.out.under hb3 HR2.out.lt)
   have HO3 := Lib.hid (HO2.out.under hb3 HO2.out.lt)
   have HY3 := Lib.hid (HOY.out.under hb3 HOY.out.lt)
   have HB3 := Lib.hid (keepb HB2.out hb3)
   clear hb3 HR2 HO2 HOY HB2 e0 e1 e2 e3 e4 e5 e6
   obtain ⟨G, hG⟩ : ∃ G, wr.heap.size = G := ⟨_, rfl⟩
   rw [hG] at HY3 HG ⊢
   clear hG hgr
   have hb := HR3.out.lt
   have hfz : w3.frozen? ⟨w.heap.size + 1, k, none⟩ = false := HR3.out.thaw k
   have hcl : w3.cell? ⟨w.heap.size + 1, k, none⟩ = some (.string ⟨#[]⟩) := by
    rw [HR3.out.cell k]
    unfold strsL
    have e : ((L.take k).map fun l => Value.string (ofL l)).length = k := by have := HLM.out; simp; omega
    rw [List.getElem?_append_right (by omega), e, Nat.sub_self, show m - k = (m - (k + 1)) + 1 by omega, List.replicate_succ]; rfl
   have HR4 := Lib.hid (HR3.out.put k (.string (ofL q)))
   have HO4 := Lib.hid (HO3.out.off (p := ⟨w.heap.size + 1, k, none⟩) (by simp) (.string (ofL q)))
   have HY4 := Lib.hid (HY3.out.off (p := ⟨w.heap.size + 1, k, none⟩) (by have := HG.out; simp; omega) (.string (ofL q)))
   have HB4 := Lib.hid (HB3.out.setCell (p := ⟨w.heap.size + 1, k, none⟩) (by simp) (.string (ofL q)))
   go_wp2_with fail
   generalize hW4 : World.setCell w3 _ _ = W4 at *
   clear HR3 HO3 HY3 HB3 hfz hcl hb hW4
   have y0 := HY4.out.cell 0
   have x0 := HO4.out.cell 0
   simp only [List.getElem?_cons_zero] at y0 x0
   have hb4 := HR4.out.lt
   generalize y.op = oy at *
   have hw1 : IntKind.i64.wrap ((k : Int) + 1) = (k : Int) + 1 := by rw [IntKind.wrap_i64]; omega
   by_cases hle : cy ≤ cx
   ·
    have hd : decide (cy ≤ cx) = true := decide_eq_true hle
    rw [hd] at HLY
    go_quiet (first
     | (go_at_call 37; with_reducible exact Calls.quiet_of_same (HCY.out _))
     | (go_at_call 37; with_reducible exact Calls.quiet_of_same (HC.out _)))
    have HQS := Lib.hid (show (⟨#[40]⟩ : ByteArray) ++ ofL q ++ (⟨#[41]⟩ : ByteArray) = ofL (parX true q) by
     show ofL [40] ++ ofL q ++ _ = _
     rw [ofL_app, ofL_data, ofL_app]; rfl)
    have HS9 := Lib.hid (strsL_put HLM.out HLY.out (.string (ofL q)))
    have hcl : W4.cell? ⟨w.heap.size + 1, k, none⟩ = some (.string (ofL q)) := by rw [HR4.out.cell, strsL_at HLM.out (by omega)]
    have hfz : W4.frozen? ⟨w.heap.size + 1, k, none⟩ = false := HR4.out.thaw k
    have hqs : (ofL q).size ≤ 70368744177664 := by rw [ofL_size]; exact HPL.out
    generalize ofL q = Q at *
    have HR5 := Lib.hid ((HR4.out.on_drewN nq).put k (.string (⟨#[40]⟩ ++ Q ++ ⟨#[41]⟩)))
    have HB5 := Lib.hid ((below_drewN HB4.out nq).setCell (p := ⟨w.heap.size + 1, k, none⟩) (by simp) (.string (⟨#[40]⟩ ++ Q ++ ⟨#[41]⟩)))
    have HO5 := Lib.hid ((HO4.out.on_drewN nq).off (p := ⟨w.heap.size + 1, k, none⟩) (by simp) (.string (⟨#[40]⟩ ++ Q ++ ⟨#[41]⟩)))
    go_wp2
    go_roundw
    case rel => exact ⟨k + 1, by go_num, by omega, Lib.hid (by rw [← HS9.out, ← HQS.out]; exact HR5.out), HB5, HO5⟩
    case measure => simp [intOf]; omega
   ·
    have hd : decide (cy ≤ cx) = false := decide_eq_false hle
    rw [hd] at HLY
    go_quiet (first
     | (go_at_call 37; with_reducible exact Calls.quiet_of_same (HCY.out _))
     | (go_at_call 37; with_reducible exact Calls.quiet_of_same (HC.out _)))
    go_wp2
    go_roundw
    case rel => exact ⟨k + 1, by go_num, by omega, Lib.hid (by rw [← strsL_set HLM.out HLY.out]; exact HR4.out.on_drewN _), Lib.hid (below_drewN HB4.out _), Lib.hid (HO4.out.on_drewN _)⟩
    case measure => simp [intOf]; omega
  ·
   obtain rfl : k = m := by omega
   have hb := HR.out.lt
   by_cases hz : k = 0
   ·
    subst hz
    have HE := Lib.hid (show (⟨#[]⟩ : ByteArray) = ofL (rowX (prX n) x) by
     rw [HRES.out, List.length_eq_zero_iff.1 HLM.out]; rfl)
    go_wp2_with fail
    refine (Try.strings_Join_none _ _ _ _).mono ?_
    rintro e w2 ⟨rfl, rfl⟩
    go_wp2
    go_ret
    exact ⟨ret_str HE.out, HB.out⟩
   ·
    have HE := Lib.hid (show (⟨(Lib.join L (sepX ox)).toArray⟩ : ByteArray) = ofL (rowX (prX n) x) by rw [HRES.out]; rfl)
    have CJ := Try.strings_Join (w.heap.size + 1) 0 k (L.map ofL) sp wr (fun j a ha => by
      rw [HR.out.cell, Nat.zero_add]
      rw [List.getElem?_map] at ha
      obtain ⟨l, hl1, hl2⟩ := Option.map_eq_some_iff.1 ha
      rw [strsL_all HLM.out hl1, hl2]) hb (by rw [List.length_map, HLM.out]; omega) (by rw [List.length_map, HLM.out]; omega) (by rw [map_ofL, HSP.out, ofL_data]; have := HLEN.out; omega)
    rw [List.length_map, HLM.out, map_ofL, HSP.out, ofL_data] at CJ
    have HCJ := Lib.hid CJ
    have HSP2 := HSP.out
    subst HSP2
    clear CJ
    go_wp2_with fail
    refine HCJ.out.mono ?_
    rintro e w2 ⟨rfl, hb2⟩
    have HB2 := Lib.hid (keepb HB.out hb2)
    clear hb2
    go_wp2
    go_ret
    exact ⟨ret_str HE.out, HB2.out⟩
end Go.Proofs.Ytonknapfndaalaa
