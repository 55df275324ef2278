/- What names mean among modules: the walks of the program's Find and Rule. -/
import Derived.Test.YtihcmneidbjmlaaLkB
namespace Go.Proofs.Ytihcmneidbjmlaa
set_option linter.unusedVariables false
open Go.RowKit Go.Sort

/-- The place of the first one that p holds of, from k on; below 0: there is none. -/
def idxF {α : Type} (p : α → Bool) : Nat → List α → Int
  | _, [] => -1
  | k, x :: r => if p x = true then (k : Int) else idxF p (k + 1) r
def findN (l : List Md) (s : ByteArray) : Int := idxF (fun m => m.nm.toList == s.toList) 0 l
def ruleN (m : Md) (s : ByteArray) : Int := idxF (fun r => r.1.toList == s.toList) 0 m.ru

set_option maxHeartbeats 800000 in
theorem clm_any (x : Md) (io : Option Addr) (ic : Nat) (ko : Option Addr) (kc : Nat) (ro : Option Addr) (rc : Nat) (b0 : Nat) (s : ByteArray) (z : Bool) (hz : (x.nm.toList == s.toList) = z) (w : World) (hs : Own w b0 9 [.string s]) :
    Calls Try.prog 21 #[.agg #[.string x.nm, .slice io x.im.length ic, .bool x.wet, .int .i64 x.wa.op, .string x.wa.text, .int .u64 x.wa.s0, .int .u64 x.wa.s1, .int .u64 x.wa.s2, .int .u64 x.wa.s3, .slice ko x.wa.kids.length kc, .slice ro x.ru.length rc], .pointer (some ⟨b0, 0, none⟩)] w fun e w' => e = .returned (.bool z) ∧ Below w.heap.size w w' := by
  have HB := Lib.hid ((Below.refl w.heap.size w).alloc (Nat.le_refl _) (.cells #[.string x.nm, .slice io x.im.length ic, .bool x.wet, .int .i64 x.wa.op, .string x.wa.text, .int .u64 x.wa.s0, .int .u64 x.wa.s1, .int .u64 x.wa.s2, .int .u64 x.wa.s3, .slice ko x.wa.kids.length kc, .slice ro x.ru.length rc] 39))
  have HX := Lib.hid (Own.fresh w 39 [.string x.nm, .slice io x.im.length ic, .bool x.wet, .int .i64 x.wa.op, .string x.wa.text, .int .u64 x.wa.s0, .int .u64 x.wa.s1, .int .u64 x.wa.s2, .int .u64 x.wa.s3, .slice ko x.wa.kids.length kc, .slice ro x.ru.length rc])
  have HS := Lib.hid (hs.on_alloc (.cells #[.string x.nm, .slice io x.im.length ic, .bool x.wet, .int .i64 x.wa.op, .string x.wa.text, .int .u64 x.wa.s0, .int .u64 x.wa.s1, .int .u64 x.wa.s2, .int .u64 x.wa.s3, .slice ko x.wa.kids.length kc, .slice ro x.ru.length rc] 39))
  clear hs
  go_enter Try.func21, Try.ntmps21
  go_upto_region 1 with fail
  generalize w.alloc _ = w1 at *
  have x0 := HX.out.cell 0
  have xl := HX.out.lt
  have s0 := HS.out.cell 0
  have sl := HS.out.lt
  go_wp2
  go_ret
  exact ⟨rfl, HB.out⟩

set_option maxHeartbeats 800000 in
theorem clr_any (x : ByteArray × Ex) (ko : Option Addr) (kc : Nat) (b0 : Nat) (s : ByteArray) (z : Bool) (hz : (x.1.toList == s.toList) = z) (w : World) (hs : Own w b0 9 [.string s]) :
    Calls Try.prog 23 #[.agg #[.string x.1, .int .i64 x.2.op, .string x.2.text, .int .u64 x.2.s0, .int .u64 x.2.s1, .int .u64 x.2.s2, .int .u64 x.2.s3, .slice ko x.2.kids.length kc], .pointer (some ⟨b0, 0, none⟩)] w fun e w' => e = .returned (.bool z) ∧ Below w.heap.size w w' := by
  have HB := Lib.hid ((Below.refl w.heap.size w).alloc (Nat.le_refl _) (.cells #[.string x.1, .int .i64 x.2.op, .string x.2.text, .int .u64 x.2.s0, .int .u64 x.2.s1, .int .u64 x.2.s2, .int .u64 x.2.s3, .slice ko x.2.kids.length kc] 42))
  have HX := Lib.hid (Own.fresh w 42 [.string x.1, .int .i64 x.2.op, .string x.2.text, .int .u64 x.2.s0, .int .u64 x.2.s1, .int .u64 x.2.s2, .int .u64 x.2.s3, .slice ko x.2.kids.length kc])
  have HS := Lib.hid (hs.on_alloc (.cells #[.string x.1, .int .i64 x.2.op, .string x.2.text, .int .u64 x.2.s0, .int .u64 x.2.s1, .int .u64 x.2.s2, .int .u64 x.2.s3, .slice ko x.2.kids.length kc] 42))
  clear hs
  go_enter Try.func23, Try.ntmps23
  go_upto_region 1 with fail
  generalize w.alloc _ = w1 at *
  have x0 := HX.out.cell 0
  have xl := HX.out.lt
  have s0 := HS.out.cell 0
  have sl := HS.out.lt
  go_wp2
  go_ret
  exact ⟨rfl, HB.out⟩

set_option maxRecDepth 1000000 in
set_option maxHeartbeats 1600000 in
theorem idxm_any (XL : List Md) (p : Md → Bool) (b0 : Nat) (mo : Option Addr) (mc : Nat) (s : ByteArray) (w : World) (hs : Own w b0 9 [.string s]) (hn : (XL.length : Int) ≤ 1000000)
    (hX : ∀ k x, XL[k]? = some x → ∃ b off io ic ko kc ro rc, mo = some ⟨b, off, none⟩ ∧ b < w.heap.size ∧ w.cell? ⟨b, off + k * 11, none⟩ = some (.string x.nm) ∧ w.cell? ⟨b, off + k * 11 + 1, none⟩ = some (.slice io x.im.length ic) ∧ w.cell? ⟨b, off + k * 11 + 2, none⟩ = some (.bool x.wet) ∧ w.cell? ⟨b, off + k * 11 + 3, none⟩ = some (.int .i64 x.wa.op) ∧ w.cell? ⟨b, off + k * 11 + 4, none⟩ = some (.string x.wa.text) ∧ w.cell? ⟨b, off + k * 11 + 5, none⟩ = some (.int .u64 x.wa.s0) ∧ w.cell? ⟨b, off + k * 11 + 6, none⟩ = some (.int .u64 x.wa.s1) ∧ w.cell? ⟨b, off + k * 11 + 7, none⟩ = some (.int .u64 x.wa.s2) ∧ w.cell? ⟨b, off + k * 11 + 8, none⟩ = some (.int .u64 x.wa.s3) ∧ w.cell? ⟨b, off + k * 11 + 9, none⟩ = some (.slice ko x.wa.kids.length kc) ∧ w.cell? ⟨b, off + k * 11 + 10, none⟩ = some (.slice ro x.ru.length rc)) (hp : ∀ x, p x = (x.nm.toList == s.toList)) :
    Calls Try.prog 20 #[.slice mo XL.length mc, .func (Fn.func 21) #[] #[.pointer (some ⟨b0, 0, none⟩)]] w fun e w' => e = .returned (.int .i64 (idxF p 0 XL)) ∧ Below w.heap.size w w' := by
  have HX := Lib.hid hX
  have HS0 := Lib.hid hs
  have HPP := Lib.hid hp
  obtain ⟨n, hnn⟩ : ∃ n, XL.length = n := ⟨_, rfl⟩
  have HN := Lib.hid hnn
  rw [hnn] at hn ⊢
  clear hX hs hp hnn
  have HB0 := Lib.hid (Below.refl w.heap.size w)
  go_enter Try.func20, Try.ntmps20
  go_wp2_with fail
  go_loopw [8] (fun v8 wr => ∃ k : Nat, v8 = .int .i64 (k : Int) ∧ (k : Int) ≤ n ∧ Hid (idxF p 0 XL = idxF p k (XL.drop k)) ∧ Hid (Below w.heap.size w wr)) (fun v8 _ => n - (intOf v8).toNat)
  case atStart => exact ⟨0, rfl, by omega, Lib.hid (by rw [List.drop_zero]), HB0⟩
  case round =>
    obtain ⟨k, rfl, hk, HQ, HB⟩ := hrel
    clear HB0
    have HS := Lib.hid (HS0.out.under HB.out HS0.out.lt)
    have s0 := HS.out.cell 0
    have sl := HS.out.lt
    by_cases hlt : (k : Int) < n
    · obtain ⟨x, hx⟩ : ∃ x, XL[k]? = some x := ⟨_, List.getElem?_eq_getElem (by have := HN.out; omega)⟩
      have HD := Lib.hid (show XL.drop k = x :: XL.drop (k + 1) from by
        obtain ⟨h1, h2⟩ := List.getElem?_eq_some_iff.1 hx
        rw [List.drop_eq_getElem_cons h1, h2])
      obtain ⟨b, off, io, ic, ko, kc, ro, rc, rfl, hb, c0, c1, c2, c3, c4, c5, c6, c7, c8, c9, c10⟩ := HX.out k x hx
      have hbw : b < wr.heap.size := Nat.lt_of_lt_of_le hb HB.out.size
      have d0 := keepc c0 HB.out
      have d1 := keepc c1 HB.out
      have d2 := keepc c2 HB.out
      have d3 := keepc c3 HB.out
      have d4 := keepc c4 HB.out
      have d5 := keepc c5 HB.out
      have d6 := keepc c6 HB.out
      have d7 := keepc c7 HB.out
      have d8 := keepc c8 HB.out
      have d9 := keepc c9 HB.out
      have d10 := keepc c10 HB.out
      have hw1 : IntKind.i64.wrap ((k : Int) + 1) = (k : Int) + 1 := by rw [IntKind.wrap_i64]; omega
      obtain ⟨z, hz⟩ : ∃ z, (x.nm.toList == s.toList) = z := ⟨_, rfl⟩
      have HZ := Lib.hid (show idxF p 0 XL = if z = true then (k : Int) else idxF p (k + 1) (XL.drop (k + 1)) from by rw [HQ.out, HD.out, ← hz, ← HPP.out x]; rfl)
      have HCC := Lib.hid (clm_any x io ic ko kc ro rc b0 s z hz wr HS.out)
      clear hx HD HQ hb c0 c1 c2 c3 c4 c5 c6 c7 c8 c9 c10
      go_wp2_with fail
      refine HCC.out.mono ?_
      rintro e w1 ⟨rfl, hb1⟩
      have HB1 := Lib.hid (HB.out.trans (hb1.mono HB.out.size))
      clear hb1
      cases z
      · go_wp2
        go_roundw
        case rel => exact ⟨k + 1, by go_num, by omega, Lib.hid (HZ.out.trans (if_neg (by decide))), HB1⟩
        case measure => simp [intOf]; omega
      · have HE := Lib.hid (HZ.out.trans (if_pos rfl))
        go_wp2
        go_ret
        exact ⟨ret_int HE.out.symm, HB1.out⟩
    · have HE := Lib.hid (show idxF p 0 XL = -1 from by rw [HQ.out, List.drop_eq_nil_of_le (by have := HN.out; omega)]; rfl)
      have hlt' : decide ((k : Int) < n) = false := decide_eq_false hlt
      go_wp2
      go_ret
      exact ⟨ret_int HE.out.symm, HB.out⟩

set_option maxRecDepth 1000000 in
set_option maxHeartbeats 1600000 in
theorem idxr_any (XL : List (ByteArray × Ex)) (p : (ByteArray × Ex) → Bool) (b0 : Nat) (mo : Option Addr) (mc : Nat) (s : ByteArray) (w : World) (hs : Own w b0 9 [.string s]) (hn : (XL.length : Int) ≤ 1000000)
    (hX : ∀ k x, XL[k]? = some x → ∃ b off ko kc, mo = some ⟨b, off, none⟩ ∧ b < w.heap.size ∧ w.cell? ⟨b, off + k * 8, none⟩ = some (.string x.1) ∧ w.cell? ⟨b, off + k * 8 + 1, none⟩ = some (.int .i64 x.2.op) ∧ w.cell? ⟨b, off + k * 8 + 2, none⟩ = some (.string x.2.text) ∧ w.cell? ⟨b, off + k * 8 + 3, none⟩ = some (.int .u64 x.2.s0) ∧ w.cell? ⟨b, off + k * 8 + 4, none⟩ = some (.int .u64 x.2.s1) ∧ w.cell? ⟨b, off + k * 8 + 5, none⟩ = some (.int .u64 x.2.s2) ∧ w.cell? ⟨b, off + k * 8 + 6, none⟩ = some (.int .u64 x.2.s3) ∧ w.cell? ⟨b, off + k * 8 + 7, none⟩ = some (.slice ko x.2.kids.length kc)) (hp : ∀ x, p x = (x.1.toList == s.toList)) :
    Calls Try.prog 22 #[.slice mo XL.length mc, .func (Fn.func 23) #[] #[.pointer (some ⟨b0, 0, none⟩)]] w fun e w' => e = .returned (.int .i64 (idxF p 0 XL)) ∧ Below w.heap.size w w' := by
  have HX := Lib.hid hX
  have HS0 := Lib.hid hs
  have HPP := Lib.hid hp
  obtain ⟨n, hnn⟩ : ∃ n, XL.length = n := ⟨_, rfl⟩
  have HN := Lib.hid hnn
  rw [hnn] at hn ⊢
  clear hX hs hp hnn
  have HB0 := Lib.hid (Below.refl w.heap.size w)
  go_enter Try.func22, Try.ntmps22
  go_wp2_with fail
  go_loopw [8] (fun v8 wr => ∃ k : Nat, v8 = .int .i64 (k : Int) ∧ (k : Int) ≤ n ∧ Hid (idxF p 0 XL = idxF p k (XL.drop k)) ∧ Hid (Below w.heap.size w wr)) (fun v8 _ => n - (intOf v8).toNat)
  case atStart => exact ⟨0, rfl, by omega, Lib.hid (by rw [List.drop_zero]), HB0⟩
  case round =>
    obtain ⟨k, rfl, hk, HQ, HB⟩ := hrel
    clear HB0
    have HS := Lib.hid (HS0.out.under HB.out HS0.out.lt)
    have s0 := HS.out.cell 0
    have sl := HS.out.lt
    by_cases hlt : (k : Int) < n
    · obtain ⟨x, hx⟩ : ∃ x, XL[k]? = some x := ⟨_, List.getElem?_eq_getElem (by have := HN.out; omega)⟩
      have HD := Lib.hid (show XL.drop k = x :: XL.drop (k + 1) from by
        obtain ⟨h1, h2⟩ := List.getElem?_eq_some_iff.1 hx
        rw [List.drop_eq_getElem_cons h1, h2])
      obtain ⟨b, off, ko, kc, rfl, hb, c0, c1, c2, c3, c4, c5, c6, c7⟩ := HX.out k x hx
      have hbw : b < wr.heap.size := Nat.lt_of_lt_of_le hb HB.out.size
      have d0 := keepc c0 HB.out
      have d1 := keepc c1 HB.out
      have d2 := keepc c2 HB.out
      have d3 := keepc c3 HB.out
      have d4 := keepc c4 HB.out
      have d5 := keepc c5 HB.out
      have d6 := keepc c6 HB.out
      have d7 := keepc c7 HB.out
      have hw1 : IntKind.i64.wrap ((k : Int) + 1) = (k : Int) + 1 := by rw [IntKind.wrap_i64]; omega
      obtain ⟨z, hz⟩ : ∃ z, (x.1.toList == s.toList) = z := ⟨_, rfl⟩
      have HZ := Lib.hid (show idxF p 0 XL = if z = true then (k : Int) else idxF p (k + 1) (XL.drop (k + 1)) from by rw [HQ.out, HD.out, ← hz, ← HPP.out x]; rfl)
      have HCC := Lib.hid (clr_any x ko kc b0 s z hz wr HS.out)
      clear hx HD HQ hb c0 c1 c2 c3 c4 c5 c6 c7
      go_wp2_with fail
      refine HCC.out.mono ?_
      rintro e w1 ⟨rfl, hb1⟩
      have HB1 := Lib.hid (HB.out.trans (hb1.mono HB.out.size))
      clear hb1
      cases z
      · go_wp2
        go_roundw
        case rel => exact ⟨k + 1, by go_num, by omega, Lib.hid (HZ.out.trans (if_neg (by decide))), HB1⟩
        case measure => simp [intOf]; omega
      · have HE := Lib.hid (HZ.out.trans (if_pos rfl))
        go_wp2
        go_ret
        exact ⟨ret_int HE.out.symm, HB1.out⟩
    · have HE := Lib.hid (show idxF p 0 XL = -1 from by rw [HQ.out, List.drop_eq_nil_of_le (by have := HN.out; omega)]; rfl)
      have hlt' : decide ((k : Int) < n) = false := decide_eq_false hlt
      go_wp2
      go_ret
      exact ⟨ret_int HE.out.symm, HB.out⟩

set_option maxHeartbeats 800000 in
theorem find_any (ML : List Md) (D : Nat) (mo : Option Addr) (mc : Nat) (s : ByteArray) (hn : (ML.length : Int) ≤ 1000000) (w : World) (hM : HasMs w D mo ML) :
    Calls Try.prog 10 #[.slice mo ML.length mc, .string s] w fun e w' => e = .returned (.int .i64 (findN ML s)) ∧ Below w.heap.size w w' := by
  have hb : Below w.heap.size w (w.alloc (.cells #[.string s] 9)) := (Below.refl _ _).alloc (Nat.le_refl _) _
  obtain ⟨nn, hM2⟩ := hM.below hb
  have HC := Lib.hid (idxm_any ML (fun m => m.nm.toList == s.toList) w.heap.size mo mc s (w.alloc (.cells #[.string s] 9)) (Own.fresh w 9 [.string s]) hn (fun k x hx => by
    obtain ⟨b, off, io, ic, ko, kc, ro, rc, e, hlt, _, c0, c1, c2, c3, c4, c5, c6, c7, c8, c9, cA, _⟩ := hM2 k x hx
    exact ⟨b, off, io, ic, ko, kc, ro, rc, e, hlt, c0, c1, c2, c3, c4, c5, c6, c7, c8, c9, cA⟩) (fun x => rfl))
  have HB := Lib.hid hb
  clear hb hM hM2
  go_enter Try.func10, Try.ntmps10
  go_wp2_with fail
  refine HC.out.mono ?_
  rintro e w1 ⟨rfl, hb1⟩
  have HB1 := Lib.hid (HB.out.trans (hb1.mono HB.out.size))
  go_wp2
  go_ret
  exact ⟨rfl, HB1.out⟩
set_option maxRecDepth 1000000 in
set_option maxHeartbeats 800000 in
theorem rule_any (m : Md) (D n : Nat) (io : Option Addr) (ic : Nat) (ko : Option Addr) (kc : Nat) (ro : Option Addr) (rc : Nat) (s : ByteArray) (hn : (m.ru.length : Int) ≤ 1000000) (w : World) (hM : HasRu w D n ro m.ru) :
    Calls Try.prog 12 #[.agg #[.string m.nm, .slice io m.im.length ic, .bool m.wet, .int .i64 m.wa.op, .string m.wa.text, .int .u64 m.wa.s0, .int .u64 m.wa.s1, .int .u64 m.wa.s2, .int .u64 m.wa.s3, .slice ko m.wa.kids.length kc, .slice ro m.ru.length rc], .string s] w fun e w' => e = .returned (.int .i64 (ruleN m s)) ∧ Below w.heap.size w w' := by
  have hb : Below w.heap.size w ((w.alloc (.cells #[.string m.nm, .slice io m.im.length ic, .bool m.wet, .int .i64 m.wa.op, .string m.wa.text, .int .u64 m.wa.s0, .int .u64 m.wa.s1, .int .u64 m.wa.s2, .int .u64 m.wa.s3, .slice ko m.wa.kids.length kc, .slice ro m.ru.length rc] 39)).alloc (.cells #[.string s] 9)) := ((Below.refl _ _).alloc (Nat.le_refl _) _).alloc (by simp) _
  have hM2 := hM.but (But.of_below (S := fun _ => False) hb) (fun _ h => h.elim)
  have HX := Lib.hid ((Own.fresh w 39 [.string m.nm, .slice io m.im.length ic, .bool m.wet, .int .i64 m.wa.op, .string m.wa.text, .int .u64 m.wa.s0, .int .u64 m.wa.s1, .int .u64 m.wa.s2, .int .u64 m.wa.s3, .slice ko m.wa.kids.length kc, .slice ro m.ru.length rc]).on_alloc (.cells #[.string s] 9))
  have hO := Own.fresh (w.alloc (.cells #[.string m.nm, .slice io m.im.length ic, .bool m.wet, .int .i64 m.wa.op, .string m.wa.text, .int .u64 m.wa.s0, .int .u64 m.wa.s1, .int .u64 m.wa.s2, .int .u64 m.wa.s3, .slice ko m.wa.kids.length kc, .slice ro m.ru.length rc] 39)) 9 [.string s]
  rw [show (w.alloc (.cells #[.string m.nm, .slice io m.im.length ic, .bool m.wet, .int .i64 m.wa.op, .string m.wa.text, .int .u64 m.wa.s0, .int .u64 m.wa.s1, .int .u64 m.wa.s2, .int .u64 m.wa.s3, .slice ko m.wa.kids.length kc, .slice ro m.ru.length rc] 39)).heap.size = w.heap.size + 1 from by simp] at hO
  have HC := Lib.hid (idxr_any m.ru (fun r => r.1.toList == s.toList) (w.heap.size + 1) ro rc s ((w.alloc (.cells #[.string m.nm, .slice io m.im.length ic, .bool m.wet, .int .i64 m.wa.op, .string m.wa.text, .int .u64 m.wa.s0, .int .u64 m.wa.s1, .int .u64 m.wa.s2, .int .u64 m.wa.s3, .slice ko m.wa.kids.length kc, .slice ro m.ru.length rc] 39)).alloc (.cells #[.string s] 9)) hO hn (fun k x hx => by
    obtain ⟨b, off, ko, kc, e, hlt, _, c0, c1, c2, c3, c4, c5, c6, c7, _⟩ := hM2 k x hx
    exact ⟨b, off, ko, kc, e, hlt, c0, c1, c2, c3, c4, c5, c6, c7⟩) (fun x => rfl))
  have HB := Lib.hid hb
  clear hb hM hM2 hO
  go_enter Try.func12, Try.ntmps12
  go_upto_region 1 with fail
  generalize (w.alloc _).alloc _ = w2 at *
  obtain ⟨z0, z1, z2, z3, z4, z5, z6, z7, z8, z9, zA⟩ := HX.out.elev
  have zl := HX.out.lt
  go_wp2_with fail
  refine HC.out.mono ?_
  rintro e w1 ⟨rfl, hb1⟩
  have HB1 := Lib.hid (HB.out.trans (hb1.mono HB.out.size))
  go_wp2
  go_ret
  exact ⟨rfl, HB1.out⟩
end Go.Proofs.Ytihcmneidbjmlaa
