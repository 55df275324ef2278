/- What names mean among modules: the walks of the program's Find and Rule. What is seen from a module; the reference's Find and Rule. -/
import Derived.Test.YtgikhkjnemglbaaHz
namespace Go.Proofs.Ytgikhkjnemglbaa
set_option linter.unusedVariables false
open Go.RowKit Go.Sort

/-- The place of the first one that p holds of, from k on; below 0: there is none. -/
def idxF {α : Type} (p : α → Bool) : Nat → List α → Int
  | _, [] => -1
  | k, x :: r => if p x = true then (k : Int) else idxF p (k + 1) r
def findN (l : List Md) (s : ByteArray) : Int := idxF (fun m => m.nm.toList == s.toList) 0 l
def ruleN (m : Md) (s : ByteArray) : Int := idxF (fun r => r.1.toList == s.toList) 0 m.ru

set_option maxHeartbeats 800000 in
theorem clm_any (x : Md) (io : Option Addr) (ic : Nat) (ko : Option Addr) (kc : Nat) (ro : Option Addr) (rc : Nat) (b0 : Nat) (s : ByteArray) (z : Bool) (hz : (x.nm.toList == s.toList) = z) (w : World) (hs : Own w b0 9 [.string s]) :
    Calls Try.prog 112 #[.agg #[.string x.nm, .slice io x.im.length ic, .bool x.wet, .int .i64 x.wa.op, .string x.wa.text, .int .u64 x.wa.s0, .int .u64 x.wa.s1, .int .u64 x.wa.s2, .int .u64 x.wa.s3, .slice ko x.wa.kids.length kc, .slice ro x.ru.length rc], .pointer (some ⟨b0, 0, none⟩)] w fun e w' => e = .returned (.bool z) ∧ Below w.heap.size w w' := by
  have HB := Lib.hid ((Below.refl w.heap.size w).alloc (Nat.le_refl _) (.cells #[.string x.nm, .slice io x.im.length ic, .bool x.wet, .int .i64 x.wa.op, .string x.wa.text, .int .u64 x.wa.s0, .int .u64 x.wa.s1, .int .u64 x.wa.s2, .int .u64 x.wa.s3, .slice ko x.wa.kids.length kc, .slice ro x.ru.length rc] 45))
  have HX := Lib.hid (Own.fresh w 45 [.string x.nm, .slice io x.im.length ic, .bool x.wet, .int .i64 x.wa.op, .string x.wa.text, .int .u64 x.wa.s0, .int .u64 x.wa.s1, .int .u64 x.wa.s2, .int .u64 x.wa.s3, .slice ko x.wa.kids.length kc, .slice ro x.ru.length rc])
  have HS := Lib.hid (hs.on_alloc (.cells #[.string x.nm, .slice io x.im.length ic, .bool x.wet, .int .i64 x.wa.op, .string x.wa.text, .int .u64 x.wa.s0, .int .u64 x.wa.s1, .int .u64 x.wa.s2, .int .u64 x.wa.s3, .slice ko x.wa.kids.length kc, .slice ro x.ru.length rc] 45))
  clear hs
  go_enter Try.func112, Try.ntmps112
  go_upto_region 1 with fail
  generalize w.alloc _ = w1 at *
  have x0 := HX.out.cell 0
  have xl := HX.out.lt
  have s0 := HS.out.cell 0
  have sl := HS.out.lt
  go_wp2
  go_ret
  exact ⟨rfl, HB.out⟩

set_option maxHeartbeats 800000 in
theorem clr_any (x : ByteArray × Ex) (ko : Option Addr) (kc : Nat) (b0 : Nat) (s : ByteArray) (z : Bool) (hz : (x.1.toList == s.toList) = z) (w : World) (hs : Own w b0 9 [.string s]) :
    Calls Try.prog 139 #[.agg #[.string x.1, .int .i64 x.2.op, .string x.2.text, .int .u64 x.2.s0, .int .u64 x.2.s1, .int .u64 x.2.s2, .int .u64 x.2.s3, .slice ko x.2.kids.length kc], .pointer (some ⟨b0, 0, none⟩)] w fun e w' => e = .returned (.bool z) ∧ Below w.heap.size w w' := by
  have HB := Lib.hid ((Below.refl w.heap.size w).alloc (Nat.le_refl _) (.cells #[.string x.1, .int .i64 x.2.op, .string x.2.text, .int .u64 x.2.s0, .int .u64 x.2.s1, .int .u64 x.2.s2, .int .u64 x.2.s3, .slice ko x.2.kids.length kc] 48))
  have HX := Lib.hid (Own.fresh w 48 [.string x.1, .int .i64 x.2.op, .string x.2.text, .int .u64 x.2.s0, .int .u64 x.2.s1, .int .u64 x.2.s2, .int .u64 x.2.s3, .slice ko x.2.kids.length kc])
  have HS := Lib.hid (hs.on_alloc (.cells #[.string x.1, .int .i64 x.2.op, .string x.2.text, .int .u64 x.2.s0, .int .u64 x.2.s1, .int .u64 x.2.s2, .int .u64 x.2.s3, .slice ko x.2.kids.length kc] 48))
  clear hs
  go_enter Try.func139, Try.ntmps139
  go_upto_region 1 with fail
  generalize w.alloc _ = w1 at *
  have x0 := HX.out.cell 0
  have xl := HX.out.lt
  have s0 := HS.out.cell 0
  have sl := HS.out.lt
  go_wp2
  go_ret
  exact ⟨rfl, HB.out⟩

set_option maxRecDepth 1000000 in
set_option maxHeartbeats 1600000 in
theorem idxm_any (XL : List Md) (p : Md → Bool) (b0 : Nat) (mo : Option Addr) (mc : Nat) (s : ByteArray) (w : World) (hs : Own w b0 9 [.string s]) (hn : (XL.length : Int) ≤ 1000000)
    (hX : ∀ k x, XL[k]? = some x → ∃ b off io ic ko kc ro rc, mo = some ⟨b, off, none⟩ ∧ b < w.heap.size ∧ w.cell? ⟨b, off + k * 11, none⟩ = some (.string x.nm) ∧ w.cell? ⟨b, off + k * 11 + 1, none⟩ = some (.slice io x.im.length ic) ∧ w.cell? ⟨b, off + k * 11 + 2, none⟩ = some (.bool x.wet) ∧ w.cell? ⟨b, off + k * 11 + 3, none⟩ = some (.int .i64 x.wa.op) ∧ w.cell? ⟨b, off + k * 11 + 4, none⟩ = some (.string x.wa.text) ∧ w.cell? ⟨b, off + k * 11 + 5, none⟩ = some (.int .u64 x.wa.s0) ∧ w.cell? ⟨b, off + k * 11 + 6, none⟩ = some (.int .u64 x.wa.s1) ∧ w.cell? ⟨b, off + k * 11 + 7, none⟩ = some (.int .u64 x.wa.s2) ∧ w.cell? ⟨b, off + k * 11 + 8, none⟩ = some (.int .u64 x.wa.s3) ∧ w.cell? ⟨b, off + k * 11 + 9, none⟩ = some (.slice ko x.wa.kids.length kc) ∧ w.cell? ⟨b, off + k * 11 + 10, none⟩ = some (.slice ro x.ru.length rc)) (hp : ∀ x, p x = (x.nm.toList == s.toList)) :
    Calls Try.prog 111 #[.slice mo XL.length mc, .func (Fn.func 112) #[] #[.pointer (some ⟨b0, 0, none⟩)]] w fun e w' => e = .returned (.int .i64 (idxF p 0 XL)) ∧ Below w.heap.size w w' := by
  have HX := Lib.hid hX
  have HS0 := Lib.hid hs
  have HPP := Lib.hid hp
  obtain ⟨n, hnn⟩ : ∃ n, XL.length = n := ⟨_, rfl⟩
  have HN := Lib.hid hnn
  rw [hnn] at hn ⊢
  clear hX hs hp hnn
  have HB0 := Lib.hid (Below.refl w.heap.size w)
  go_enter Try.func111, Try.ntmps111
  go_wp2_with fail
  go_loopw [8] (fun v8 wr => ∃ k : Nat, v8 = .int .i64 (k : Int) ∧ (k : Int) ≤ n ∧ Hid (idxF p 0 XL = idxF p k (XL.drop k)) ∧ Hid (Below w.heap.size w wr)) (fun v8 _ => n - (intOf v8).toNat)
  case atStart => exact ⟨0, rfl, by omega, Lib.hid (by rw [List.drop_zero]), HB0⟩
  case round =>
    obtain ⟨k, rfl, hk, HQ, HB⟩ := hrel
    clear HB0
    have HS := Lib.hid (HS0.out.under HB.out HS0.out.lt)
    have s0 := HS.out.cell 0
    have sl := HS.out.lt
    by_cases hlt : (k : Int) < n
    · obtain ⟨x, hx⟩ : ∃ x, XL[k]? = some x := ⟨_, List.getElem?_eq_getElem (by have := HN.out; omega)⟩
      have HD := Lib.hid (show XL.drop k = x :: XL.drop (k + 1) from by
        obtain ⟨h1, h2⟩ := List.getElem?_eq_some_iff.1 hx
        rw [List.drop_eq_getElem_cons h1, h2])
      obtain ⟨b, off, io, ic, ko, kc, ro, rc, rfl, hb, c0, c1, c2, c3, c4, c5, c6, c7, c8, c9, c10⟩ := HX.out k x hx
      have hbw : b < wr.heap.size := Nat.lt_of_lt_of_le hb HB.out.size
      have d0 := keepc c0 HB.out
      have d1 := keepc c1 HB.out
      have d2 := keepc c2 HB.out
      have d3 := keepc c3 HB.out
      have d4 := keepc c4 HB.out
      have d5 := keepc c5 HB.out
      have d6 := keepc c6 HB.out
      have d7 := keepc c7 HB.out
      have d8 := keepc c8 HB.out
      have d9 := keepc c9 HB.out
      have d10 := keepc c10 HB.out
      have hw1 : IntKind.i64.wrap ((k : Int) + 1) = (k : Int) + 1 := by rw [IntKind.wrap_i64]; omega
      obtain ⟨z, hz⟩ : ∃ z, (x.nm.toList == s.toList) = z := ⟨_, rfl⟩
      have HZ := Lib.hid (show idxF p 0 XL = if z = true then (k : Int) else idxF p (k + 1) (XL.drop (k + 1)) from by rw [HQ.out, HD.out, ← hz, ← HPP.out x]; rfl)
      have HCC := Lib.hid (clm_any x io ic ko kc ro rc b0 s z hz wr HS.out)
      clear hx HD HQ hb c0 c1 c2 c3 c4 c5 c6 c7 c8 c9 c10
      go_wp2_with fail
      refine HCC.out.mono ?_
      rintro e w1 ⟨rfl, hb1⟩
      have HB1 := Lib.hid (HB.out.trans (hb1.mono HB.out.size))
      clear hb1
      cases z
      · go_wp2
        go_roundw
        case rel => exact ⟨k + 1, by go_num, by omega, Lib.hid (HZ.out.trans (if_neg (by decide))), HB1⟩
        case measure => simp [intOf]; omega
      · have HE := Lib.hid (HZ.out.trans (if_pos rfl))
        go_wp2
        go_ret
        exact ⟨ret_int HE.out.symm, HB1.out⟩
    · have HE := Lib.hid (show idxF p 0 XL = -1 from by rw [HQ.out, List.drop_eq_nil_of_le (by have := HN.out; omega)]; rfl)
      have hlt' : decide ((k : Int) < n) = false := decide_eq_false hlt
      go_wp2
      go_ret
      exact ⟨ret_int HE.out.symm, HB.out⟩

set_option maxRecDepth 1000000 in
set_option maxHeartbeats 1600000 in
theorem idxr_any (XL : List (ByteArray × Ex)) (p : (ByteArray × Ex) → Bool) (b0 : Nat) (mo : Option Addr) (mc : Nat) (s : ByteArray) (w : World) (hs : Own w b0 9 [.string s]) (hn : (XL.length : Int) ≤ 1000000)
    (hX : ∀ k x, XL[k]? = some x → ∃ b off ko kc, mo = some ⟨b, off, none⟩ ∧ b < w.heap.size ∧ w.cell? ⟨b, off + k * 8, none⟩ = some (.string x.1) ∧ w.cell? ⟨b, off + k * 8 + 1, none⟩ = some (.int .i64 x.2.op) ∧ w.cell? ⟨b, off + k * 8 + 2, none⟩ = some (.string x.2.text) ∧ w.cell? ⟨b, off + k * 8 + 3, none⟩ = some (.int .u64 x.2.s0) ∧ w.cell? ⟨b, off + k * 8 + 4, none⟩ = some (.int .u64 x.2.s1) ∧ w.cell? ⟨b, off + k * 8 + 5, none⟩ = some (.int .u64 x.2.s2) ∧ w.cell? ⟨b, off + k * 8 + 6, none⟩ = some (.int .u64 x.2.s3) ∧ w.cell? ⟨b, off + k * 8 + 7, none⟩ = some (.slice ko x.2.kids.length kc)) (hp : ∀ x, p x = (x.1.toList == s.toList)) :
    Calls Try.prog 138 #[.slice mo XL.length mc, .func (Fn.func 139) #[] #[.pointer (some ⟨b0, 0, none⟩)]] w fun e w' => e = .returned (.int .i64 (idxF p 0 XL)) ∧ Below w.heap.size w w' := by
  have HX := Lib.hid hX
  have HS0 := Lib.hid hs
  have HPP := Lib.hid hp
  obtain ⟨n, hnn⟩ : ∃ n, XL.length = n := ⟨_, rfl⟩
  have HN := Lib.hid hnn
  rw [hnn] at hn ⊢
  clear hX hs hp hnn
  have HB0 := Lib.hid (Below.refl w.heap.size w)
  go_enter Try.func138, Try.ntmps138
  go_wp2_with fail
  go_loopw [8] (fun v8 wr => ∃ k : Nat, v8 = .int .i64 (k : Int) ∧ (k : Int) ≤ n ∧ Hid (idxF p 0 XL = idxF p k (XL.drop k)) ∧ Hid (Below w.heap.size w wr)) (fun v8 _ => n - (intOf v8).toNat)
  case atStart => exact ⟨0, rfl, by omega, Lib.hid (by rw [List.drop_zero]), HB0⟩
  case round =>
    obtain ⟨k, rfl, hk, HQ, HB⟩ := hrel
    clear HB0
    have HS := Lib.hid (HS0.out.under HB.out HS0.out.lt)
    have s0 := HS.out.cell 0
    have sl := HS.out.lt
    by_cases hlt : (k : Int) < n
    · obtain ⟨x, hx⟩ : ∃ x, XL[k]? = some x := ⟨_, List.getElem?_eq_getElem (by have := HN.out; omega)⟩
      have HD := Lib.hid (show XL.drop k = x :: XL.drop (k + 1) from by
        obtain ⟨h1, h2⟩ := List.getElem?_eq_some_iff.1 hx
        rw [List.drop_eq_getElem_cons h1, h2])
      obtain ⟨b, off, ko, kc, rfl, hb, c0, c1, c2, c3, c4, c5, c6, c7⟩ := HX.out k x hx
      have hbw : b < wr.heap.size := Nat.lt_of_lt_of_le hb HB.out.size
      have d0 := keepc c0 HB.out
      have d1 := keepc c1 HB.out
      have d2 := keepc c2 HB.out
      have d3 := keepc c3 HB.out
      have d4 := keepc c4 HB.out
      have d5 := keepc c5 HB.out
      have d6 := keepc c6 HB.out
      have d7 := keepc c7 HB.out
      have hw1 : IntKind.i64.wrap ((k : Int) + 1) = (k : Int) + 1 := by rw [IntKind.wrap_i64]; omega
      obtain ⟨z, hz⟩ : ∃ z, (x.1.toList == s.toList) = z := ⟨_, rfl⟩
      have HZ := Lib.hid (show idxF p 0 XL = if z = true then (k : Int) else idxF p (k + 1) (XL.drop (k + 1)) from by rw [HQ.out, HD.out, ← hz, ← HPP.out x]; rfl)
      have HCC := Lib.hid (clr_any x ko kc b0 s z hz wr HS.out)
      clear hx HD HQ hb c0 c1 c2 c3 c4 c5 c6 c7
      go_wp2_with fail
      refine HCC.out.mono ?_
      rintro e w1 ⟨rfl, hb1⟩
      have HB1 := Lib.hid (HB.out.trans (hb1.mono HB.out.size))
      clear hb1
      cases z
      · go_wp2
        go_roundw
        case rel => exact ⟨k + 1, by go_num, by omega, Lib.hid (HZ.out.trans (if_neg (by decide))), HB1⟩
        case measure => simp [intOf]; omega
      · have HE := Lib.hid (HZ.out.trans (if_pos rfl))
        go_wp2
        go_ret
        exact ⟨ret_int HE.out.symm, HB1.out⟩
    · have HE := Lib.hid (show idxF p 0 XL = -1 from by rw [HQ.out, List.drop_eq_nil_of_le (by have := HN.out; omega)]; rfl)
      have hlt' : decide ((k : Int) < n) = false := decide_eq_false hlt
      go_wp2
      go_ret
      exact ⟨ret_int HE.out.symm, HB.out⟩

set_option maxHeartbeats 800000 in
theorem find_any (ML : List Md) (D : Nat) (mo : Option Addr) (mc : Nat) (s : ByteArray) (hn : (ML.length : Int) ≤ 1000000) (w : World) (hM : HasMs w D mo ML) :
    Calls Try.prog 84 #[.slice mo ML.length mc, .string s] w fun e w' => e = .returned (.int .i64 (findN ML s)) ∧ Below w.heap.size w w' := by
  have hb : Below w.heap.size w (w.alloc (.cells #[.string s] 9)) := (Below.refl _ _).alloc (Nat.le_refl _) _
  obtain ⟨nn, hM2⟩ := hM.below hb
  have HC := Lib.hid (idxm_any ML (fun m => m.nm.toList == s.toList) w.heap.size mo mc s (w.alloc (.cells #[.string s] 9)) (Own.fresh w 9 [.string s]) hn (fun k x hx => by
    obtain ⟨b, off, io, ic, ko, kc, ro, rc, e, hlt, _, c0, c1, c2, c3, c4, c5, c6, c7, c8, c9, cA, _⟩ := hM2 k x hx
    exact ⟨b, off, io, ic, ko, kc, ro, rc, e, hlt, c0, c1, c2, c3, c4, c5, c6, c7, c8, c9, cA⟩) (fun x => rfl))
  have HB := Lib.hid hb
  clear hb hM hM2
  go_enter Try.func84, Try.ntmps84
  go_wp2_with fail
  refine HC.out.mono ?_
  rintro e w1 ⟨rfl, hb1⟩
  have HB1 := Lib.hid (HB.out.trans (hb1.mono HB.out.size))
  go_wp2
  go_ret
  exact ⟨rfl, HB1.out⟩
set_option maxRecDepth 1000000 in
set_option maxHeartbeats 800000 in
theorem rule_any (m : Md) (D n : Nat) (io : Option Addr) (ic : Nat) (ko : Option Addr) (kc : Nat) (ro : Option Addr) (rc : Nat) (s : ByteArray) (hn : (m.ru.length : Int) ≤ 1000000) (w : World) (hM : HasRu w D n ro m.ru) :
    Calls Try.prog 116 #[.agg #[.string m.nm, .slice io m.im.length ic, .bool m.wet, .int .i64 m.wa.op, .string m.wa.text, .int .u64 m.wa.s0, .int .u64 m.wa.s1, .int .u64 m.wa.s2, .int .u64 m.wa.s3, .slice ko m.wa.kids.length kc, .slice ro m.ru.length rc], .string s] w fun e w' => e = .returned (.int .i64 (ruleN m s)) ∧ Below w.heap.size w w' := by
  have hb : Below w.heap.size w ((w.alloc (.cells #[.string m.nm, .slice io m.im.length ic, .bool m.wet, .int .i64 m.wa.op, .string m.wa.text, .int .u64 m.wa.s0, .int .u64 m.wa.s1, .int .u64 m.wa.s2, .int .u64 m.wa.s3, .slice ko m.wa.kids.length kc, .slice ro m.ru.length rc] 45)).alloc (.cells #[.string s] 9)) := ((Below.refl _ _).alloc (Nat.le_refl _) _).alloc (by simp) _
  have hM2 := hM.but (But.of_below (S := fun _ => False) hb) (fun _ h => h.elim)
  have HX := Lib.hid ((Own.fresh w 45 [.string m.nm, .slice io m.im.length ic, .bool m.wet, .int .i64 m.wa.op, .string m.wa.text, .int .u64 m.wa.s0, .int .u64 m.wa.s1, .int .u64 m.wa.s2, .int .u64 m.wa.s3, .slice ko m.wa.kids.length kc, .slice ro m.ru.length rc]).on_alloc (.cells #[.string s] 9))
  have hO := Own.fresh (w.alloc (.cells #[.string m.nm, .slice io m.im.length ic, .bool m.wet, .int .i64 m.wa.op, .string m.wa.text, .int .u64 m.wa.s0, .int .u64 m.wa.s1, .int .u64 m.wa.s2, .int .u64 m.wa.s3, .slice ko m.wa.kids.length kc, .slice ro m.ru.length rc] 45)) 9 [.string s]
  rw [show (w.alloc (.cells #[.string m.nm, .slice io m.im.length ic, .bool m.wet, .int .i64 m.wa.op, .string m.wa.text, .int .u64 m.wa.s0, .int .u64 m.wa.s1, .int .u64 m.wa.s2, .int .u64 m.wa.s3, .slice ko m.wa.kids.length kc, .slice ro m.ru.length rc] 45)).heap.size = w.heap.size + 1 from by simp] at hO
  have HC := Lib.hid (idxr_any m.ru (fun r => r.1.toList == s.toList) (w.heap.size + 1) ro rc s ((w.alloc (.cells #[.string m.nm, .slice io m.im.length ic, .bool m.wet, .int .i64 m.wa.op, .string m.wa.text, .int .u64 m.wa.s0, .int .u64 m.wa.s1, .int .u64 m.wa.s2, .int .u64 m.wa.s3, .slice ko m.wa.kids.length kc, .slice ro m.ru.length rc] 45)).alloc (.cells #[.string s] 9)) hO hn (fun k x hx => by
    obtain ⟨b, off, ko, kc, e, hlt, _, c0, c1, c2, c3, c4, c5, c6, c7, _⟩ := hM2 k x hx
    exact ⟨b, off, ko, kc, e, hlt, c0, c1, c2, c3, c4, c5, c6, c7⟩) (fun x => rfl))
  have HB := Lib.hid hb
  clear hb hM hM2 hO
  go_enter Try.func116, Try.ntmps116
  go_upto_region 1 with fail
  generalize (w.alloc _).alloc _ = w2 at *
  obtain ⟨z0, z1, z2, z3, z4, z5, z6, z7, z8, z9, zA⟩ := HX.out.elev
  have zl := HX.out.lt
  go_wp2_with fail
  refine HC.out.mono ?_
  rintro e w1 ⟨rfl, hb1⟩
  have HB1 := Lib.hid (HB.out.trans (hb1.mono HB.out.size))
  go_wp2
  go_ret
  exact ⟨rfl, HB1.out⟩
end Go.Proofs.Ytgikhkjnemglbaa

namespace Go.Proofs.Ytgikhkjnemglbaa
set_option linter.unusedVariables false
open Go.RowKit Go.Sort

theorem info_int : (Try.prog.info? 3).map (fun i => (i.zero, i.size, i.bytes)) = some (some (.int .i64 0), 1, 8) := by kernel_rfl
/-- Numbers in memory. -/
def HasIn (w : World) (ao : Option Addr) (L : List Int) : Prop := ∀ k x, L[k]? = some x → ∃ b off, ao = some ⟨b, off, none⟩ ∧ b < w.heap.size ∧ w.cell? ⟨b, off + k, none⟩ = some (.int .i64 x)
theorem HasIn.below {w w' : World} {ao : Option Addr} {L : List Int} (h : HasIn w ao L) (hb : Below w.heap.size w w') : HasIn w' ao L := fun k x hx => by
  obtain ⟨b, off, e, hlt, c⟩ := h k x hx
  exact ⟨b, off, e, Nat.lt_of_lt_of_le hlt hb.size, keepc c hb⟩
theorem hasIn_of {S : Nat → Prop} {w : World} {ao : Option Addr} {n c : Nat} {L : List Int} (h : Win S 3 1 w (.slice ao n c) n (L.map (Value.int .i64))) : HasIn w ao L := fun k x hx => by
  have hk : k < L.length := (List.getElem?_eq_some_iff.1 hx).1
  have hn : L.length = n := by have := h.1; simpa using this
  obtain ⟨ao', cap, e1, h1, h2, hf⟩ := h.form
  injection e1 with e1 e2 e3
  subst e1
  obtain ⟨g, off, e, hs, hg, hc, _⟩ := hf k (by omega)
  exact ⟨g, off, e, hg, by rw [hc, List.getElem?_map, hx]; rfl⟩
def seenL (l : List Md) (m : Md) (i : Int) : List Int := i :: (m.im.map (findN l)).filter (fun k => decide (0 ≤ k))
theorem seen_step (l : List Md) (im : List ByteArray) {k : Nat} {x : ByteArray} (h : im[k]? = some x) : ((im.take (k + 1)).map (findN l)).filter (fun k => decide (0 ≤ k)) = ((im.take k).map (findN l)).filter (fun k => decide (0 ≤ k)) ++ (if 0 ≤ findN l x then [findN l x] else []) := by
  have hk := (List.getElem?_eq_some_iff.1 h).1
  have he : im[k] = x := (List.getElem?_eq_some_iff.1 h).2
  rw [List.take_succ_eq_append_getElem hk, List.map_append, List.filter_append, he]
  congr 1
  by_cases h0 : 0 ≤ findN l x
  · rw [if_pos h0]; simp [h0]
  · rw [if_neg h0]; simp [h0]
theorem idxF_bd {α : Type} (p : α → Bool) : ∀ (k : Nat) (l : List α), idxF p k l = -1 ∨ ((k : Int) ≤ idxF p k l ∧ idxF p k l < k + l.length)
  | _, [] => .inl rfl
  | k, x :: r => by
    unfold idxF
    split
    · right; simp; omega
    · rcases idxF_bd p (k + 1) r with h | h
      · exact .inl h
      · right; simp at h ⊢; omega
theorem idxF_at {α : Type} (p : α → Bool) : ∀ (k : Nat) (l : List α), 0 ≤ idxF p k l → ∃ x, l[(idxF p k l).toNat - k]? = some x ∧ p x = true
  | _, [], h => by simp [idxF] at h
  | k, x :: r, h => by
    unfold idxF at h ⊢
    split
    · rename_i hp
      exact ⟨x, by simp, hp⟩
    · rename_i hp
      rw [if_neg hp] at h
      obtain ⟨y, h1, h2⟩ := idxF_at p (k + 1) r h
      have hb := idxF_bd p (k + 1) r
      refine ⟨y, ?_, h2⟩
      rw [show (idxF p (k + 1) r).toNat - k = ((idxF p (k + 1) r).toNat - (k + 1)) + 1 by omega, List.getElem?_cons_succ]
      exact h1

set_option maxRecDepth 1000000 in
set_option maxHeartbeats 1600000 in
theorem seen_any (ML : List Md) (D : Nat) (mo : Option Addr) (mc : Nat) (i : Nat) (m : Md) (hi : ML[i]? = some m) (hn : (ML.length : Int) ≤ 1000000) (hm : (m.im.length : Int) ≤ 1000) (w : World) (hM : HasMs w D mo ML) :
    Calls Try.prog 137 #[.slice mo ML.length mc, .int .i64 (i : Int)] w fun e w' => (∃ so sc, e = .returned (.slice so (seenL ML m i).length sc) ∧ HasIn w' so (seenL ML m i)) ∧ Below w.heap.size w w' := by
  have HFD := Lib.hid (fun (s : ByteArray) W (hW : HasMs W D mo ML) => find_any ML D mo mc s hn W hW)
  have HM0 := Lib.hid hM
  obtain ⟨nn, hM1⟩ := hM
  obtain ⟨b, off, io, ic, ko, kc, ro, rc, e, hlt, _, c0, c1, -, -, -, -, -, -, -, -, -, hnr, -⟩ := hM1 i m hi
  have HNR := Lib.hid hnr.hasN
  have hiL : i < ML.length := (List.getElem?_eq_some_iff.1 hi).1
  have HSL := Lib.hid (show seenL ML m i = (i : Int) :: ((m.im.take m.im.length).map (findN ML)).filter (fun k => decide (0 ≤ k)) from by rw [List.take_length]; rfl)
  generalize seenL ML m i = SL at *
  obtain ⟨n, hnn⟩ : ∃ n, ML.length = n := ⟨_, rfl⟩
  rw [hnn] at hn HFD hiL ⊢
  obtain ⟨q, hq⟩ : ∃ q, m.im.length = q := ⟨_, rfl⟩
  have HQ := Lib.hid hq
  rw [hq] at c1 hm HSL
  have hi1 : (i : Int) < n := by omega
  have HMO := Lib.hid e
  clear hM1 hi hnr c0 hnn hq hiL
  have hbl0 : Below w.heap.size w (w.alloc (.cells #[.int .i64 (i : Int)] 3)) := (Below.refl _ _).alloc (Nat.le_refl _) _
  have HB0 := Lib.hid hbl0
  have HW0 := Lib.hid (show Win (fun j => w.heap.size ≤ j) 3 1 (w.alloc (.cells #[.int .i64 (i : Int)] 3)) (.slice (some ⟨w.heap.size, 0, none⟩) 1 1) 1 ([(i : Int)].map (Value.int .i64)) from (Win.one (Own.fresh w 3 [.int .i64 (i : Int)]) rfl).mono (fun j _ h => by have h' : j = w.heap.size := h; omega))
  have c1' := keepc c1 hbl0
  have hlt' : b < (w.alloc (.cells #[.int .i64 (i : Int)] 3)).heap.size := Nat.lt_of_lt_of_le hlt hbl0.size
  clear hbl0 c1 hlt
  rw [e]
  go_enter Try.func137, Try.ntmps137
  go_upto_region 2 with fail
  generalize w.alloc _ = w1 at *
  generalize hWS : w.heap.size = A at *
  clear e
  go_wp2_with fail
  rw [← HMO.out]
  go_loopw [5, 17] (fun v5 v17 wr => ∃ (k : Nat) (L : List Int) (so : Option Addr) (sc : Nat), v5 = .slice so L.length sc ∧ v17 = .int .i64 (k : Int) ∧ (k : Int) ≤ q ∧ Hid (L = (i : Int) :: ((m.im.take k).map (findN ML)).filter (fun k => decide (0 ≤ k))) ∧ Hid (L.length ≤ k + 1) ∧
      Hid (Win (fun j => A ≤ j) 3 1 wr (.slice so L.length sc) L.length (L.map (Value.int .i64))) ∧ Hid (Below A w wr)) (fun _ v17 _ => q - (intOf v17).toNat)
  case atStart => exact ⟨0, [(i : Int)], some ⟨A, 0, none⟩, 1, rfl, rfl, by omega, Lib.hid (by simp), Lib.hid (by simp), HW0, HB0⟩
  case round =>
    obtain ⟨k, L, so, sc, rfl, rfl, hk, HL, HLL, HW, HB⟩ := hrel
    clear HW0 HB0
    obtain ⟨nl, hnl⟩ : ∃ z, L.length = z := ⟨_, rfl⟩
    have HNL := Lib.hid hnl
    rw [hnl] at HW HLL
    rw [hnl]
    clear hnl
    by_cases hlt2 : (k : Int) < q
    · obtain ⟨x, hx⟩ : ∃ x, m.im[k]? = some x := ⟨_, List.getElem?_eq_getElem (by have := HQ.out; omega)⟩
      obtain ⟨b2, off2, hio, hb2, d0⟩ := HNR.out k x hx
      have HST := Lib.hid (seen_step ML m.im hx)
      have hBw : Below w.heap.size w wr := by rw [hWS]; exact HB.out
      have d0' := keepc d0 hBw
      have hb2' : b2 < wr.heap.size := Nat.lt_of_lt_of_le hb2 hBw.size
      have HMR := Lib.hid (HM0.out.below hBw)
      have HFC := Lib.hid (HFD.out x wr HMR.out)
      have hw1 : IntKind.i64.wrap ((k : Int) + 1) = (k : Int) + 1 := by rw [IntKind.wrap_i64]; omega
      obtain ⟨r, hr⟩ : ∃ r, findN ML x = r := ⟨_, rfl⟩
      rw [hr] at HFC HST
      rw [hio]
      clear hx d0 hb2 hBw hr
      go_wp2_with fail
      refine HFC.out.mono ?_
      rintro e2 w2 ⟨rfl, hb3⟩
      have HB2 := Lib.hid (HB.out.trans (hb3.mono (by rw [← hWS]; exact HB.out.size)))
      have HW2 := Lib.hid (HW.out.below hb3)
      clear hb3 d0' hb2' hio
      by_cases h0 : 0 ≤ r
      · have h0' : decide (0 ≤ r) = true := decide_eq_true h0
        obtain ⟨i0, hi0, hz0, hz1, hz2⟩ := info_parts7 info_int
        have HNEW := Lib.hid (fun W => fresh_news W 3 [.int .i64 r])
        have hnk : nl ≤ 1001 := by have := HLL.out; omega
        go_wp2_with (first
          | (at_builtin; refine wpList_append_win _ rfl _ _ 29 rfl (fun j => A ≤ j) 3 i0 _ 1 8 Try.underlying29 hi0 hz0 hz1 hz2 rfl (by decide) _ nl (L.map (Value.int .i64)) rfl (HW2.out.below ((Below.refl _ _).alloc (Nat.le_refl _) _)) ⟨w2.heap.size, 0, none⟩ 1 1 [.int .i64 r] rfl rfl (HNEW.out w2) (by intro u hu; rw [List.mem_singleton.1 hu]; rfl) (by unfold maxLen; omega) (by omega) ?_))
        intro v' w4 hw4 hb4
        have hblx : Below w2.heap.size w2 (w2.alloc (.cells #[.int .i64 r] 3)) := (Below.refl _ _).alloc (Nat.le_refl _) _
        have hA2 : A ≤ w2.heap.size := Nat.le_trans (by rw [← hWS]; exact Nat.le_refl _) (by have := HB2.out.size; omega)
        have HB4 := Lib.hid ((HB2.out.trans (hblx.mono hA2)).trans (hb4.below (B := A) (Nat.le_trans hA2 hblx.size) (fun j hs => hs)))
        have HW4 := Lib.hid (show Win (fun j => A ≤ j) 3 1 w4 v' (nl + 1) ((L ++ [r]).map (Value.int .i64)) from by
          rw [List.map_append]
          exact hw4.mono (fun j _ h => by rcases h with h | h; exact h; (have h' : w2.heap.size + 1 ≤ j := h; omega)))
        obtain ⟨so', sc', hv, -⟩ := HW4.out.form
        subst hv
        have HLN := Lib.hid (show (L ++ [r]).length = nl + 1 from by rw [List.length_append, HNL.out]; rfl)
        have HLQ := Lib.hid (show L ++ [r] = (i : Int) :: ((m.im.take (k + 1)).map (findN ML)).filter (fun k => decide (0 ≤ k)) from by rw [HST.out, if_pos h0, HL.out]; rfl)
        clear hw4 hb4 hblx
        go_wp2
        go_roundw
        case rel => exact ⟨k + 1, L ++ [r], so', sc', by rw [HLN.out], by go_num, by omega, HLQ, Lib.hid (by rw [HLN.out]; have := HLL.out; omega), by rw [HLN.out]; exact HW4, HB4⟩
        case measure => simp [intOf]; omega
      · have h0' : decide (0 ≤ r) = false := decide_eq_false h0
        have HLQ := Lib.hid (show L = (i : Int) :: ((m.im.take (k + 1)).map (findN ML)).filter (fun k => decide (0 ≤ k)) from by rw [HST.out, if_neg h0, HL.out]; simp)
        go_wp2
        go_roundw
        case rel => exact ⟨k + 1, L, so, sc, by rw [HNL.out], by go_num, by omega, HLQ, Lib.hid (by rw [HNL.out]; have := HLL.out; omega), by rw [HNL.out]; exact HW2, HB2⟩
        case measure => simp [intOf]; omega
    · have hkq : k = q := by omega
      have HE := Lib.hid (show SL = L from by rw [HSL.out, HL.out, hkq])
      have hlt3 : decide ((k : Int) < q) = false := decide_eq_false hlt2
      clear hkq
      go_wp2
      go_ret
      have h1 : HasIn wr so SL := by rw [HE.out]; exact hasIn_of HW.out
      have h2 := HB.out
      have h3 : SL.length = nl := by rw [HE.out, HNL.out]
      first
        | exact ⟨⟨so, sc, by rw [h3]; rfl, h1⟩, h2⟩
        | exact ⟨⟨so, ⟨sc, by rw [h3]; rfl⟩, h1⟩, h2⟩

set_option maxRecDepth 1000000 in
set_option maxHeartbeats 1600000 in
theorem rfind_any (ML : List Md) (D : Nat) (mo : Option Addr) (mc : Nat) (s : ByteArray) (hn : (ML.length : Int) ≤ 1000000) (w : World) (hM : HasMs w D mo ML) :
    Calls Try.prog 55 #[.slice mo ML.length mc, .string s] w fun e w' => e = .returned (.int .i64 (findN ML s)) ∧ w = w' := by
  obtain ⟨nn, hM1⟩ := hM
  have HX := Lib.hid hM1
  obtain ⟨n, hnn⟩ : ∃ n, ML.length = n := ⟨_, rfl⟩
  have HN := Lib.hid hnn
  rw [hnn] at hn ⊢
  clear hM1 hnn
  go_enter Try.func55, Try.ntmps55
  go_wp2_with fail
  go_loopw [5] (fun v8 wr => ∃ k : Nat, v8 = .int .i64 (k : Int) ∧ (k : Int) ≤ n ∧ Hid (findN ML s = idxF (fun m => m.nm.toList == s.toList) k (ML.drop k)) ∧ wr = w) (fun v8 _ => n - (intOf v8).toNat)
  case atStart => exact ⟨0, rfl, by omega, Lib.hid (by rw [List.drop_zero]; rfl), (by first | trivial | rfl)⟩
  case round =>
    obtain ⟨k, rfl, hk, HQ, rfl⟩ := hrel
    by_cases hlt : (k : Int) < n
    · obtain ⟨x, hx⟩ : ∃ x, ML[k]? = some x := ⟨_, List.getElem?_eq_getElem (by have := HN.out; omega)⟩
      have HD := Lib.hid (show ML.drop k = x :: ML.drop (k + 1) from by
        obtain ⟨h1, h2⟩ := List.getElem?_eq_some_iff.1 hx
        rw [List.drop_eq_getElem_cons h1, h2])
      obtain ⟨b, off, io, ic, ko, kc, ro, rc, rfl, hb, _, c0, -⟩ := HX.out k x hx
      have hw1 : IntKind.i64.wrap ((k : Int) + 1) = (k : Int) + 1 := by rw [IntKind.wrap_i64]; omega
      obtain ⟨z, hz⟩ : ∃ z, (x.nm.toList == s.toList) = z := ⟨_, rfl⟩
      have HZ := Lib.hid (show findN ML s = if z = true then (k : Int) else idxF (fun m => m.nm.toList == s.toList) (k + 1) (ML.drop (k + 1)) from by rw [HQ.out, HD.out, ← hz]; rfl)
      clear hx HD HQ
      cases z
      · go_wp2
        go_roundw
        case rel => exact ⟨k + 1, by go_num, by omega, Lib.hid (HZ.out.trans (if_neg (by decide))), (by first | trivial | rfl)⟩
        case measure => simp [intOf]; omega
      · have HE := Lib.hid (HZ.out.trans (if_pos rfl))
        go_wp2
        go_ret
        exact ⟨ret_int HE.out.symm, rfl⟩
    · have HE := Lib.hid (show findN ML s = -1 from by rw [HQ.out, List.drop_eq_nil_of_le (by have := HN.out; omega)]; rfl)
      have hlt' : decide ((k : Int) < n) = false := decide_eq_false hlt
      go_wp2
      go_ret
      exact ⟨ret_int HE.out.symm, rfl⟩
set_option maxRecDepth 1000000 in
set_option maxHeartbeats 1600000 in
theorem rrule_any (m : Md) (D nn : Nat) (io : Option Addr) (ic : Nat) (ko : Option Addr) (kc : Nat) (ro : Option Addr) (rc : Nat) (s : ByteArray) (hn : (m.ru.length : Int) ≤ 1000000) (w : World) (hM : HasRu w D nn ro m.ru) :
    Calls Try.prog 56 #[.agg #[.string m.nm, .slice io m.im.length ic, .bool m.wet, .int .i64 m.wa.op, .string m.wa.text, .int .u64 m.wa.s0, .int .u64 m.wa.s1, .int .u64 m.wa.s2, .int .u64 m.wa.s3, .slice ko m.wa.kids.length kc, .slice ro m.ru.length rc], .string s] w fun e w' => e = .returned (.int .i64 (ruleN m s)) ∧ Below w.heap.size w w' := by
  have hb : Below w.heap.size w (w.alloc (.cells #[.string m.nm, .slice io m.im.length ic, .bool m.wet, .int .i64 m.wa.op, .string m.wa.text, .int .u64 m.wa.s0, .int .u64 m.wa.s1, .int .u64 m.wa.s2, .int .u64 m.wa.s3, .slice ko m.wa.kids.length kc, .slice ro m.ru.length rc] 45)) := (Below.refl _ _).alloc (Nat.le_refl _) _
  have HX := Lib.hid (hM.but (But.of_below (S := fun _ => False) hb) (fun _ h => h.elim))
  obtain ⟨n, hnn⟩ : ∃ n, m.ru.length = n := ⟨_, rfl⟩
  have HN := Lib.hid hnn
  rw [hnn] at hn hb HX
  rw [hnn]
  have HB := Lib.hid hb
  have HO := Lib.hid (Own.fresh w 45 [.string m.nm, .slice io m.im.length ic, .bool m.wet, .int .i64 m.wa.op, .string m.wa.text, .int .u64 m.wa.s0, .int .u64 m.wa.s1, .int .u64 m.wa.s2, .int .u64 m.wa.s3, .slice ko m.wa.kids.length kc, .slice ro n rc])
  clear hb hM hnn
  go_enter Try.func56, Try.ntmps56
  go_upto_region 1 with fail
  generalize w.alloc _ = w1 at *
  generalize hG : w.heap.size = G at *
  obtain ⟨z0, z1, z2, z3, z4, z5, z6, z7, z8, z9, zA⟩ := HO.out.elev
  have zl := HO.out.lt
  clear z0 z1 z2 z3 z4 z5 z6 z7 z8 z9
  go_wp2_with fail
  go_loopw [5] (fun v8 wr => ∃ k : Nat, v8 = .int .i64 (k : Int) ∧ (k : Int) ≤ n ∧ Hid (ruleN m s = idxF (fun r => r.1.toList == s.toList) k (m.ru.drop k)) ∧ wr = w1) (fun v8 _ => n - (intOf v8).toNat)
  case atStart => exact ⟨0, rfl, by omega, Lib.hid (by rw [List.drop_zero]; rfl), (by first | trivial | rfl)⟩
  case round =>
    obtain ⟨k, rfl, hk, HQ, rfl⟩ := hrel
    by_cases hlt : (k : Int) < n
    · obtain ⟨x, hx⟩ : ∃ x, m.ru[k]? = some x := ⟨_, List.getElem?_eq_getElem (by have := HN.out; omega)⟩
      have HD := Lib.hid (show m.ru.drop k = x :: m.ru.drop (k + 1) from by
        obtain ⟨h1, h2⟩ := List.getElem?_eq_some_iff.1 hx
        rw [List.drop_eq_getElem_cons h1, h2])
      obtain ⟨b, off, k2, kc2, hro, hb, _, c0, -⟩ := HX.out k x hx
      rw [hro] at zA
      have hw1 : IntKind.i64.wrap ((k : Int) + 1) = (k : Int) + 1 := by rw [IntKind.wrap_i64]; omega
      obtain ⟨z, hz⟩ : ∃ z, (x.1.toList == s.toList) = z := ⟨_, rfl⟩
      have HZ := Lib.hid (show ruleN m s = if z = true then (k : Int) else idxF (fun r => r.1.toList == s.toList) (k + 1) (m.ru.drop (k + 1)) from by rw [HQ.out, HD.out, ← hz]; rfl)
      clear hx HD HQ hro
      cases z
      · go_wp2
        go_roundw
        case rel => exact ⟨k + 1, by go_num, by omega, Lib.hid (HZ.out.trans (if_neg (by decide))), (by first | trivial | rfl)⟩
        case measure => simp [intOf]; omega
      · have HE := Lib.hid (HZ.out.trans (if_pos rfl))
        go_wp2
        go_ret
        exact ⟨ret_int HE.out.symm, HB.out⟩
    · have HE := Lib.hid (show ruleN m s = -1 from by rw [HQ.out, List.drop_eq_nil_of_le (by have := HN.out; omega)]; rfl)
      have hlt' : decide ((k : Int) < n) = false := decide_eq_false hlt
      go_wp2
      go_ret
      exact ⟨ret_int HE.out.symm, HB.out⟩
end Go.Proofs.Ytgikhkjnemglbaa
