/- Expressions that the call itself has laid: in which blocks they lie. No program in sight. The law's own word great of layer 8. -/
import Derived.Test.YtonknapfndaalaaGl
import Derived.Test.YtonknapfndaalaaGe
import Derived.Test.YtonknapfndaalaaWrtR
namespace Go.Proofs.Ytonknapfndaalaa
set_option linter.unusedVariables false
set_option maxRecDepth 1000000
open Go.RowKit
def exrow (x : Ex) (ko : Option Addr) (kc : Nat) : List Value := [.int .i64 x.op, .string x.text, .int .u64 x.s0, .int .u64 x.s1, .int .u64 x.s2, .int .u64 x.s3, .slice ko x.kids.length kc]
/-- As HasK; the blocks are of R. -/
def HasR (R : Nat → Prop) (w : World) : Nat → Option Addr → List Ex → Prop
 | 0, _, K => K = []
 | n + 1, ao, K => ∀ (k : Nat) (x : Ex), K[k]? = some x → ∃ g off ko kc, ao = some ⟨g, off, none⟩ ∧ R g ∧ g < w.heap.size ∧
   w.cell? ⟨g, off + k * 7, none⟩ = some (.int .i64 x.op) ∧ w.cell? ⟨g, off + k * 7 + 1, none⟩ = some (.string x.text) ∧
   w.cell? ⟨g, off + k * 7 + 2, none⟩ = some (.int .u64 x.s0) ∧ w.cell? ⟨g, off + k * 7 + 3, none⟩ = some (.int .u64 x.s1) ∧
   w.cell? ⟨g, off + k * 7 + 4, none⟩ = some (.int .u64 x.s2) ∧ w.cell? ⟨g, off + k * 7 + 5, none⟩ = some (.int .u64 x.s3) ∧
   w.cell? ⟨g, off + k * 7 + 6, none⟩ = some (.slice ko x.kids.length kc) ∧ HasR R w n ko x.kids
section
variable {R S T : Nat → Prop} {w w' : World}
theorem HasR.keep (hb : But T w w') (hd : ∀ g, g < w.heap.size → R g → ¬ T g) : ∀ {n : Nat} {ao : Option Addr} {K : List Ex}, HasR R w n ao K → HasR R w' n ao K
 | 0, _, _, h => h
 | n + 1, ao, K, h => fun k x hk => by
  obtain ⟨g, off, ko, kc, e, hR, hg, c0, c1, c2, c3, c4, c5, c6, hr⟩ := h k x hk
  have t : ¬ T g := hd g hg hR
  exact ⟨g, off, ko, kc, e, hR, Nat.lt_of_lt_of_le hg hb.size, hb.cell (p := ⟨g, off + k * 7, none⟩) t c0, hb.cell (p := ⟨g, off + k * 7 + 1, none⟩) t c1, hb.cell (p := ⟨g, off + k * 7 + 2, none⟩) t c2,
   hb.cell (p := ⟨g, off + k * 7 + 3, none⟩) t c3, hb.cell (p := ⟨g, off + k * 7 + 4, none⟩) t c4, hb.cell (p := ⟨g, off + k * 7 + 5, none⟩) t c5, hb.cell (p := ⟨g, off + k * 7 + 6, none⟩) t c6, HasR.keep hb hd hr⟩
theorem HasR.has : ∀ {n : Nat} {ao : Option Addr} {K : List Ex}, HasR R w n ao K → HasK w n ao K
 | 0, _, _, h => h
 | n + 1, ao, K, h => fun k x hk => by
  obtain ⟨g, off, ko, kc, e, hR, hg, c0, c1, c2, c3, c4, c5, c6, hr⟩ := h k x hk
  exact ⟨g, off, ko, kc, e, hg, c0, c1, c2, c3, c4, c5, c6, hr.has⟩
theorem HasR.nil (R : Nat → Prop) (w : World) (n : Nat) (ao : Option Addr) : HasR R w n ao [] := by
 cases n with
 | zero => rfl
 | succ n => intro k x h; simp at h
theorem HasR.one {t : TypeId} {g n kc : Nat} {x : Ex} {ko : Option Addr} (h : Own w g t (exrow x ko kc)) (hR : R g) (hk : HasR R w n ko x.kids) : HasR R w (n + 1) (some ⟨g, 0, none⟩) [x] := fun k y hy => by
 match k, hy with
 | 0, hy =>
  simp at hy; subst hy
  exact ⟨g, 0, ko, kc, rfl, hR, h.lt, h.cell 0, h.cell 1, h.cell 2, h.cell 3, h.cell 4, h.cell 5, h.cell 6, hk⟩
 | k + 1, hy => simp at hy
end
theorem HasK.one {w : World} {t : TypeId} {g n kc : Nat} {x : Ex} {ko : Option Addr} (h : Own w g t (exrow x ko kc)) (hk : HasK w n ko x.kids) : HasK w (n + 1) (some ⟨g, 0, none⟩) [x] := fun k y hy => by
 match k, hy with
 | 0, hy =>
  simp at hy; subst hy
  exact ⟨g, 0, ko, kc, rfl, h.lt, h.cell 0, h.cell 1, h.cell 2, h.cell 3, h.cell 4, h.cell 5, h.cell 6, hk⟩
 | k + 1, hy => simp at hy
theorem HasK.two {w : World} {t : TypeId} {g n kc lc : Nat} {x y : Ex} {ko lo : Option Addr} (h : Own w g t (exrow x ko kc ++ exrow y lo lc)) (hk : HasK w n ko x.kids) (hl : HasK w n lo y.kids) : HasK w (n + 1) (some ⟨g, 0, none⟩) [x, y] := fun k z hz => by
 match k, hz with
 | 0, hz =>
  simp at hz; subst hz
  exact ⟨g, 0, ko, kc, rfl, h.lt, h.cell 0, h.cell 1, h.cell 2, h.cell 3, h.cell 4, h.cell 5, h.cell 6, hk⟩
 | 1, hz =>
  simp at hz; subst hz
  exact ⟨g, 0, lo, lc, rfl, h.lt, h.cell 7, h.cell 8, h.cell 9, h.cell 10, h.cell 11, h.cell 12, h.cell 13, hl⟩
 | k + 2, hz => simp at hz
end Go.Proofs.Ytonknapfndaalaa

namespace Go.Proofs.Ytonknapfndaalaa
set_option linter.unusedVariables false
set_option maxRecDepth 1000000
open Go.RowKit Go.Sort
theorem any_snoc {f : Ex → Bool} {K : List Ex} {k : Nat} {y : Ex} (h : K[k]? = some y) : (K.take (k + 1)).any f = ((K.take k).any f || f y) := by
 have hk := (List.getElem?_eq_some_iff.1 h).1
 have e : K[k] = y := (List.getElem?_eq_some_iff.1 h).2
 rw [List.take_succ_eq_append_getElem hk, List.any_append, e]; simp
theorem any_yes {f : Ex → Bool} {K : List Ex} {k : Nat} {y : Ex} (h : K[k]? = some y) (hf : f y = true) : K.any f = true := List.any_eq_true.2 ⟨y, List.mem_of_getElem? h, hf⟩
theorem HasK.kid {w : World} {m : Nat} {ao : Option Addr} {K : List Ex} {k : Nat} {y : Ex} (h : HasK w m ao K) (hy : K[k]? = some y) : ∃ j g off ko kc, m = j + 1 ∧ ao = some ⟨g, off, none⟩ ∧ g < w.heap.size ∧
   w.cell? ⟨g, off + k * 7, none⟩ = some (.int .i64 y.op) ∧ w.cell? ⟨g, off + k * 7 + 1, none⟩ = some (.string y.text) ∧
   w.cell? ⟨g, off + k * 7 + 2, none⟩ = some (.int .u64 y.s0) ∧ w.cell? ⟨g, off + k * 7 + 3, none⟩ = some (.int .u64 y.s1) ∧
   w.cell? ⟨g, off + k * 7 + 4, none⟩ = some (.int .u64 y.s2) ∧ w.cell? ⟨g, off + k * 7 + 5, none⟩ = some (.int .u64 y.s3) ∧
   w.cell? ⟨g, off + k * 7 + 6, none⟩ = some (.slice ko y.kids.length kc) ∧ HasK w j ko y.kids := by
 cases m with
 | zero =>
  have h0 : K = [] := h
  subst h0
  simp at hy
 | succ j =>
  obtain ⟨g, off, ko, kc, r⟩ := h k y hy
  exact ⟨j, g, off, ko, kc, rfl, r⟩
set_option maxRecDepth 100000 in
set_option maxHeartbeats 3200000 in
theorem great_any : ∀ (n : Nat) (d : Int) (hd : d + n = 17 ∧ 0 ≤ d) (m : Nat) (x : Ex) (ko : Option Addr) (kc : Nat) (w : World), HasK w m ko x.kids →
  Calls Try.prog 13 #[exv x ko kc, .int .i64 d] w fun e w' => e = .returned (.bool (grt n x)) ∧ Below w.heap.size w w'
 | 0, d, hd, m, x, ko, kc, w, hK => by
  obtain rfl : d = 17 := by omega
  unfold exv
  go_enter Try.func13, Try.ntmps13
  go_wp2
  go_ret
  exact ⟨rfl, below_box _ _⟩
 | n + 1, d, hd, m, .mk o t a b c e0 K, ko, kc, w, hK => by
  have IH := Lib.hid (fun (d : Int) (hd : d + n = 17 ∧ 0 ≤ d) (m : Nat) (y : Ex) (ao : Option Addr) (c : Nat) (W : World) => great_any n d hd m y ao c W)
  have HK := Lib.hid hK
  have hd0 : 0 ≤ d := hd.2
  unfold exv
  simp only [Ex.kids, Ex.op, Ex.text, Ex.s0, Ex.s1, Ex.s2, Ex.s3] at HK ⊢
  clear hK
  obtain ⟨q, hq⟩ : ∃ q, K.length = q := ⟨_, rfl⟩
  have HQ := Lib.hid hq
  have HS := Lib.hid (show grt (n + 1) (.mk o t a b c e0 K) = (decide (8 < q) || decide (60 < t.size) || K.any (grt n)) from by rw [← hq]; rfl)
  rw [hq]
  clear hq
  have HB0 := Lib.hid (below_box w (.cells #[.int .i64 o, .string t, .int .u64 a, .int .u64 b, .int .u64 c, .int .u64 e0, .slice ko q kc] 28))
  have HP := Lib.hid (Own.fresh w 28 [.int .i64 o, .string t, .int .u64 a, .int .u64 b, .int .u64 c, .int .u64 e0, .slice ko q kc])
  have hd2 : d ≤ 16 := by omega
  by_cases h1 : 8 < q
  ·
   have HE := Lib.hid (show grt (n + 1) (.mk o t a b c e0 K) = true by rw [HS.out, decide_eq_true h1]; rfl)
   clear HS
   go_enter Try.func13, Try.ntmps13
   go_wp2
   go_ret
   exact ⟨ret_bool HE.out.symm, HB0.out⟩
  ·
   by_cases h2 : 60 < t.size
   ·
    have HE := Lib.hid (show grt (n + 1) (.mk o t a b c e0 K) = true by rw [HS.out, decide_eq_true h2]; simp)
    clear HS
    go_enter Try.func13, Try.ntmps13
    go_wp2
    go_ret
    exact ⟨ret_bool HE.out.symm, HB0.out⟩
   ·
    have HS2 := Lib.hid (show grt (n + 1) (.mk o t a b c e0 K) = K.any (grt n) by rw [HS.out, decide_eq_false h1, decide_eq_false h2]; rfl)
    clear HS
    go_enter Try.func13, Try.ntmps13
    go_wp2_with fail
    go_loopw [5] (fun b9 wr => ∃ k : Nat, b9 = .int .i64 (k : Int) ∧ (k : Int) ≤ q ∧ Hid ((K.take k).any (grt n) = false) ∧ Hid (Below w.heap.size w wr) ∧ Hid (Own wr w.heap.size 28 [.int .i64 o, .string t, .int .u64 a, .int .u64 b, .int .u64 c, .int .u64 e0, .slice ko q kc]))
     (fun b9 _ => q - (intOf b9).toNat)
    case atStart => exact ⟨0, rfl, by omega, Lib.hid rfl, HB0, HP⟩
    case round =>
     obtain ⟨k, rfl, hk2, HA, HB, HP1⟩ := hrel
     clear HB0 HP
     have p6 : wr.cell? ⟨w.heap.size, 6, none⟩ = some (.slice ko q kc) := HP1.out.cell 6
     by_cases h3 : (k : Int) < q
     ·
      obtain ⟨y, hy⟩ : ∃ y, K[k]? = some y := ⟨_, List.getElem?_eq_getElem (by have := HQ.out; omega)⟩
      obtain ⟨j, g, off, kk, kd, rfl, rfl, hg, c0, c1, c2, c3, c4, c5, c6, hr⟩ := HK.out.kid hy
      have HR := Lib.hid hr
      have HY1 := Lib.hid hy
      obtain ⟨z, hz⟩ : ∃ z, grt n y = z := ⟨_, rfl⟩
      have HZ := Lib.hid hz
      have u0 := keepc c0 HB.out
      have u1 := keepc c1 HB.out
      have u2 := keepc c2 HB.out
      have u3 := keepc c3 HB.out
      have u4 := keepc c4 HB.out
      have u5 := keepc c5 HB.out
      have u6 := keepc c6 HB.out
      have hgr : g < wr.heap.size := Nat.lt_of_lt_of_le hg HB.out.size
      clear hr hy hz c0 c1 c2 c3 c4 c5 c6 hg
      go_wp2_with fail
      refine (IH.out (d + 1) (by omega) j y kk kd _ (HasK.below HB.out HR.out)).mono ?_
      rintro e w1 ⟨rfl, hb1⟩
      rw [HZ.out]
      have HB1 := Lib.hid (keepb HB.out hb1)
      have HP2 := Lib.hid (HP1.out.under hb1 HP1.out.lt)
      clear hb1 u0 u1 u2 u3 u4 u5 u6 p6
      cases z
      ·
       have HA1 := Lib.hid (show (K.take (k + 1)).any (grt n) = false by rw [any_snoc HY1.out, HA.out, HZ.out]; rfl)
       go_wp2
       go_roundw
       case rel => exact ⟨k + 1, by go_num, by omega, HA1, HB1, HP2⟩
       case measure => simp [intOf]; omega
      ·
       go_wp2
       go_ret
       exact ⟨ret_bool (by rw [HS2.out, any_yes HY1.out HZ.out]), HB1.out⟩
     ·
      obtain rfl : k = q := by omega
      have HE := Lib.hid (show grt (n + 1) (.mk o t a b c e0 K) = false by
       have h := HA.out; rw [← HQ.out, List.take_length] at h
       rw [HS2.out, h])
      go_wp2
      go_ret
      exact ⟨ret_bool HE.out.symm, HB.out⟩
end Go.Proofs.Ytonknapfndaalaa
