/- The walks of Same, of the program's and the reference's. -/
import Derived.Test.YtonknapfndaalaaGv
import Derived.Test.YtonknapfndaalaaGl
import Derived.Test.YtonknapfndaalaaGq
import Derived.Deep.RegionLaw
import Derived.Deep.Cut
namespace Go.Proofs.Ytonknapfndaalaa
set_option linter.unusedVariables false
set_option maxRecDepth 1000000
open Go.RowKit Go.Sort
def allS (f : Ex → Ex → Bool) : List Ex → List Ex → Bool
 | [], [] => true
 | a :: l, b :: m => f a b && allS f l m
 | _, _ => false
theorem allS_yes {f : Ex → Ex → Bool} : ∀ {K L : List Ex}, K.length = L.length → (∀ (j : Nat) (a b : Ex), K[j]? = some a → L[j]? = some b → f a b = true) → allS f K L = true
 | [], [], _, _ => rfl
 | a :: l, b :: m, hl, h => by
  unfold allS
  rw [h 0 a b rfl rfl, allS_yes (by simpa using hl) (fun j x y hx hy => h (j + 1) x y (by simpa using hx) (by simpa using hy))]; rfl
 | [], _ :: _, hl, _ => by simp at hl
 | _ :: _, [], hl, _ => by simp at hl
theorem allS_no {f : Ex → Ex → Bool} {a b : Ex} (hf : f a b = false) : ∀ {j : Nat} {K L : List Ex}, K[j]? = some a → L[j]? = some b → allS f K L = false
 | 0, x :: l, y :: m, hx, hy => by
  simp at hx hy; subst hx hy
  unfold allS; rw [hf]; rfl
 | j + 1, x :: l, y :: m, hx, hy => by
  unfold allS
  rw [allS_no hf (j := j) (by simpa using hx) (by simpa using hy)]; simp
 | j, [], _, hx, _ => by simp at hx
 | j, _ :: _, [], _, hy => by simp at hy
def hdrS (x y : Ex) : Bool := x.op == y.op && x.text.toList == y.text.toList && (x.s0 == y.s0 && x.s1 == y.s1 && x.s2 == y.s2 && x.s3 == y.s3) && x.kids.length == y.kids.length
def sameX : Nat → Ex → Ex → Bool
 | 0, _, _ => false
 | n + 1, x, y => hdrS x y && allS (sameX n) x.kids y.kids
theorem sameX_succ (n : Nat) (x y : Ex) : sameX (n + 1) x y = (hdrS x y && allS (sameX n) x.kids y.kids) := rfl
theorem toList_eq {s t : ByteArray} (h : s.toList = t.toList) : s = t := by
 rw [ByteArray.toList_eq, ByteArray.toList_eq] at h
 obtain ⟨⟨x⟩⟩ := s
 obtain ⟨⟨y⟩⟩ := t
 simp at h; rw [h]
set_option maxRecDepth 100000 in
set_option maxHeartbeats 3200000 in
theorem rsame_any : ∀ (n : Nat) (x y : Ex) (k1 k2 : Option Addr) (kc lc : Nat) (w : World), fit 90001 n x = true → fit 90001 n y = true → HasK w n k1 x.kids → HasK w n k2 y.kids →
  Calls Try.prog 10 #[exv x k1 kc, exv y k2 lc] w fun e w' => e = .returned (.bool (sameX n x y)) ∧ Below w.heap.size w w'
 | 0, x, _, _, _, _, _, _, h, _, _, _ => by cases h
 | n + 1, .mk o1 t1 a1 b1 c1 d1 K, .mk o2 t2 a2 b2 c2 d2 L, k1, k2, kc, lc, w, hf, hg, hK, hL => by
  have IH := Lib.hid (fun (x y : Ex) (ao bo : Option Addr) (c d : Nat) (W : World) => rsame_any n x y ao bo c d W)
  have HS := Lib.hid (sameX_succ n (.mk o1 t1 a1 b1 c1 d1 K) (.mk o2 t2 a2 b2 c2 d2 L))
  have HD := Lib.hid (show hdrS (.mk o1 t1 a1 b1 c1 d1 K) (.mk o2 t2 a2 b2 c2 d2 L) = (o1 == o2 && t1.toList == t2.toList && (a1 == a2 && b1 == b2 && c1 == c2 && d1 == d2) && K.length == L.length) from rfl)
  have hl1 := fit_len hf
  have hl2 := fit_len hg
  have HK := Lib.hid hK
  have HL := Lib.hid hL
  have HF := Lib.hid hf
  have HG := Lib.hid hg
  unfold exv
  simp only [Ex.kids, Ex.op, Ex.text, Ex.s0, Ex.s1, Ex.s2, Ex.s3] at hl1 hl2 HK HL HS ⊢
  clear hK hL hf hg
  obtain ⟨m, hm⟩ : ∃ m, K.length = m := ⟨_, rfl⟩
  obtain ⟨m2, hm2⟩ : ∃ m2, L.length = m2 := ⟨_, rfl⟩
  have HM := Lib.hid hm
  have HM2 := Lib.hid hm2
  rw [hm] at hl1 ⊢
  rw [hm2] at hl2 ⊢
  clear hm hm2
  have two : ∀ A B : Obj, Below w.heap.size w ((w.alloc A).alloc B) := fun A B => ((Below.refl _ _).alloc (Nat.le_refl _) _).alloc (by simp) _
  have H2 := Lib.hid two
  clear two
  by_cases e1 : o1 = o2
  ·
   subst e1
   by_cases e2 : t1.toList = t2.toList
   ·
    have e2' := toList_eq e2
    clear e2
    subst e2'
    by_cases e3 : ((a1 = a2 ∧ b1 = b2) ∧ c1 = c2) ∧ d1 = d2
    ·
     obtain ⟨⟨⟨rfl, rfl⟩, rfl⟩, rfl⟩ := e3
     by_cases e4 : m = m2
     ·
      subst e4
      have HT := Lib.hid (show hdrS (.mk o1 t1 a1 b1 c1 d1 K) (.mk o1 t1 a1 b1 c1 d1 L) = true by rw [HD.out, HM.out, HM2.out]; simp)
      clear HD
      have hb0 := H2.out (.cells #[.int .i64 o1, .string t1, .int .u64 a1, .int .u64 b1, .int .u64 c1, .int .u64 d1, .slice k1 m kc] 28) (.cells #[.int .i64 o1, .string t1, .int .u64 a1, .int .u64 b1, .int .u64 c1, .int .u64 d1, .slice k2 m lc] 28)
      have HO1 := Lib.hid ((Own.fresh w 28 [.int .i64 o1, .string t1, .int .u64 a1, .int .u64 b1, .int .u64 c1, .int .u64 d1, .slice k1 m kc]).on_alloc (.cells #[.int .i64 o1, .string t1, .int .u64 a1, .int .u64 b1, .int .u64 c1, .int .u64 d1, .slice k2 m lc] 28))
      have HO2 := Lib.hid (show Own ((w.alloc (.cells #[.int .i64 o1, .string t1, .int .u64 a1, .int .u64 b1, .int .u64 c1, .int .u64 d1, .slice k1 m kc] 28)).alloc (.cells #[.int .i64 o1, .string t1, .int .u64 a1, .int .u64 b1, .int .u64 c1, .int .u64 d1, .slice k2 m lc] 28)) (w.heap.size + 1) 28 [.int .i64 o1, .string t1, .int .u64 a1, .int .u64 b1, .int .u64 c1, .int .u64 d1, .slice k2 m lc] by have h := Own.fresh (w.alloc (.cells #[.int .i64 o1, .string t1, .int .u64 a1, .int .u64 b1, .int .u64 c1, .int .u64 d1, .slice k1 m kc] 28)) 28 [.int .i64 o1, .string t1, .int .u64 a1, .int .u64 b1, .int .u64 c1, .int .u64 d1, .slice k2 m lc]; rw [World.size_alloc] at h; exact h)
      have HB0 := Lib.hid hb0
      clear H2 hb0
      go_enter Try.func10, Try.ntmps10
      go_wp2_with fail
      go_loopw [5] (fun b5 wr => ∃ k : Nat, b5 = .int .i64 (k : Int) ∧ (k : Int) ≤ m ∧ Hid (∀ (j : Nat) (a b : Ex), j < k → K[j]? = some a → L[j]? = some b → sameX n a b = true) ∧ Hid (Below w.heap.size w wr) ∧ Hid (Own wr w.heap.size 28 [.int .i64 o1, .string t1, .int .u64 a1, .int .u64 b1, .int .u64 c1, .int .u64 d1, .slice k1 m kc]) ∧ Hid (Own wr (w.heap.size + 1) 28 [.int .i64 o1, .string t1, .int .u64 a1, .int .u64 b1, .int .u64 c1, .int .u64 d1, .slice k2 m lc]))
       (fun b5 _ => m - (intOf b5).toNat)
      case atStart => exact ⟨0, rfl, by omega, Lib.hid (fun j a b h => by omega), HB0, HO1, HO2⟩
      case round =>
       obtain ⟨k, rfl, hk2, HQ, HB, P1, P2⟩ := hrel
       clear HB0 HO1 HO2
       have p1 : wr.cell? ⟨w.heap.size, 6, none⟩ = some (.slice k1 m kc) := P1.out.cell 6
       have p2 : wr.cell? ⟨w.heap.size + 1, 6, none⟩ = some (.slice k2 m lc) := P2.out.cell 6
       by_cases h2 : (k : Int) < m
       ·
        obtain ⟨y, hy⟩ : ∃ y, K[k]? = some y := ⟨_, List.getElem?_eq_getElem (by have := HM.out; omega)⟩
        obtain ⟨z, hz⟩ : ∃ z, L[k]? = some z := ⟨_, List.getElem?_eq_getElem (by have := HM2.out; omega)⟩
        obtain ⟨g, off, kk, kd, rfl, hg, u0, u1, u2, u3, u4, u5, u6, hr⟩ := HK.out k y hy
        obtain ⟨g', off', kk', kd', rfl, hg', v0, v1, v2, v3, v4, v5, v6, hr'⟩ := HL.out k z hz
        have HR := Lib.hid hr
        have HR' := Lib.hid hr'
        have HFY := Lib.hid (fit_kid HF.out hy)
        have HFZ := Lib.hid (fit_kid HG.out hz)
        obtain ⟨bb, hbb⟩ : ∃ bb, sameX n y z = bb := ⟨_, rfl⟩
        have HBB := Lib.hid hbb
        have HYZ := Lib.hid (And.intro hy hz)
        clear hr hr' hy hz hbb
        have e0 := keepc u0 HB.out
        have f0 := keepc v0 HB.out
        have e1 := keepc u1 HB.out
        have f1 := keepc v1 HB.out
        have e2 := keepc u2 HB.out
        have f2 := keepc v2 HB.out
        have e3 := keepc u3 HB.out
        have f3 := keepc v3 HB.out
        have e4 := keepc u4 HB.out
        have f4 := keepc v4 HB.out
        have e5 := keepc u5 HB.out
        have f5 := keepc v5 HB.out
        have e6 := keepc u6 HB.out
        have f6 := keepc v6 HB.out
        have hgr : g < wr.heap.size := Nat.lt_of_lt_of_le hg HB.out.size
        have hgr' : g' < wr.heap.size := Nat.lt_of_lt_of_le hg' HB.out.size
        clear u0 u1 u2 u3 u4 u5 u6 v0 v1 v2 v3 v4 v5 v6 hg hg'
        cases bb
        ·
         have HN := Lib.hid (show sameX (n + 1) (.mk o1 t1 a1 b1 c1 d1 K) (.mk o1 t1 a1 b1 c1 d1 L) = false by rw [HS.out, allS_no HBB.out HYZ.out.1 HYZ.out.2]; simp)
         go_upto_region 6 with fail
         go_region_law ((go_simp; go_at_call 10; refine (IH.out y z kk kk' kd kd' _ HFY.out HFZ.out (HasK.below (HB.out.trans ((Below.refl _ _).drew)) HR.out) (HasK.below (HB.out.trans ((Below.refl _ _).drew)) HR'.out)).mono ?_; rintro e w1 ⟨rfl, hb1⟩; rw [HBB.out]; have HB1 := Lib.hid (keepb (HB.out.trans ((Below.refl _ _).drew)) hb1); clear hb1 e0 e1 e2 e3 e4 e5 e6 f0 f1 f2 f3 f4 f5 f6 p1 p2))
         all_goals go_wp2
         all_goals go_ret
         all_goals exact ⟨ret_bool HN.out.symm, HB1.out⟩
        ·
         have HQ1 : Hid (∀ (j : Nat) (a b : Ex), j < k + 1 → K[j]? = some a → L[j]? = some b → sameX n a b = true) := Lib.hid (fun j a b hj ha hb => by
          by_cases e : j = k
          ·
           subst e
           rw [HYZ.out.1] at ha; rw [HYZ.out.2] at hb
           cases ha; cases hb
           exact HBB.out
          ·
           exact HQ.out j a b (by omega) ha hb)
         go_upto_region 6 with fail
         go_region_law ((go_simp; go_at_call 10; refine (IH.out y z kk kk' kd kd' _ HFY.out HFZ.out (HasK.below (HB.out.trans ((Below.refl _ _).drew)) HR.out) (HasK.below (HB.out.trans ((Below.refl _ _).drew)) HR'.out)).mono ?_; rintro e w1 ⟨rfl, hb1⟩; rw [HBB.out]; have HB1 := Lib.hid (keepb (HB.out.trans ((Below.refl _ _).drew)) hb1); have Q1 := Lib.hid (P1.out.on_drew.under hb1 P1.out.on_drew.lt); have Q2 := Lib.hid (P2.out.on_drew.under hb1 P2.out.on_drew.lt); clear hb1 e0 e1 e2 e3 e4 e5 e6 f0 f1 f2 f3 f4 f5 f6 p1 p2))
         all_goals go_wp2
         all_goals go_roundw
         all_goals first
          | (case rel => exact ⟨k + 1, by go_num, by omega, HQ1, HB1, Q1, Q2⟩)
          | skip
         all_goals (simp [intOf]; omega)
       ·
        obtain rfl : k = m := by omega
        have HE := Lib.hid (show sameX (n + 1) (.mk o1 t1 a1 b1 c1 d1 K) (.mk o1 t1 a1 b1 c1 d1 L) = true by
         rw [HS.out, HT.out, allS_yes (by rw [HM.out, HM2.out]) (fun j a b ha hb => HQ.out j a b (by have := (List.getElem?_eq_some_iff.1 ha).1; have := HM.out; omega) ha hb)]; rfl)
        go_wp2
        go_ret
        exact ⟨ret_bool HE.out.symm, HB.out⟩
     ·
      have HE := Lib.hid (show sameX (n + 1) (.mk o1 t1 a1 b1 c1 d1 K) (.mk o1 t1 a1 b1 c1 d1 L) = false by rw [HS.out, HD.out, HM.out, HM2.out, beq_eq_false_iff_ne.2 e4]; simp)
      have hne : ((m : Int) != (m2 : Int)) = true := by rw [bne_iff_ne]; omega
      clear HS HD
      go_enter Try.func10, Try.ntmps10
      go_wp2
      go_ret
      exact ⟨ret_bool HE.out.symm, H2.out _ _⟩
    ·
     have HE := Lib.hid (show sameX (n + 1) (.mk o1 t1 a1 b1 c1 d1 K) (.mk o1 t1 a2 b2 c2 d2 L) = false by
      rw [HS.out, HD.out]
      have : (a1 == a2 && b1 == b2 && c1 == c2 && d1 == d2) = false := by
       rw [Bool.eq_false_iff]; intro h; apply e3; simpa [Bool.and_eq_true, and_assoc] using h
      rw [this]; simp)
     clear HS HD
     go_enter Try.func10, Try.ntmps10
     go_wp2
     go_ret
     exact ⟨ret_bool HE.out.symm, H2.out _ _⟩
   ·
    have HE := Lib.hid (show sameX (n + 1) (.mk o1 t1 a1 b1 c1 d1 K) (.mk o1 t2 a2 b2 c2 d2 L) = false by rw [HS.out, HD.out, beq_eq_false_iff_ne.2 e2]; simp)
    clear HS HD
    go_enter Try.func10, Try.ntmps10
    go_wp2
    go_ret
    exact ⟨ret_bool HE.out.symm, H2.out _ _⟩
  ·
   have HE := Lib.hid (show sameX (n + 1) (.mk o1 t1 a1 b1 c1 d1 K) (.mk o2 t2 a2 b2 c2 d2 L) = false by rw [HS.out, HD.out, beq_eq_false_iff_ne.2 e1]; simp)
   clear HS HD
   go_enter Try.func10, Try.ntmps10
   go_wp2
   go_ret
   exact ⟨ret_bool HE.out.symm, H2.out _ _⟩
end Go.Proofs.Ytonknapfndaalaa
