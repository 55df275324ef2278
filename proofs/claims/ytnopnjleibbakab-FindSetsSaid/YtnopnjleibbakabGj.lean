/- What queries lead to: is a node as a step asks: the walk of is. What queries lead to: the how-manieth: the walk of nth. -/
import Derived.Test.YtnopnjleibbakabFndA
import Derived.Test.YtnopnjleibbakabQryP
import Derived.Test.YtnopnjleibbakabShelf
import Derived.Lib.IndexMore
import Derived.Deep.DeepCutAuto
namespace Go.Proofs.Ytnopnjleibbakab
set_option linter.unusedVariables false
open Go.RowKit Go.Sort

/-- The library's variable holds some number. -/
def Mx (w : World) : Prop := ∃ m : Int, w.cell? ⟨0, 0, none⟩ = some (.int .i64 m)
theorem Mx.below {w w' : World} (h : Mx w) (hb : Below w.heap.size w w') : Mx w' := by obtain ⟨m, hm⟩ := h; exact ⟨m, keepc hm hb⟩
theorem contains_any (s sub : ByteArray) (hs : s.size ≤ 1000000) (w : World) (hm : Mx w) : Calls Try.prog 36 #[.string s, .string sub] w fun e w' => e = .returned (.bool (Lib.contains s.data.toList sub.data.toList)) ∧ w' = w := by
  obtain ⟨m, hm⟩ := hm
  exact Try.strings_Contains s sub m w (by omega) hm
def kindB (l : Nodes) (i : Nat) (x : Hp) : Bool := x.kd == 0 || l.kd i == x.kd
def nameB (l : Nodes) (i : Nat) (x : Hp) : Bool := x.nm.toList.isEmpty || ((l.kd i == 1 || l.kd i == 2) && (l.nm i).toList == x.nm.toList)
def textB (l : Nodes) (s : ByteArray) (i : Nat) (x : Hp) : Bool := (x.is.toList.isEmpty || (nodeT l s i).toList == x.is.toList) && Lib.contains (nodeT l s i).data.toList x.has.data.toList
def isB (l : Nodes) (s : ByteArray) (i : Nat) (x : Hp) : Bool := kindB l i x && nameB l i x && textB l s i x
theorem nodeT_size (l : Nodes) (s : ByteArray) (i : Int) : (nodeT l s i).size ≤ s.size := by
  unfold nodeT
  split
  · rw [ByteArray.size_extract]; omega
  · exact Nat.zero_le _

set_option maxRecDepth 1000000 in
set_option maxHeartbeats 3200000 in
theorem is_any (l : Nodes) (ao : Option Addr) (cap : Nat) (s : ByteArray) (hs : (s.size : Int) ≤ 1000) (i : Nat) (hi : i < l.n) (x : Hp) (B : Nat) (hn : (l.n : Int) ≤ 1000) (w : World) (hB : B ≤ w.heap.size) (hl : Has w ao B l) (hm : Mx w) :
    Calls Try.prog 24 #[.slice ao l.n cap, .string s, .int .i64 (i : Int), .agg #[.int .i64 x.ax, .int .i64 x.kd, .string x.nm, .string x.is, .string x.has, .int .i64 x.nth]] w fun e w' => e = .returned (.bool (isB l s i x)) ∧ Below w.heap.size w w' := by
  have HI := Lib.hid (show isB l s i x = (kindB l i x && nameB l i x && textB l s i x) from rfl)
  generalize isB l s i x = R at *
  obtain ⟨G1, hG1⟩ : ∃ G, kindB l i x = G := ⟨_, rfl⟩
  obtain ⟨G2, hG2⟩ : ∃ G, nameB l i x = G := ⟨_, rfl⟩
  rw [hG1, hG2] at HI
  have HG1 := Lib.hid hG1
  have HG2 := Lib.hid hG2
  have HT := Lib.hid (text_any l ao cap s hs (i : Int) B hn)
  have HTB := Lib.hid (show textB l s i x = ((x.is.toList.isEmpty || (nodeT l s i).toList == x.is.toList) && Lib.contains (nodeT l s i).data.toList x.has.data.toList) from rfl)
  have HTS := Lib.hid (nodeT_size l s i)
  generalize textB l s i x = TB at *
  obtain ⟨T, hT⟩ : ∃ T, nodeT l s i = T := ⟨_, rfl⟩
  rw [hT] at HT HTB HTS
  obtain ⟨b, off, rfl, hb, c0, c1, c2, c3, c4⟩ := hl i hi
  have HB0 := Lib.hid ((Below.refl w.heap.size w).alloc (Nat.le_refl _) (.cells #[.int .i64 x.ax, .int .i64 x.kd, .string x.nm, .string x.is, .string x.has, .int .i64 x.nth] 33))
  have HL := Lib.hid (show Has (w.alloc (.cells #[.int .i64 x.ax, .int .i64 x.kd, .string x.nm, .string x.is, .string x.has, .int .i64 x.nth] 33)) _ B l from hl.keep HB0.out hB)
  have HO := Lib.hid (Own.fresh w 33 [.int .i64 x.ax, .int .i64 x.kd, .string x.nm, .string x.is, .string x.has, .int .i64 x.nth])
  have HM := Lib.hid (hm.below ((Below.refl _ _).alloc (Nat.le_refl _) (.cells #[.int .i64 x.ax, .int .i64 x.kd, .string x.nm, .string x.is, .string x.has, .int .i64 x.nth] 33)))
  have d0 := keepc c0 HB0.out
  have d1 := keepc c1 HB0.out
  have hbw : b < w.heap.size := by omega
  have hi' : (i : Int) < l.n := by omega
  have hBS := Lib.hid hB
  obtain ⟨kd, hkd⟩ : ∃ k, l.kd i = k := ⟨_, rfl⟩
  obtain ⟨nm, hnm⟩ : ∃ k, l.nm i = k := ⟨_, rfl⟩
  rw [hkd] at d0
  rw [hnm] at d1
  unfold kindB at hG1
  unfold nameB at hG2
  rw [hkd] at hG1 hG2
  rw [hnm] at hG2
  have HK1 := Lib.hid hG1
  have HK2 := Lib.hid hG2
  clear hl hm c0 c1 c2 c3 c4 hG1 hG2 hT hkd hnm HG1 HG2 hB hb
  go_enter Try.func24, Try.ntmps24
  go_upto_region 1 with fail
  generalize World.alloc w _ = w1 at *
  obtain ⟨x0, x1, x2, x3, x4, x5, xg, -⟩ := HO.out.six
  have hbw1 : b < w1.heap.size := Nat.lt_of_lt_of_le hbw HB0.out.size
  go_upto_region 2 with fail
  go_cut [24] (fun c wx => c = .bool (!G1) ∧ w1 = wx)
  case first =>
    by_cases h1 : x.kd = 0
    · have e1 : (x.kd != 0) = false := by simp [h1]
      have e1' : (x.kd == 0) = true := by simp [h1]
      have HG := Lib.hid (show G1 = true by rw [← HK1.out]; rw [e1']; rfl)
      clear h1
      go_wp2_with fail
      go_meet
      exact ⟨by rw [HG.out]; rfl, rfl⟩
    · have e1 : (x.kd != 0) = true := by simp [h1]
      have e1' : (x.kd == 0) = false := by simp [h1]
      by_cases h2 : kd = x.kd
      · have e2 : (kd != x.kd) = false := by simp [h2]
        have e2' : (kd == x.kd) = true := by simp [h2]
        have HG := Lib.hid (show G1 = true by rw [← HK1.out]; rw [e1', e2']; rfl)
        clear h1 h2
        go_wp2_with fail
        go_meet
        exact ⟨by rw [HG.out]; rfl, rfl⟩
      · have e2 : (kd != x.kd) = true := by simp [h2]
        have e2' : (kd == x.kd) = false := by simp [h2]
        have HG := Lib.hid (show G1 = false by rw [← HK1.out]; rw [e1', e2']; rfl)
        clear h1 h2
        go_wp2_with fail
        go_meet
        exact ⟨by rw [HG.out]; rfl, rfl⟩
  case rest =>
    obtain ⟨rfl, rfl⟩ := hcut
    cases G1 with
    | false =>
      have HE := Lib.hid (show R = false by rw [HI.out]; rfl)
      go_wp2
      go_ret
      exact ⟨ret_bool HE.out.symm, HB0.out⟩
    | true =>
      go_upto_region 4 with fail
      go_cut [45] (fun c wx => c = .bool (!G2) ∧ ∃ n, wx = w1.drewN n)
      case first =>
        obtain ⟨z0, hz0⟩ : ∃ z, x.nm.toList.isEmpty = z := ⟨_, rfl⟩
        rw [hz0] at HK2
        cases z0 with
        | true =>
          have HG := Lib.hid (show G2 = true by rw [← HK2.out]; rfl)
          go_quiet (fail)
          go_wp2_with fail
          go_meet
          exact ⟨by rw [HG.out]; rfl, nq, rfl⟩
        | false =>
          obtain ⟨z1, hz1⟩ : ∃ z, (nm.toList == x.nm.toList) = z := ⟨_, rfl⟩
          rw [hz1] at HK2
          have hz1n : (nm.toList != x.nm.toList) = !z1 := by unfold bne; rw [hz1]
          by_cases q1 : kd = 1
          · have e1 : (kd == 1) = true := by simp [q1]
            have e1n : (kd != 1) = false := by simp [q1]
            rw [e1] at HK2
            clear q1
            cases z1 with
            | true =>
              have HG := Lib.hid (show G2 = true by rw [← HK2.out]; rfl)
              go_quiet (fail)
              go_wp2_with fail
              go_meet
              exact ⟨by rw [HG.out]; rfl, nq, rfl⟩
            | false =>
              have HG := Lib.hid (show G2 = false by rw [← HK2.out]; rfl)
              go_quiet (fail)
              go_wp2_with fail
              go_meet
              exact ⟨by rw [HG.out]; rfl, nq, rfl⟩
          · have e1 : (kd == 1) = false := by simp [q1]
            have e1n : (kd != 1) = true := by simp [q1]
            rw [e1] at HK2
            clear q1
            by_cases q2 : kd = 2
            · have e2 : (kd == 2) = true := by simp [q2]
              have e2n : (kd != 2) = false := by simp [q2]
              rw [e2] at HK2
              clear q2
              cases z1 with
              | true =>
                have HG := Lib.hid (show G2 = true by rw [← HK2.out]; rfl)
                go_quiet (fail)
                go_wp2_with fail
                go_meet
                exact ⟨by rw [HG.out]; rfl, nq, rfl⟩
              | false =>
                have HG := Lib.hid (show G2 = false by rw [← HK2.out]; rfl)
                go_quiet (fail)
                go_wp2_with fail
                go_meet
                exact ⟨by rw [HG.out]; rfl, nq, rfl⟩
            · have e2 : (kd == 2) = false := by simp [q2]
              have e2n : (kd != 2) = true := by simp [q2]
              rw [e2] at HK2
              clear q2
              have HG := Lib.hid (show G2 = false by rw [← HK2.out]; rfl)
              go_quiet (fail)
              go_wp2_with fail
              go_meet
              exact ⟨by rw [HG.out]; rfl, nq, rfl⟩
      case rest =>
        obtain ⟨rfl, nr, rfl⟩ := hcut
        cases G2 with
        | false =>
          have HE := Lib.hid (show R = false by rw [HI.out]; rfl)
          go_wp2
          go_ret
          exact ⟨ret_bool HE.out.symm, below_drewN HB0.out nr⟩
        | true =>
          have HO2 := Lib.hid (HO.out.on_drewN nr)
          have HB2 := Lib.hid (below_drewN HB0.out nr)
          have HL2 := Lib.hid (show Has (w1.drewN nr) _ B l from HL.out.keep (below_drewN (Below.refl w1.heap.size w1) nr) (Nat.le_trans hBS.out HB0.out.size))
          have HM2 := Lib.hid (show Mx (w1.drewN nr) from HM.out)
          clear HO HB0 HL HM x0 x1 x2 x3 x4 x5 xg d0 d1 hbw1
          have hsz : w1.heap.size = (w1.drewN nr).heap.size := rfl
          generalize w1.drewN nr = w2 at *
          go_wp2_with fail
          refine (HT.out _ (Nat.le_trans hBS.out HB2.out.size) HL2.out).mono ?_
          rintro e w3 ⟨rfl, hb3⟩
          have HO3 := Lib.hid (HO2.out.under hb3 HO2.out.lt)
          have HB3 := Lib.hid (keepb HB2.out hb3)
          have HM3 := Lib.hid (HM2.out.below hb3)
          clear hb3 HO2 HB2 HL2 HM2
          have HC := Lib.hid (contains_any T x.has (by have := HTS.out; omega) w3 HM3.out)
          generalize Lib.contains T.data.toList x.has.data.toList = cb at *
          obtain ⟨x0, x1, x2, x3, x4, x5, xg, -⟩ := HO3.out.six
          have HIT := Lib.hid (show R = TB from HI.out)
          obtain ⟨z0, hz0⟩ : ∃ z, x.is.toList.isEmpty = z := ⟨_, rfl⟩
          obtain ⟨z1, hz1⟩ : ∃ z, (T.toList == x.is.toList) = z := ⟨_, rfl⟩
          rw [hz0, hz1] at HTB
          cases z0 with
          | true =>
            go_wp2_with fail
            refine HC.out.mono ?_
            rintro e w4 ⟨rfl, rfl⟩
            go_wp2
            go_ret
            exact ⟨ret_bool (by rw [HIT.out, HTB.out]; rfl), HB3.out⟩
          | false =>
            cases z1 with
            | true =>
              go_wp2_with fail
              refine HC.out.mono ?_
              rintro e w4 ⟨rfl, rfl⟩
              go_wp2
              go_ret
              exact ⟨ret_bool (by rw [HIT.out, HTB.out]; rfl), HB3.out⟩
            | false =>
              go_wp2
              go_ret
              exact ⟨ret_bool (by rw [HIT.out, HTB.out]; rfl), HB3.out⟩
end Go.Proofs.Ytnopnjleibbakab

namespace Go.Proofs.Ytnopnjleibbakab
set_option linter.unusedVariables false
open Go.RowKit Go.Sort

def pickN (f : Int → Bool) (n : Int) : List Int → Int → List Int
  | [], _ => []
  | y :: L, c => if (if f y then c + 1 else c) = n then [y] else pickN f n L (if f y then c + 1 else c)
theorem pick_at {f : Int → Bool} {n c : Int} {L : List Int} {k : Nat} {y : Int} (h : L[k]? = some y) : pickN f n (L.drop k) c = if (if f y then c + 1 else c) = n then [y] else pickN f n (L.drop (k + 1)) (if f y then c + 1 else c) := by
  have hk := (List.getElem?_eq_some_iff.1 h).1
  have e : L[k] = y := (List.getElem?_eq_some_iff.1 h).2
  rw [List.drop_eq_getElem_cons hk, e]; rfl
theorem getD_of {L : List Int} {k : Nat} {y : Int} (h : L[k]? = some y) : L.getD k 0 = y := by rw [List.getD_eq_getElem?_getD, h]; rfl

set_option maxRecDepth 1000000 in
set_option maxHeartbeats 3200000 in
theorem fnth_any (l : Nodes) (ao : Option Addr) (cap : Nat) (s : ByteArray) (hs : (s.size : Int) ≤ 1000) (x : Hp) (hx : 0 < x.nth) (B : Nat) (hn : (l.n : Int) ≤ 1000) (v : Value) (L : List Int) (C : Nat) (hL : ∀ y ∈ L, 0 ≤ y ∧ y < l.n) (hLn : (L.length : Int) ≤ 1000)
    (w : World) (hB : B ≤ w.heap.size) (hl : Has w ao B l) (hm : Mx w) (hv : IntsAt w C v L) :
    Calls Try.prog 21 #[.slice ao l.n cap, .string s, v, .agg #[.int .i64 x.ax, .int .i64 x.kd, .string x.nm, .string x.is, .string x.has, .int .i64 x.nth]] w fun e w' => ∃ v', e = .returned v' ∧ IntsAt w' C v' (pickN (fun y => isB l s y.toNat x) x.nth L 0) ∧ Below w.heap.size w w' := by
  obtain ⟨R, hR⟩ : ∃ R, pickN (fun y => isB l s y.toNat x) x.nth L 0 = R := ⟨_, rfl⟩
  have HR := Lib.hid (show pickN (fun y => isB l s y.toNat x) x.nth (L.drop 0) 0 = R from hR)
  rw [hR]
  have HLP := Lib.hid hL
  have HB0 := Lib.hid ((Below.refl w.heap.size w).alloc (Nat.le_refl _) (.cells #[.int .i64 x.ax, .int .i64 x.kd, .string x.nm, .string x.is, .string x.has, .int .i64 x.nth] 33))
  have HO0 := Lib.hid (Own.fresh w 33 [.int .i64 x.ax, .int .i64 x.kd, .string x.nm, .string x.is, .string x.has, .int .i64 x.nth])
  have HBS := Lib.hid hB
  have HH := Lib.hid (fun (W : World) (hb : Below w.heap.size w W) => show Has W ao B l from hl.keep hb hB)
  have HMX := Lib.hid (fun (W : World) (hb : Below w.heap.size w W) => show Mx W from hm.below hb)
  have HV := Lib.hid (fun (W : World) (hb : Below w.heap.size w W) => show IntsAt W C v L from hv.below hb)
  have HIS := Lib.hid (fun (i : Nat) (hi : i < l.n) (W : World) (hb : Below w.heap.size w W) => is_any l ao cap s hs i hi x B hn W (Nat.le_trans hB hb.size) (hl.keep hb hB) (hm.below hb))
  obtain ⟨vo, vc, rfl, hvc, hA⟩ := hv
  have HA := Lib.hid hA
  obtain ⟨m, hm2⟩ : ∃ m, L.length = m := ⟨_, rfl⟩
  have HMM := Lib.hid hm2
  rw [hm2] at hLn HA hvc ⊢
  clear hR hL hB hl hm hA hm2
  go_enter Try.func21, Try.ntmps21
  go_wp2_with fail
  generalize World.alloc w _ = w1 at *
  go_loopw [9, 14] (fun b9 b14 wr => ∃ (k : Nat) (c : Int), b14 = .int .i64 (k : Int) ∧ b9 = .int .i64 c ∧ (k : Int) ≤ m ∧ 0 ≤ c ∧ c ≤ k ∧ Hid (c < x.nth) ∧ Hid (pickN (fun y => isB l s y.toNat x) x.nth (L.drop k) c = R) ∧ Hid (Below w.heap.size w wr) ∧ Hid (Own wr w.heap.size 33 [.int .i64 x.ax, .int .i64 x.kd, .string x.nm, .string x.is, .string x.has, .int .i64 x.nth])) (fun _ b14 _ => m - (intOf b14).toNat)
  case atStart => exact ⟨0, 0, rfl, rfl, by omega, by omega, by omega, Lib.hid hx, HR, HB0, HO0⟩
  case round =>
    obtain ⟨k, c, rfl, rfl, hk, hc0, hck, HNE, HP, HB, HO⟩ := hrel
    clear HR HB0 HO0
    by_cases h1 : (k : Int) < m
    · obtain ⟨b, off, rfl, hb, hbC, hcl⟩ := HA.out k (by omega)
      obtain ⟨y, hy⟩ : ∃ y, L[k]? = some y := ⟨_, List.getElem?_eq_getElem (by have := HMM.out; omega)⟩
      have hmem := HLP.out y (List.mem_of_getElem? hy)
      obtain ⟨q, rfl⟩ : ∃ q : Nat, y = (q : Int) := ⟨y.toNat, by omega⟩
      rw [getD_of hy] at hcl
      have hcw := keepc hcl HB.out
      have HCL := Lib.hid hcl
      have hbl0 := Lib.hid hb
      have hbl : b < wr.heap.size := Nat.lt_of_lt_of_le hb HB.out.size
      have hw1 : IntKind.i64.wrap ((k : Int) + 1) = (k : Int) + 1 := by rw [IntKind.wrap_i64]; omega
      have hw2 : IntKind.i64.wrap (c + 1) = c + 1 := by rw [IntKind.wrap_i64]; omega
      have HST := Lib.hid (pick_at (f := fun y => isB l s y.toNat x) (n := x.nth) (c := c) hy)
      have HIQ := Lib.hid (HIS.out q (by omega) wr HB.out)
      obtain ⟨fb, hfb⟩ : ∃ b, isB l s q x = b := ⟨_, rfl⟩
      rw [Int.toNat_natCast, hfb] at HST
      rw [hfb] at HIQ
      have HYY := Lib.hid hy
      obtain ⟨x0, x1, x2, x3, x4, x5, xg, -⟩ := HO.out.six
      clear hfb hy hcl hb
      go_wp2_with fail
      refine HIQ.out.mono ?_
      rintro e w2 ⟨rfl, hb2⟩
      have HB2 := Lib.hid (keepb HB.out hb2)
      have HO2 := Lib.hid (HO.out.under hb2 HO.out.lt)
      have hkc : (k : Int) + 1 ≤ vc := by omega
      have hkn : ((k : Int) + 1).toNat = k + 1 := by omega
      have hwk : IntKind.i64.wrap ((k : Int) + 1) = (k : Int) + 1 := hw1
      clear hb2 HB HO x0 x1 x2 x3 x4 x5 xg hcw
      obtain ⟨x0, x1, x2, x3, x4, x5, xg, -⟩ := HO2.out.six
      cases fb with
      | true =>
        by_cases h3 : c + 1 = x.nth
        · have e3 : (c + 1 == x.nth) = true := by simp [h3]
          have HE := Lib.hid (show R = [(q : Int)] by rw [← HP.out, HST.out, if_pos rfl, if_pos h3])
          go_wp2
          go_ret
          refine ⟨_, rfl, ?_, HB2.out⟩
          rw [HE.out]
          refine ⟨some ⟨b, off + k, none⟩, vc - k, ?_, ?_, fun j hj => ⟨b, off + k, rfl, ?_, hbC, ?_⟩⟩
          · rfl
          · show 1 ≤ vc - k; omega
          · exact Nat.lt_of_lt_of_le hbl0.out HB2.out.size
          · have hj0 : j = 0 := by simp at hj; omega
            subst hj0
            exact keepc HCL.out HB2.out
        · have e3 : (c + 1 == x.nth) = false := by simp [h3]
          have HE := Lib.hid (show pickN (fun y => isB l s y.toNat x) x.nth (L.drop (k + 1)) (c + 1) = R by rw [← HP.out, HST.out, if_pos rfl, if_neg h3])
          go_wp2
          go_roundw
          case rel => exact ⟨k + 1, c + 1, by go_num, rfl, by omega, by omega, by omega, Lib.hid (by have := HNE.out; omega), HE, HB2, HO2⟩
          case measure => simp [intOf]; omega
      | false =>
        have h3 : ¬ c = x.nth := by have := HNE.out; omega
        have e3 : (c == x.nth) = false := by simp [h3]
        have HE := Lib.hid (show pickN (fun y => isB l s y.toNat x) x.nth (L.drop (k + 1)) c = R by
          have e0 : (if false = true then c + 1 else c) = c := if_neg (by decide)
          rw [← HP.out, HST.out, e0, if_neg h3])
        go_wp2
        go_roundw
        case rel => exact ⟨k + 1, c, by go_num, rfl, by omega, by omega, by omega, HNE, HE, HB2, HO2⟩
        case measure => simp [intOf]; omega
    · obtain rfl : k = m := by omega
      have HE := Lib.hid (show R = [] by rw [← HP.out, List.drop_of_length_le (by rw [HMM.out]; omega)]; rfl)
      go_wp2
      go_ret
      exact ⟨_, rfl, by rw [HE.out]; exact IntsAt.nil _ _, HB.out⟩
end Go.Proofs.Ytnopnjleibbakab
