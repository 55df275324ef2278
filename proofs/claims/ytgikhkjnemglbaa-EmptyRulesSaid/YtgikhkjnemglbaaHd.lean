/- References: the walks of Split, of the program's and the reference's. References: the walk of the reference's Split. What a reference means, by the program. -/
import Derived.Test.YtgikhkjnemglbaaHr
import Derived.Test.YtgikhkjnemglbaaShelf
import Derived.Lib.IndexMore
import Derived.ShutString
import Derived.Shelf.Vars
import Derived.Lib.IndexBytes
import Derived.Deep.Cut
import Derived.Test.YtgikhkjnemglbaaHc
namespace Go.Proofs.Ytgikhkjnemglbaa
set_option linter.unusedVariables false
open Go.RowKit Go.Sort

/-- The library's variable holds some number. -/
def Mx (w : World) : Prop := ∃ m : Int, w.cell? ⟨0, 0, none⟩ = some (.int .i64 m)
theorem Mx.below {w w' : World} (h : Mx w) (hb : Below w.heap.size w w') : Mx w' := by obtain ⟨m, hm⟩ := h; exact ⟨m, keepc hm hb⟩
def cutS (s : ByteArray) : List UInt8 × List UInt8 × Bool := Lib.cut s.data.toList [58, 58]
def splitM (s : ByteArray) : ByteArray := if (cutS s).2.2 = true then ofL (cutS s).1 else ofL []
def splitR (s : ByteArray) : ByteArray := if (cutS s).2.2 = true then ofL (cutS s).2.1 else s
def splitB (s : ByteArray) : Bool := if (cutS s).2.2 = true then wordB (ofL (cutS s).1) && wordB (ofL (cutS s).2.1) else wordB s

set_option maxHeartbeats 1600000 in
theorem split_any (s : ByteArray) (hs : s.size ≤ 1000000) (w : World) (hm : Mx w) : Calls Try.prog 114 #[.string s] w
    fun e w' => e = .returned (.tuple #[.string (splitM s), .string (splitR s), .bool (splitB s)]) ∧ Below w.heap.size w w' := by
  obtain ⟨m, hm⟩ := hm
  have HM := Lib.hid hm
  clear hm
  have hl1 : (cutS s).1.length ≤ s.size ∧ (cutS s).2.1.length ≤ s.size := by
    unfold cutS Lib.cut; split <;> simp <;> omega
  have HC := Lib.hid (show cutS s = Lib.cut s.data.toList [58, 58] from rfl)
  have HSM := Lib.hid (show splitM s = if (cutS s).2.2 = true then ofL (cutS s).1 else ofL [] from rfl)
  have HSR := Lib.hid (show splitR s = if (cutS s).2.2 = true then ofL (cutS s).2.1 else s from rfl)
  have HSB := Lib.hid (show splitB s = if (cutS s).2.2 = true then wordB (ofL (cutS s).1) && wordB (ofL (cutS s).2.1) else wordB s from rfl)
  have K := Lib.hid (fun W hW => Try.strings_Cut s ⟨#[58, 58]⟩ m W (by omega) hW)
  obtain ⟨x, y, b, hc⟩ : ∃ x y b, cutS s = (x, y, b) := ⟨_, _, _, rfl⟩
  rw [hc] at HSM HSR HSB HC hl1
  simp only at HSM HSR HSB hl1
  have hx : (ofL x).size ≤ maxLen := by show x.toArray.size ≤ _; simp [maxLen]; omega
  have hy : (ofL y).size ≤ maxLen := by show y.toArray.size ≤ _; simp [maxLen]; omega
  have hs2 : s.size ≤ maxLen := by unfold maxLen; omega
  have HX := Lib.hid hx
  have HY := Lib.hid hy
  have HS := Lib.hid hs2
  clear hx hy hs2 hc hl1
  go_enter Try.func114, Try.ntmps114
  go_wp2_with fail
  refine (K.out _ HM.out).mono ?_
  rintro e w1 ⟨rfl, nq, rfl⟩
  rw [show Lib.cut s.data.toList ([58, 58] : List UInt8) = (x, y, b) from HC.out.symm]
  cases b
  · go_wp2_with fail
    refine (word_any s HS.out _).mono ?_
    rintro e w1 ⟨rfl, rfl⟩
    go_wp2
    go_ret3
    exact ⟨by rw [HSM.out, HSR.out, HSB.out]; rfl, below_drewN (Below.refl _ _) nq⟩
  · obtain ⟨bx, hbx⟩ : ∃ bx, wordB (ofL x) = bx := ⟨_, rfl⟩
    have HBX := Lib.hid hbx
    clear hbx
    cases bx
    · go_wp2_with fail
      refine (word_any (ofL x) HX.out _).mono ?_
      rintro e w1 ⟨rfl, rfl⟩
      rw [HBX.out]
      go_wp2
      go_ret3
      exact ⟨by rw [HSM.out, HSR.out, HSB.out, HBX.out]; rfl, below_drewN (Below.refl _ _) nq⟩
    · go_wp2_with fail
      refine (word_any (ofL x) HX.out _).mono ?_
      rintro e w1 ⟨rfl, rfl⟩
      rw [HBX.out]
      go_wp2_with fail
      refine (word_any (ofL y) HY.out _).mono ?_
      rintro e w1 ⟨rfl, rfl⟩
      go_wp2
      go_ret3
      exact ⟨by rw [HSM.out, HSR.out, HSB.out, HBX.out]; rfl, below_drewN (Below.refl _ _) nq⟩
end Go.Proofs.Ytgikhkjnemglbaa

namespace Go.Proofs.Ytgikhkjnemglbaa
set_option linter.unusedVariables false
open Go.RowKit Go.Sort

def sep : ByteArray := ⟨#[58, 58]⟩
theorem sepL : sep.toList = [58, 58] := by decide +kernel
theorem cutS_yes {s : ByteArray} {k : Nat} (h : Lib.index s.data.toList [58, 58] = (k : Int)) : cutS s = (s.data.toList.take k, s.data.toList.drop (k + 2), true) := by
  unfold cutS Lib.cut; rw [h, if_pos (by omega)]; simp
theorem cutS_no {s : ByteArray} (h : Lib.index s.data.toList [58, 58] = -1) : cutS s = (s.data.toList, [], false) := by
  unfold cutS Lib.cut; rw [h, if_neg (by omega)]
theorem rword_is (s : ByteArray) (hs : s.size ≤ maxLen) (b : Bool) (h : wordB s = b) (w : World) : Calls Try.prog 87 #[.string s] w fun e w' => e = .returned (.bool b) ∧ w' = w := (rword_any s hs w).mono fun _ _ ⟨he, hw⟩ => ⟨by rw [he, h], hw.symm⟩
theorem word_is (s : ByteArray) (hs : s.size ≤ maxLen) (b : Bool) (h : wordB s = b) (w : World) : Calls Try.prog 108 #[.string s] w fun e w' => e = .returned (.bool b) ∧ w' = w := (word_any s hs w).mono fun _ _ ⟨he, hw⟩ => ⟨by rw [he, h], hw.symm⟩

set_option maxHeartbeats 3200000 in
theorem rsplit_any (s : ByteArray) (hs : s.size ≤ 1000000) (w : World) : Calls Try.prog 54 #[.string s] w
    fun e w' => e = .returned (.tuple #[.string (splitM s), .string (splitR s), .bool (splitB s)]) ∧ Below w.heap.size w w' := by
  have HSM := Lib.hid (show splitM s = if (cutS s).2.2 = true then ofL (cutS s).1 else ofL [] from rfl)
  have HSR := Lib.hid (show splitR s = if (cutS s).2.2 = true then ofL (cutS s).2.1 else s from rfl)
  have HSB := Lib.hid (show splitB s = if (cutS s).2.2 = true then wordB (ofL (cutS s).1) && wordB (ofL (cutS s).2.1) else wordB s from rfl)
  go_enter Try.func54, Try.ntmps54
  go_wp2
  go_loop [5] (fun i => ∃ k : Nat, k ≤ s.size ∧ i = .int .i64 k ∧ Hid (Lib.NoOccB s sep k)) (fun i => s.size - (intOf i).toNat)
  case atStart => exact ⟨0, Nat.zero_le _, rfl, Lib.hid (Lib.NoOcc.zero _ _)⟩
  case round =>
    obtain ⟨k, hk, rfl, HA⟩ := hrel
    by_cases hlt : (k : Int) + 1 < s.size
    · obtain ⟨b, hb⟩ : ∃ b, ((s.extract k (k + 2)).toList == [58, 58]) = b := ⟨_, rfl⟩
      cases b
      · have H1 := Lib.hid (Lib.miss_piece s sep k HA.out (by show k + 2 ≤ s.size; omega) (by rw [sepL]; exact hb))
        go_wp2
        go_round
        case rel => exact ⟨k + 1, by omega, by go_num, H1⟩
        case measure => simp [intOf]; omega
      · have hi := Lib.hit s sep k HA.out (by show k + 2 ≤ s.size; omega) (by rw [sepL]; exact hb)
        have hcut := cutS_yes (s := s) (k := k) hi
        rw [hcut] at HSM HSR HSB
        simp only [ofL_take, ofL_drop, if_true] at HSM HSR HSB
        clear hi hcut
        obtain ⟨bx, hbx⟩ : ∃ bx, wordB (s.extract 0 k) = bx := ⟨_, rfl⟩
        have HBX := Lib.hid hbx
        clear hbx
        obtain ⟨by_, hby⟩ : ∃ by_, wordB (s.extract (k + 2) s.size) = by_ := ⟨_, rfl⟩
        have HBY := Lib.hid hby
        clear hby
        have hx : (s.extract 0 k).size ≤ maxLen := by simp [maxLen]; omega
        have hy : (s.extract (k + 2) s.size).size ≤ maxLen := by simp [maxLen]; omega
        have HX := Lib.hid hx
        have HY := Lib.hid hy
        clear hx hy
        go_upto_region 5 with fail
        cases bx
        · skip
          refine wp_region_quiet_lit (by kernel_rfl) (by kernel_rfl) ?_
          repeat (go_big_quiet_step ((go_at_call 87; with_reducible exact Calls.quiet_of_same (rword_is _ HX.out _ HBX.out _))))
          refine wpQuiet_nil ?_
          intro _ hw'
          obtain ⟨nq, hw''⟩ := hw'
          subst hw''
          go_wp2
          go_ret3
          exact ⟨by rw [HSM.out, HSR.out, HSB.out, HBX.out]; rfl, below_drewN (Below.refl _ _) _⟩
        · skip
          refine wp_region_quiet_lit (by kernel_rfl) (by kernel_rfl) ?_
          repeat (go_big_quiet_step (first | (go_at_call 87; with_reducible exact Calls.quiet_of_same (rword_is _ HX.out _ HBX.out _)) | (go_at_call 87; with_reducible exact Calls.quiet_of_same (rword_is _ HY.out _ HBY.out _))))
          refine wpQuiet_nil ?_
          intro _ hw'
          obtain ⟨nq, hw''⟩ := hw'
          subst hw''
          go_wp2
          go_ret3
          exact ⟨by rw [HSM.out, HSR.out, HSB.out, HBX.out, HBY.out]; rfl, below_drewN (Below.refl _ _) _⟩
    · have hi := Lib.past s sep k HA.out (by decide) (by show s.size < k + 2; omega)
      have hcut := cutS_no (s := s) hi
      rw [hcut] at HSM HSR HSB
      have hs2 : s.size ≤ maxLen := by unfold maxLen; omega
      have HS := Lib.hid hs2
      clear hi hcut hs2
      go_wp2_with fail
      refine (rword_any s HS.out _).mono ?_
      rintro e w1 ⟨rfl, rfl⟩
      go_wp2
      go_ret3
      exact ⟨by rw [HSM.out, HSR.out, HSB.out]; rfl, Below.refl _ _⟩
end Go.Proofs.Ytgikhkjnemglbaa

namespace Go.Proofs.Ytgikhkjnemglbaa
set_option linter.unusedVariables false
open Go.RowKit Go.Sort

abbrev Rv := Int × Int × Bool
/-- Is a module passed by, where a module's name is asked for? -/
def offB (mod nm : ByteArray) : Bool := !(mod.toList == []) && !(nm.toList == mod.toList)
def resF (l : List Md) (mod name : ByteArray) : List Int → Rv
  | [] => (0, 0, false)
  | k :: r => match l[k.toNat]? with
    | none => (0, 0, false)
    | some m => if offB mod m.nm = true then resF l mod name r else if 0 ≤ ruleN m name then (k, ruleN m name, true) else resF l mod name r
theorem resF_cons {l : List Md} {mod name : ByteArray} {j : Nat} {m : Md} {r : List Int} (hm : l[j]? = some m) : resF l mod name ((j : Int) :: r) = if offB mod m.nm = true then resF l mod name r else if 0 ≤ ruleN m name then ((j : Int), ruleN m name, true) else resF l mod name r := by
  conv => lhs; unfold resF
  rw [Int.toNat_natCast, hm]
def resO (l : List Md) (i : Int) (ref : ByteArray) : Rv :=
  if splitB ref = true ∧ 0 ≤ i ∧ i < l.length then (match l[i.toNat]? with
    | none => (0, 0, false)
    | some m => resF l (splitM ref) (splitR ref) (seenL l m i))
  else (0, 0, false)
def rvV (r : Rv) : Value := .tuple #[.int .i64 r.1, .int .i64 r.2.1, .bool r.2.2]
/-- The modules' names and rules are few. -/
def Few (l : List Md) : Prop := (l.length : Int) ≤ 1000000 ∧ ∀ m ∈ l, (m.im.length : Int) ≤ 1000 ∧ (m.ru.length : Int) ≤ 1000000

set_option maxRecDepth 1000000 in
set_option maxHeartbeats 1600000 in
theorem resolve_any (ML : List Md) (D : Nat) (mo : Option Addr) (mc : Nat) (i : Int) (ref : ByteArray) (hr : ref.size ≤ 1000000) (hf : Few ML) (w : World) (hM : HasMs w D mo ML) (hx : Mx w) :
    Calls Try.prog 115 #[.slice mo ML.length mc, .int .i64 i, .string ref] w fun e w' => e = .returned (rvV (resO ML i ref)) ∧ Below w.heap.size w w' := by
  have HSP := Lib.hid (split_any ref hr w hx)
  have HM0 := Lib.hid hM
  have HFW := Lib.hid hf
  have hn := hf.1
  have HRS := Lib.hid (show resO ML i ref = if splitB ref = true ∧ 0 ≤ i ∧ i < ML.length then (match ML[i.toNat]? with | none => (0, 0, false) | some m => resF ML (splitM ref) (splitR ref) (seenL ML m i)) else (0, 0, false) from rfl)
  generalize resO ML i ref = RES at *
  obtain ⟨mod, hmod⟩ : ∃ z, splitM ref = z := ⟨_, rfl⟩
  obtain ⟨nam, hnam⟩ : ∃ z, splitR ref = z := ⟨_, rfl⟩
  obtain ⟨z, hz⟩ : ∃ z, splitB ref = z := ⟨_, rfl⟩
  rw [hmod, hnam, hz] at HSP HRS
  clear hM hf hx hmod hnam hz
  obtain ⟨n, hnn⟩ : ∃ n, ML.length = n := ⟨_, rfl⟩
  have HN := Lib.hid hnn
  rw [hnn] at hn HRS ⊢
  clear hnn
  go_enter Try.func115, Try.ntmps115
  go_wp2_with fail
  refine HSP.out.mono ?_
  rintro e w1 ⟨rfl, hb1⟩
  have HB1 := Lib.hid hb1
  have HM1 := Lib.hid (HM0.out.below hb1)
  clear hb1 HSP
  cases z with
  | false =>
    have HE := Lib.hid (show RES = (0, 0, false) from by rw [HRS.out, if_neg (by simp)])
    go_wp2
    go_ret3
    exact ⟨by rw [HE.out]; rfl, HB1.out⟩
  | true =>
    by_cases h0 : i < 0
    · have h0' : decide (i < 0) = true := decide_eq_true h0
      have HE := Lib.hid (show RES = (0, 0, false) from by rw [HRS.out, if_neg (by omega)])
      go_wp2
      go_ret3
      exact ⟨by rw [HE.out]; rfl, HB1.out⟩
    · have h0' : decide (i < 0) = false := decide_eq_false h0
      by_cases h1 : (n : Int) ≤ i
      · have h1' : decide ((n : Int) ≤ i) = true := decide_eq_true h1
        have HE := Lib.hid (show RES = (0, 0, false) from by rw [HRS.out, if_neg (by omega)])
        go_wp2
        go_ret3
        exact ⟨by rw [HE.out]; rfl, HB1.out⟩
      · obtain ⟨q, rfl⟩ : ∃ q : Nat, i = (q : Int) := ⟨i.toNat, by omega⟩
        have h1' : decide ((n : Int) ≤ (q : Int)) = false := decide_eq_false h1
        have h1n : decide (n ≤ q) = false := decide_eq_false (by omega)
        obtain ⟨m, hm⟩ : ∃ m, ML[q]? = some m := ⟨_, List.getElem?_eq_getElem (by have := HN.out; omega)⟩
        have HE0 := Lib.hid (show RES = resF ML mod nam (seenL ML m q) from by rw [HRS.out, if_pos ⟨rfl, by omega, by omega⟩, Int.toNat_natCast, hm])
        have HSC := Lib.hid (seen_any ML D mo mc q m hm (by have := HFW.out.1; exact this) ((HFW.out.2 m (List.mem_of_getElem? hm)).1) w1 HM1.out)
        have HSN := Lib.hid (show ∀ k ∈ seenL ML m q, 0 ≤ k ∧ k < n from fun k hk => by
          rcases List.mem_cons.1 hk with rfl | hk
          · omega
          · obtain ⟨h2, h3⟩ := List.mem_filter.1 hk
            obtain ⟨x, -, rfl⟩ := List.mem_map.1 h2
            have h4 : 0 ≤ findN ML x := of_decide_eq_true h3
            rcases idxF_bd (fun m : Md => m.nm.toList == x.toList) 0 ML with h5 | h5
            · have : findN ML x = -1 := h5; omega
            · have h6 : findN ML x < 0 + ML.length := h5.2; have := HN.out; omega)
        have HSL := Lib.hid (show ((seenL ML m q).length : Int) ≤ 1001 from by
          have h2 := (HFW.out.2 m (List.mem_of_getElem? hm)).1
          have h3 := List.length_filter_le (fun k => decide (0 ≤ k)) (m.im.map (findN ML))
          rw [List.length_map] at h3
          show (((m.im.map (findN ML)).filter (fun k => decide (0 ≤ k))).length + 1 : Int) ≤ 1001
          omega)
        rw [HN.out] at HSC
        generalize seenL ML m q = SL at *
        clear hm HRS h1
        go_wp2_with fail
        refine HSC.out.mono ?_
        rintro e w2 ⟨hso, hb2⟩
        have hso' : ∃ so sc, e = .returned (.slice so SL.length sc) ∧ HasIn w2 so SL := hso
        obtain ⟨so, sc, rfl, hin⟩ := hso'
        have HB2 := Lib.hid (HB1.out.trans (hb2.mono HB1.out.size))
        have HM2 := Lib.hid (HM1.out.below hb2)
        have HI2 := Lib.hid hin
        obtain ⟨nl, hnl⟩ : ∃ z, SL.length = z := ⟨_, rfl⟩
        have HNL := Lib.hid hnl
        rw [hnl] at HSL
        rw [hnl]
        clear hso hin hb2 hnl HB1 HM1 HSC
        have HQ0 := Lib.hid (show RES = resF ML mod nam (SL.drop 0) from by rw [List.drop_zero]; exact HE0.out)
        clear HE0
        have hnl2 := HSL.out
        go_wp2_with fail
        go_loopw [37] (fun v37 wr => ∃ k : Nat, v37 = .int .i64 (k : Int) ∧ (k : Int) ≤ nl ∧ Hid (RES = resF ML mod nam (SL.drop k)) ∧ Hid (HasMs wr D mo ML) ∧ Hid (HasIn wr so SL) ∧ Hid (Below w.heap.size w wr)) (fun v37 _ => nl - (intOf v37).toNat)
        case atStart => exact ⟨0, rfl, by omega, HQ0, HM2, HI2, HB2⟩
        case round =>
          obtain ⟨k, rfl, hk, HQ, HM, HI, HB⟩ := hrel
          clear HQ0 HM2 HI2 HB2
          by_cases hlt : (k : Int) < nl
          · obtain ⟨x, hx⟩ : ∃ x, SL[k]? = some x := ⟨_, List.getElem?_eq_getElem (by have := HNL.out; omega)⟩
            have HD := Lib.hid (show SL.drop k = x :: SL.drop (k + 1) from by
              obtain ⟨h1, h2⟩ := List.getElem?_eq_some_iff.1 hx
              rw [List.drop_eq_getElem_cons h1, h2])
            obtain ⟨hx0, hx1⟩ := HSN.out x (List.mem_of_getElem? hx)
            obtain ⟨j, rfl⟩ : ∃ j : Nat, x = (j : Int) := ⟨x.toNat, by omega⟩
            obtain ⟨b1, off1, hso1, hb1, d0⟩ := HI.out k _ hx
            obtain ⟨mj, hmj⟩ : ∃ m, ML[j]? = some m := ⟨_, List.getElem?_eq_getElem (by have := HN.out; omega)⟩
            obtain ⟨nn, hMr⟩ := HM.out
            obtain ⟨b, off, io, ic, ko, kc, ro, rc, hmo, hb, _, c0, c1, c2, c3, c4, c5, c6, c7, c8, c9, cA, -, -, hru⟩ := hMr j mj hmj
            have HRC := Lib.hid (fun W (hW : Below wr.heap.size wr W) => rule_any mj D nn io ic ko kc ro rc nam ((HFW.out.2 mj (List.mem_of_getElem? hmj)).2) W (hru.but (But.of_below (S := fun _ => False) hW) (fun _ h => h.elim)))
            have HZ := Lib.hid (show RES = if offB mod mj.nm = true then resF ML mod nam (SL.drop (k + 1)) else if 0 ≤ ruleN mj nam then ((j : Int), ruleN mj nam, true) else resF ML mod nam (SL.drop (k + 1)) from by
              rw [HQ.out, HD.out, resF_cons hmj])
            have hw1 : IntKind.i64.wrap ((k : Int) + 1) = (k : Int) + 1 := by rw [IntKind.wrap_i64]; omega
            obtain ⟨za, hza⟩ : ∃ z, (mod.toList == []) = z := ⟨_, rfl⟩
            obtain ⟨zb, hzb⟩ : ∃ z, (mj.nm.toList == mod.toList) = z := ⟨_, rfl⟩
            have HOB := Lib.hid (show offB mod mj.nm = (!za && !zb) from by unfold offB; rw [hza, hzb])
            clear hx hmj hMr hru
            subst hso1
            subst hmo
            cases za with
            | true =>
              have HZ1 := Lib.hid (HZ.out.trans (if_neg (by rw [HOB.out]; simp)))
              clear hzb
              go_wp2_with fail
              refine (HRC.out _ (Below.refl _ _)).mono ?_
              rintro e w3 ⟨rfl, hb3⟩
              have HB3 := Lib.hid (HB.out.trans (hb3.mono HB.out.size))
              have HM3 := Lib.hid (HM.out.below hb3)
              have HI3 := Lib.hid (HI.out.below hb3)
              obtain ⟨q, hq⟩ : ∃ q, ruleN mj nam = q := ⟨_, rfl⟩
              rw [hq] at HZ1
              rw [hq]
              clear hb3 hq
              by_cases h0q : 0 ≤ q
              · have h0q' : decide (0 ≤ q) = true := decide_eq_true h0q
                have HE := Lib.hid (HZ1.out.trans (if_pos h0q))
                go_wp2
                go_ret3
                exact ⟨by rw [HE.out]; rfl, HB3.out⟩
              · have h0q' : decide (0 ≤ q) = false := decide_eq_false h0q
                have HE := Lib.hid (HZ1.out.trans (if_neg h0q))
                go_wp2
                go_roundw
                case rel => exact ⟨k + 1, by go_num, by omega, HE, HM3, HI3, HB3⟩
                case measure => simp [intOf]; omega
            | false =>
              cases zb with
              | true =>
                have HZ1 := Lib.hid (HZ.out.trans (if_neg (by rw [HOB.out]; simp)))
                go_wp2_with fail
                refine (HRC.out _ (Below.refl _ _)).mono ?_
                rintro e w3 ⟨rfl, hb3⟩
                have HB3 := Lib.hid (HB.out.trans (hb3.mono HB.out.size))
                have HM3 := Lib.hid (HM.out.below hb3)
                have HI3 := Lib.hid (HI.out.below hb3)
                obtain ⟨q, hq⟩ : ∃ q, ruleN mj nam = q := ⟨_, rfl⟩
                rw [hq] at HZ1
                rw [hq]
                clear hb3 hq
                by_cases h0q : 0 ≤ q
                · have h0q' : decide (0 ≤ q) = true := decide_eq_true h0q
                  have HE := Lib.hid (HZ1.out.trans (if_pos h0q))
                  go_wp2
                  go_ret3
                  exact ⟨by rw [HE.out]; rfl, HB3.out⟩
                · have h0q' : decide (0 ≤ q) = false := decide_eq_false h0q
                  have HE := Lib.hid (HZ1.out.trans (if_neg h0q))
                  go_wp2
                  go_roundw
                  case rel => exact ⟨k + 1, by go_num, by omega, HE, HM3, HI3, HB3⟩
                  case measure => simp [intOf]; omega
              | false =>
                have HE := Lib.hid (HZ.out.trans (if_pos (by rw [HOB.out]; rfl)))
                go_wp2
                go_roundw
                case rel => exact ⟨k + 1, by go_num, by omega, HE, HM, HI, HB⟩
                case measure => simp [intOf]; omega
          · have HE := Lib.hid (show RES = (0, 0, false) from by rw [HQ.out, List.drop_eq_nil_of_le (by have := HNL.out; omega)]; rfl)
            have hlt' : decide ((k : Int) < nl) = false := decide_eq_false hlt
            go_wp2
            go_ret3
            exact ⟨by rw [HE.out]; rfl, HB.out⟩
end Go.Proofs.Ytgikhkjnemglbaa
