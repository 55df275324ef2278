/- The law LookupFirst, walked. -/
import Derived.Test.YtihcmneidbjmlaaFirA
namespace Go.Proofs.Ytihcmneidbjmlaa
set_option linter.unusedVariables false
open Go.RowKit Go.Sort

set_option maxRecDepth 1000000 in
set_option maxHeartbeats 3200000 in
theorem first_walk (l : List ByteArray) (ao : Option Addr) (cap : Nat) (q : Nat) (hq : q < 256) (s : ByteArray) (w : World) (hx : Mx w) (hl : HasN w ao l) : Calls Try.prog 5 #[.slice ao l.length cap, .int .u8 (q : Int), .string s] w fun e w' => e = .returned (.bool true) ∧ Below w.heap.size w w' := by
  have HX := Lib.hid hx
  have HPA := Lib.hid (parsed_any l ao cap w hl)
  obtain ⟨PO, hPO⟩ : ∃ r, prsO l = r := ⟨_, rfl⟩
  have HFW := Lib.hid (fun ML (h : PO = some ML) => (⟨prsO_few (hPO.trans h), prsF_word (show prsF _ l = some ML from hPO.trans h)⟩ : (Few ML ∧ ML.length ≤ 5) ∧ ∀ m ∈ ML, Wds m))
  rw [hPO] at HPA
  obtain ⟨nl, hnl⟩ : ∃ n, l.length = n := ⟨_, rfl⟩
  rw [hnl] at HPA
  rw [hnl]
  clear hx hl hPO hnl
  go_enter Try.func5, Try.ntmps5
  go_wp2_with fail
  refine HPA.out.mono ?_
  rintro e w1 ⟨hP, hb1⟩
  have HB1 := Lib.hid hb1
  clear hb1 HPA
  cases PO with
  | none =>
    have hP' : e = .returned (.tuple #[.slice none 0 0, .bool false]) := hP
    subst hP'
    clear HFW
    have HAW := Lib.hid (awake_any w1 (HX.out.below HB1.out))
    go_wp2_with fail
    refine HAW.out.mono ?_
    rintro e w9 ⟨rfl, hb9⟩
    have HB9 := Lib.hid (HB1.out.trans (hb9.mono HB1.out.size))
    go_wp2
    go_ret
    exact ⟨rfl, HB9.out⟩
  | some ML =>
    obtain ⟨mo, mc, he, hM⟩ : ∃ mo mc, e = .returned (.tuple #[.slice mo ML.length mc, .bool true]) ∧ HasMs w1 w.heap.size mo ML := hP
    subst he
    have HFE := Lib.hid (HFW.out ML rfl).1
    have HWD := Lib.hid (HFW.out ML rfl).2
    have HM1 := Lib.hid hM
    clear hM HFW
    obtain ⟨D, hD⟩ : ∃ D, w.heap.size = D := ⟨_, rfl⟩
    rw [hD] at HM1
    clear hD
    have hn5 := HFE.out.2
    obtain ⟨n, hnn⟩ : ∃ n, ML.length = n := ⟨_, rfl⟩
    rw [hnn] at hn5
    rw [hnn]
    have HN := Lib.hid hnn
    clear hnn
    by_cases hn0 : n = 0
    · subst hn0
      have HAW := Lib.hid (awake_any w1 (HX.out.below HB1.out))
      go_wp2_with fail
      refine HAW.out.mono ?_
      rintro e w9 ⟨rfl, hb9⟩
      have HB9 := Lib.hid (HB1.out.trans (hb9.mono HB1.out.size))
      go_wp2
      go_ret
      exact ⟨rfl, HB9.out⟩
    · have hn0a : decide ((n : Int) = 0) = false := decide_eq_false (by omega)
      have hn0b : decide (n = 0) = false := decide_eq_false hn0
      have hn0c : ((n : Int) == 0) = false := by rw [beq_eq_false_iff_ne]; omega
      have hn0d : ¬ ((n : Int) = 0) := by omega
      by_cases h50 : (50 : Int) < (s.size : Int)
      · have h50' : decide ((50 : Int) < (s.size : Int)) = true := decide_eq_true h50
        have h50n : decide (50 < s.size) = true := decide_eq_true (by omega)
        have HAW := Lib.hid (awake_any w1 (HX.out.below HB1.out))
        go_wp2_with fail
        refine HAW.out.mono ?_
        rintro e w9 ⟨rfl, hb9⟩
        have HB9 := Lib.hid (HB1.out.trans (hb9.mono HB1.out.size))
        go_wp2
        go_ret
        exact ⟨rfl, HB9.out⟩
      · have h50' : decide ((50 : Int) < (s.size : Int)) = false := decide_eq_false h50
        have h50n : decide (50 < s.size) = false := decide_eq_false (by omega)
        have hs50 : s.size ≤ 50 := by omega
        have HZ0 := Lib.hid (Lib.NoOcc.zero s.data.toList sep.data.toList)
        go_wp2_with fail
        go_loopw [9] (fun v9 wr => ∃ k : Nat, v9 = .int .i64 (k : Int) ∧ k ≤ s.size ∧ Hid (Lib.NoOccB s sep k) ∧ wr = w1) (fun v9 _ => s.size - (intOf v9).toNat)
        case atStart => exact ⟨0, rfl, Nat.zero_le _, Lib.hid (Lib.NoOcc.zero _ _), (by first | trivial | rfl)⟩
        case round =>
          obtain ⟨k, rfl, hk, HA, rfl⟩ := hrel
          have hw1 : IntKind.i64.wrap ((k : Int) + 1) = (k : Int) + 1 := by rw [IntKind.wrap_i64]; omega
          by_cases hlt : (k : Int) + 1 < s.size
          · have hltn : decide ((k : Int) + 1 < s.size) = true := decide_eq_true hlt
            have hks : k < s.size := by omega
            obtain ⟨c, hc⟩ : ∃ c : Int, (s[k].toNat : Int) = c := ⟨_, rfl⟩
            by_cases h58 : c = 58
            · subst h58
              have HAW := Lib.hid (awake_any wr (HX.out.below HB1.out))
              go_wp2_with fail
              refine HAW.out.mono ?_
              rintro e w9 ⟨rfl, hb9⟩
              have HB9 := Lib.hid (HB1.out.trans (hb9.mono HB1.out.size))
              go_wp2
              go_ret
              exact ⟨rfl, HB9.out⟩
            · have h58a : decide (c = 58) = false := decide_eq_false h58
              have h58b : (c == 58) = false := by rw [beq_eq_false_iff_ne]; exact h58
              have H1 := Lib.hid (Lib.miss_piece s sep k HA.out (by show k + 2 ≤ s.size; omega) (by
                rw [sepL, beq_eq_false_iff_ne]
                intro e
                apply h58
                rw [← hc]
                have e2 : (s.extract k (k + 2)).data.toList = [58, 58] := by rw [← ByteArray.toList_eq]; exact e
                rw [ByteArray.data_extract, Array.toList_extract] at e2
                have hkl : k < s.data.toList.length := by simpa using hks
                have e4 : (s.data.toList.drop k).take 2 = [58, 58] := by
                  rw [← e2]
                  simp [List.extract]
                rw [List.drop_eq_getElem_cons hkl] at e4
                have e5 := (List.cons.inj (e4 : s.data.toList[k] :: (s.data.toList.drop (k + 1)).take 1 = [58, 58])).1
                have e3 : s[k] = 58 := e5
                rw [e3]; rfl))
              go_wp2
              go_roundw
              case rel => exact ⟨k + 1, by go_num, by omega, H1, (by first | trivial | rfl)⟩
              case measure => simp [intOf]; omega
          · have hltn : decide ((k : Int) + 1 < s.size) = false := decide_eq_false hlt
            have HCUT := Lib.hid (show Lib.index s.data.toList [58, 58] = -1 from Lib.past s sep k HA.out (by decide) (by show s.size < k + 2; omega))
            obtain ⟨i, hi⟩ : ∃ i, q % n = i := ⟨_, rfl⟩
            have hin : i < n := by rw [← hi]; exact Nat.mod_lt _ (by omega)
            have hrem : ((q : Int) % (n : Int)) = (i : Int) := by rw [← hi]; rfl
            have hwi : IntKind.i64.wrap (i : Int) = (i : Int) := by rw [IntKind.wrap_i64]; omega
            have hwq : IntKind.i64.wrap (q : Int) = (q : Int) := by rw [IntKind.wrap_i64]; omega
            obtain ⟨m, hm⟩ : ∃ m, ML[i]? = some m := ⟨_, List.getElem?_eq_getElem (by have := HN.out; omega)⟩
            have HMM := Lib.hid hm
            have HWR := Lib.hid (resO_want HWD.out hm HCUT.out)
            obtain ⟨⟨xa, xb, xc⟩, hR⟩ : ∃ z, resO ML (i : Int) s = z := ⟨_, rfl⟩
            rw [hR] at HWR
            have HR1 := Lib.hid (fun W (hW : HasMs W D mo ML) (hX : Mx W) => show Calls Try.prog 8 #[.slice mo n mc, .int .i64 (i : Int), .string s] W fun e w' => e = .returned (.tuple #[.int .i64 xa, .int .i64 xb, .bool xc]) ∧ Below W.heap.size W w' from by have q := resolve_any ML D mo mc (i : Int) s (by omega) HFE.out.1 W hW hX; rw [hR, HN.out] at q; exact q)
            have HFI := Lib.hid (fun (x : ByteArray) W (hW : HasMs W D mo ML) => show Calls Try.prog 10 #[.slice mo n mc, .string x] W fun e w' => e = .returned (.int .i64 (findN ML x)) ∧ Below W.heap.size W w' from by have q := find_any ML D mo mc x HFE.out.1.1 W hW; rw [HN.out] at q; exact q)
            clear hR hi hm
            go_wp2_with fail
            refine (HR1.out _ HM1.out (HX.out.below HB1.out)).mono ?_
            rintro e w2 ⟨rfl, hb⟩
            have HB2 := Lib.hid (HB1.out.trans (hb.mono HB1.out.size))
            have HM2 := Lib.hid (HM1.out.below hb)
            clear hb HB1 HM1 HR1 HZ0
            obtain ⟨nn, hMr⟩ := HM2.out
            obtain ⟨b, off, io, ic, ko, kc, ro, rc, hmo, hb0, -, -, c1, -⟩ := hMr i m HMM.out
            clear hMr
            subst hmo
            obtain ⟨ni, hni⟩ : ∃ z, m.im.length = z := ⟨_, rfl⟩
            have HNI := Lib.hid hni
            have hni9 : (ni : Int) ≤ 1000 := by have := (HFE.out.1.2 m (List.mem_of_getElem? HMM.out)).1; omega
            rw [hni] at c1
            clear hni
            have hw2 : IntKind.i64.wrap ((ni : Int) - 1) = (ni : Int) - 1 := by rw [IntKind.wrap_i64]; omega
            go_wp2_with fail
            go_loopw [14, 15] (fun v14 v15 wr => ∃ (k : Nat) (c z : Int), v14 = .int .i64 c ∧ v15 = .int .i64 z ∧ z = (k : Int) - 1 ∧ k ≤ ni ∧ Hid (c = wantL ML s (m.im.drop k)) ∧ Hid (HasMs wr D (some ⟨b, off, none⟩) ML) ∧ Hid (Below w.heap.size w wr)) (fun _ v15 _ => (intOf v15 + 1).toNat)
            case atStart => exact ⟨ni, -1, (ni : Int) - 1, rfl, rfl, rfl, Nat.le_refl _, Lib.hid (by rw [List.drop_eq_nil_of_le (by have := HNI.out; omega)]; rfl), HM2, HB2⟩
            case round =>
              obtain ⟨k2, c, z, rfl, rfl, hz, hk2, HC, HM, HB⟩ := hrel
              clear HM2 HB2 c1 hb0
              cases k2 with
              | succ k =>
                obtain rfl : z = (k : Int) := by omega
                clear hz
                have hge : decide ((0 : Int) ≤ (k : Int)) = true := decide_eq_true (by omega)
                have hkn : decide ((k : Int) < (ni : Int)) = true := decide_eq_true (by omega)
                have hkn2 : k < ni := hk2
                have hw3 : IntKind.i64.wrap ((k : Int) - 1) = (k : Int) - 1 := by rw [IntKind.wrap_i64]; omega
                obtain ⟨x, hx⟩ : ∃ x, m.im[k]? = some x := ⟨_, List.getElem?_eq_getElem (by have := HNI.out; omega)⟩
                have HST := Lib.hid (show wantL ML s (m.im.drop k) = if 0 ≤ findN ML x ∧ 0 ≤ ruleAt ML (findN ML x) s then findN ML x else c from by
                  obtain ⟨h1, h2⟩ := List.getElem?_eq_some_iff.1 hx
                  rw [List.drop_eq_getElem_cons h1, h2, wantL_cons, HC.out])
                obtain ⟨nn5, hMr5⟩ := HM.out
                obtain ⟨b5, off5, io5, ic5, ko5, kc5, ro5, rc5, hmo5, hb5, _, c05, c15, c25, c35, c45, c55, c65, c75, c85, c95, cA5, hnr5, -, hru5⟩ := hMr5 i m HMM.out
                obtain ⟨rfl, rfl⟩ : b = b5 ∧ off = off5 := by
                  have h9 := hmo5
                  injection h9 with h9; injection h9 with h9 h10
                  exact ⟨h9, h10⟩
                have HNR5 := Lib.hid hnr5.hasN
                have HQ5 := Lib.hid (fun W2 (hW : Below wr.heap.size wr W2) => show Calls Try.prog 12 #[.agg #[.string m.nm, .slice io5 m.im.length ic5, .bool m.wet, .int .i64 m.wa.op, .string m.wa.text, .int .u64 m.wa.s0, .int .u64 m.wa.s1, .int .u64 m.wa.s2, .int .u64 m.wa.s3, .slice ko5 m.wa.kids.length kc5, .slice ro5 m.ru.length rc5], .string s] W2 fun e w' => e = .returned (.int .i64 (ruleN m s)) ∧ Below W2.heap.size W2 w' from rule_any m D nn5 io5 ic5 ko5 kc5 ro5 rc5 s ((HFE.out.1.2 m (List.mem_of_getElem? HMM.out)).2) W2 (hru5.but (But.of_below (S := fun _ => False) hW) (fun _ h => h.elim)))
                clear hMr5 hmo5 hnr5 hru5
                rw [HNI.out] at c15
                obtain ⟨b1, off1, hio, hb1, d0⟩ := HNR5.out k x hx
                subst hio
                have HFC := Lib.hid (HFI.out x wr HM.out)
                obtain ⟨fx, hfx⟩ : ∃ z, findN ML x = z := ⟨_, rfl⟩
                have hbd : fx = -1 ∨ (0 ≤ fx ∧ fx < n) := by
                  have hh := idxF_bd (fun m : Md => m.nm.toList == x.toList) 0 ML
                  rcases hh with h5 | h5
                  · have h5 : findN ML x = -1 := h5
                    exact .inl (by rw [← hfx, h5])
                  · have h6 : (0 : Int) ≤ findN ML x := by have := h5.1; exact this
                    have h7 : findN ML x < ((0 : Nat) : Int) + ML.length := h5.2
                    exact .inr ⟨by rw [← hfx]; exact h6, by have := HN.out; rw [← hfx]; omega⟩
                rw [hfx] at HFC HST
                clear hfx hx HQ5 c05 c25 c35 c45 c55 c65 c75 c85 c95 cA5
                go_wp2_with fail
                refine HFC.out.mono ?_
                rintro e wq ⟨rfl, hbq⟩
                have HBq := Lib.hid (HB.out.trans (hbq.mono HB.out.size))
                have HMq := Lib.hid (HM.out.below hbq)
                clear HFC hbq HM HB HNR5 c15 d0 hb1 hb5
                by_cases hf0 : 0 ≤ fx
                · obtain ⟨jj, rfl⟩ : ∃ j : Nat, fx = (j : Int) := ⟨fx.toNat, by omega⟩
                  have hjn : jj < n := by omega
                  have hf1 : decide ((0 : Int) ≤ (jj : Int)) = true := decide_eq_true hf0
                  obtain ⟨mj, hmj⟩ : ∃ m, ML[jj]? = some m := ⟨_, List.getElem?_eq_getElem (by have := HN.out; omega)⟩
                  have HRA := Lib.hid (show ruleAt ML (jj : Int) s = ruleN mj s from ruleAt_eq s (by rw [Int.toNat_natCast]; exact hmj))
                  obtain ⟨nn6, hMr6⟩ := HMq.out
                  obtain ⟨b6, off6, io6, ic6, ko6, kc6, ro6, rc6, hmo6, hb6, _, c06, c16, c26, c36, c46, c56, c66, c76, c86, c96, cA6, hnr6, -, hru6⟩ := hMr6 jj mj hmj
                  obtain ⟨rfl, rfl⟩ : b = b6 ∧ off = off6 := by
                    have h9 := hmo6
                    injection h9 with h9; injection h9 with h9 h10
                    exact ⟨h9, h10⟩
                  have HNR6 := Lib.hid hnr6.hasN
                  have HQ6 := Lib.hid (fun W2 (hW : Below wq.heap.size wq W2) => show Calls Try.prog 12 #[.agg #[.string mj.nm, .slice io6 mj.im.length ic6, .bool mj.wet, .int .i64 mj.wa.op, .string mj.wa.text, .int .u64 mj.wa.s0, .int .u64 mj.wa.s1, .int .u64 mj.wa.s2, .int .u64 mj.wa.s3, .slice ko6 mj.wa.kids.length kc6, .slice ro6 mj.ru.length rc6], .string s] W2 fun e w' => e = .returned (.int .i64 (ruleN mj s)) ∧ Below W2.heap.size W2 w' from rule_any mj D nn6 io6 ic6 ko6 kc6 ro6 rc6 s ((HFE.out.1.2 mj (List.mem_of_getElem? hmj)).2) W2 (hru6.but (But.of_below (S := fun _ => False) hW) (fun _ h => h.elim)))
                  clear hMr6 hmo6 hnr6 hru6
                  clear hmj
                  go_wp2_with fail
                  refine (HQ6.out _ (Below.refl _ _)).mono ?_
                  rintro e w3 ⟨rfl, hb3⟩
                  have HB3 := Lib.hid (HBq.out.trans (hb3.mono HBq.out.size))
                  have HM3 := Lib.hid (HMq.out.below hb3)
                  obtain ⟨qq, hqq⟩ : ∃ z, ruleN mj s = z := ⟨_, rfl⟩
                  rw [HRA.out, hqq] at HST
                  rw [hqq]
                  clear hb3 hqq HQ6 HNR6 HBq HMq HRA c06 c16 c26 c36 c46 c56 c66 c76 c86 c96 cA6 hb6
                  by_cases hq1 : 0 ≤ qq
                  · have hq2 : decide (0 ≤ qq) = true := decide_eq_true hq1
                    have HE := Lib.hid (HST.out.trans (if_pos ⟨hf0, hq1⟩)).symm
                    go_wp2
                    go_roundw
                    case rel => exact ⟨k, (jj : Int), (k : Int) - 1, rfl, by go_num, rfl, by omega, Lib.hid HE.out, HM3, HB3⟩
                    case measure => (simp [intOf] <;> omega)
                  · have hq2 : decide (0 ≤ qq) = false := decide_eq_false hq1
                    have HE := Lib.hid (HST.out.trans (if_neg (fun h => hq1 h.2))).symm
                    go_wp2
                    go_roundw
                    case rel => exact ⟨k, c, (k : Int) - 1, rfl, by go_num, rfl, by omega, Lib.hid HE.out, HM3, HB3⟩
                    case measure => (simp [intOf] <;> omega)
                · have hf1 : decide ((0 : Int) ≤ fx) = false := decide_eq_false hf0
                  have HE := Lib.hid (HST.out.trans (if_neg (fun h => hf0 h.1))).symm
                  go_wp2
                  go_roundw
                  case rel => exact ⟨k, c, (k : Int) - 1, rfl, by go_num, rfl, by omega, Lib.hid HE.out, HMq, HBq⟩
                  case measure => (simp [intOf] <;> omega)
              | zero =>
                have hm1 : decide ((0 : Int) ≤ z) = false := decide_eq_false (by omega)
                clear hz
                rw [List.drop_zero] at HC
                obtain ⟨nn7, hMr7⟩ := HM.out
                obtain ⟨b7, off7, io7, ic7, ko7, kc7, ro7, rc7, hmo7, hb7, _, c07, c17, c27, c37, c47, c57, c67, c77, c87, c97, cA7, hnr7, -, hru7⟩ := hMr7 i m HMM.out
                obtain ⟨rfl, rfl⟩ : b = b7 ∧ off = off7 := by
                  have h9 := hmo7
                  injection h9 with h9; injection h9 with h9 h10
                  exact ⟨h9, h10⟩
                have HNR7 := Lib.hid hnr7.hasN
                have HQ7 := Lib.hid (fun W2 (hW : Below wr.heap.size wr W2) => show Calls Try.prog 12 #[.agg #[.string m.nm, .slice io7 m.im.length ic7, .bool m.wet, .int .i64 m.wa.op, .string m.wa.text, .int .u64 m.wa.s0, .int .u64 m.wa.s1, .int .u64 m.wa.s2, .int .u64 m.wa.s3, .slice ko7 m.wa.kids.length kc7, .slice ro7 m.ru.length rc7], .string s] W2 fun e w' => e = .returned (.int .i64 (ruleN m s)) ∧ Below W2.heap.size W2 w' from rule_any m D nn7 io7 ic7 ko7 kc7 ro7 rc7 s ((HFE.out.1.2 m (List.mem_of_getElem? HMM.out)).2) W2 (hru7.but (But.of_below (S := fun _ => False) hW) (fun _ h => h.elim)))
                clear hMr7 hmo7 hnr7 hru7
                go_wp2_with fail
                refine (HQ7.out _ (Below.refl _ _)).mono ?_
                rintro e w3 ⟨rfl, hb3⟩
                have HB3 := Lib.hid (HB.out.trans (hb3.mono HB.out.size))
                have HM3 := Lib.hid (HM.out.below hb3)
                obtain ⟨rq, hrq⟩ : ∃ z, ruleN m s = z := ⟨_, rfl⟩
                have HRQ := Lib.hid hrq
                have HWM := Lib.hid (show wantM ML s m (i : Int) = if 0 ≤ rq then (i : Int) else c from by unfold wantM; rw [hrq, HC.out])
                rw [hrq]
                clear hb3 hrq HQ7 HNR7 HB HM c07 c17 c27 c37 c47 c57 c67 c77 c87 c97 cA7 hb7
                have HAW := Lib.hid (awake_any w3 (HX.out.below HB3.out))
                by_cases hr0 : 0 ≤ rq
                · have hr1 : decide (0 ≤ rq) = true := decide_eq_true hr0
                  have HW2 := HWR.out
                  rw [HWM.out, if_pos hr0] at HW2
                  unfold wantR at HW2
                  rw [if_pos (by omega), ruleAt_eq s (by rw [Int.toNat_natCast]; exact HMM.out)] at HW2
                  injection HW2 with e1 e2
                  injection e2 with e2 e3
                  subst e1 e2 e3
                  clear HWR HWM HC
                  have HJ := Lib.hid (show (0 : Int) ≤ (i : Int) from by omega)
                  have hjge : decide ((0 : Int) ≤ (i : Int)) = true := decide_eq_true (by omega)
                  go_wp2_with fail
                  refine HAW.out.mono ?_
                  rintro e w4 ⟨rfl, hb4⟩
                  have HB4 := Lib.hid (HB3.out.trans (hb4.mono HB3.out.size))
                  have HM4 := Lib.hid (HM3.out.below hb4)
                  clear hb4 HB3 HM3 HAW
                  obtain ⟨nn8, hMr8⟩ := HM4.out
                  obtain ⟨b8, off8, io8, ic8, ko8, kc8, ro8, rc8, hmo8, hb8, _, c08, c18, c28, c38, c48, c58, c68, c78, c88, c98, cA8, hnr8, -, hru8⟩ := hMr8 i m HMM.out
                  obtain ⟨rfl, rfl⟩ : b = b8 ∧ off = off8 := by
                    have h9 := hmo8
                    injection h9 with h9; injection h9 with h9 h10
                    exact ⟨h9, h10⟩
                  have HNR8 := Lib.hid hnr8.hasN
                  have HQ8 := Lib.hid (fun W2 (hW : Below w4.heap.size w4 W2) => show Calls Try.prog 12 #[.agg #[.string m.nm, .slice io8 m.im.length ic8, .bool m.wet, .int .i64 m.wa.op, .string m.wa.text, .int .u64 m.wa.s0, .int .u64 m.wa.s1, .int .u64 m.wa.s2, .int .u64 m.wa.s3, .slice ko8 m.wa.kids.length kc8, .slice ro8 m.ru.length rc8], .string s] W2 fun e w' => e = .returned (.int .i64 (ruleN m s)) ∧ Below W2.heap.size W2 w' from rule_any m D nn8 io8 ic8 ko8 kc8 ro8 rc8 s ((HFE.out.1.2 m (List.mem_of_getElem? HMM.out)).2) W2 (hru8.but (But.of_below (S := fun _ => False) hW) (fun _ h => h.elim)))
                  clear hMr8 hmo8 hnr8 hru8
                  go_wp2_with fail
                  refine (HQ8.out _ (Below.refl _ _)).mono ?_
                  rintro e w5 ⟨rfl, hb5⟩
                  have HB5 := Lib.hid (HB4.out.trans (hb5.mono HB4.out.size))
                  go_wp2
                  go_ret
                  exact ⟨rfl, HB5.out⟩
                · have hr1 : decide (0 ≤ rq) = false := decide_eq_false hr0
                  have HW2 := HWR.out
                  rw [HWM.out, if_neg hr0] at HW2
                  have hcb : c = -1 ∨ (0 ≤ c ∧ c < n) := by
                    have hh := wantL_bd ML s m.im
                    rw [← HC.out, HN.out] at hh
                    exact hh
                  unfold wantR at HW2
                  by_cases hc0 : 0 ≤ c
                  · obtain ⟨jj, rfl⟩ : ∃ j : Nat, c = (j : Int) := ⟨c.toNat, by omega⟩
                    have hjn : jj < n := by omega
                    obtain ⟨mj, hmj⟩ : ∃ m, ML[jj]? = some m := ⟨_, List.getElem?_eq_getElem (by have := HN.out; omega)⟩
                    have HMJ := Lib.hid hmj
                    rw [if_pos hc0, ruleAt_eq s (by rw [Int.toNat_natCast]; exact hmj)] at HW2
                    injection HW2 with e1 e2
                    injection e2 with e2 e3
                    subst e1 e2 e3
                    clear HWR HWM HC hmj
                    have HJ := Lib.hid (show (0 : Int) ≤ (jj : Int) from by omega)
                    have hjge : decide ((0 : Int) ≤ (jj : Int)) = true := decide_eq_true (by omega)
                    go_wp2_with fail
                    refine HAW.out.mono ?_
                    rintro e w4 ⟨rfl, hb4⟩
                    have HB4 := Lib.hid (HB3.out.trans (hb4.mono HB3.out.size))
                    have HM4 := Lib.hid (HM3.out.below hb4)
                    clear hb4 HB3 HM3 HAW
                    obtain ⟨nn8, hMr8⟩ := HM4.out
                    obtain ⟨b8, off8, io8, ic8, ko8, kc8, ro8, rc8, hmo8, hb8, _, c08, c18, c28, c38, c48, c58, c68, c78, c88, c98, cA8, hnr8, -, hru8⟩ := hMr8 jj mj HMJ.out
                    obtain ⟨rfl, rfl⟩ : b = b8 ∧ off = off8 := by
                      have h9 := hmo8
                      injection h9 with h9; injection h9 with h9 h10
                      exact ⟨h9, h10⟩
                    have HNR8 := Lib.hid hnr8.hasN
                    have HQ8 := Lib.hid (fun W2 (hW : Below w4.heap.size w4 W2) => show Calls Try.prog 12 #[.agg #[.string mj.nm, .slice io8 mj.im.length ic8, .bool mj.wet, .int .i64 mj.wa.op, .string mj.wa.text, .int .u64 mj.wa.s0, .int .u64 mj.wa.s1, .int .u64 mj.wa.s2, .int .u64 mj.wa.s3, .slice ko8 mj.wa.kids.length kc8, .slice ro8 mj.ru.length rc8], .string s] W2 fun e w' => e = .returned (.int .i64 (ruleN mj s)) ∧ Below W2.heap.size W2 w' from rule_any mj D nn8 io8 ic8 ko8 kc8 ro8 rc8 s ((HFE.out.1.2 mj (List.mem_of_getElem? HMJ.out)).2) W2 (hru8.but (But.of_below (S := fun _ => False) hW) (fun _ h => h.elim)))
                    clear hMr8 hmo8 hnr8 hru8
                    go_wp2_with fail
                    refine (HQ8.out _ (Below.refl _ _)).mono ?_
                    rintro e w5 ⟨rfl, hb5⟩
                    have HB5 := Lib.hid (HB4.out.trans (hb5.mono HB4.out.size))
                    go_wp2
                    go_ret
                    exact ⟨rfl, HB5.out⟩
                  · rw [if_neg hc0] at HW2
                    injection HW2 with e1 e2
                    injection e2 with e2 e3
                    subst e1 e2 e3
                    have hc1 : decide ((0 : Int) ≤ c) = false := decide_eq_false hc0
                    clear HWR HWM HC
                    go_wp2_with fail
                    refine HAW.out.mono ?_
                    rintro e w4 ⟨rfl, hb4⟩
                    have HB4 := Lib.hid (HB3.out.trans (hb4.mono HB3.out.size))
                    go_wp2
                    go_ret
                    exact ⟨rfl, HB4.out⟩
end Go.Proofs.Ytihcmneidbjmlaa
