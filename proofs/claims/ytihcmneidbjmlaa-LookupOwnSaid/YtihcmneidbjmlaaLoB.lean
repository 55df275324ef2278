/- The law LookupOwn, walked. -/
import Derived.Test.YtihcmneidbjmlaaLoA
namespace Go.Proofs.Ytihcmneidbjmlaa
set_option linter.unusedVariables false
open Go.RowKit Go.Sort

set_option maxRecDepth 1000000 in
set_option maxHeartbeats 3200000 in
theorem own_walk (l : List ByteArray) (ao : Option Addr) (cap : Nat) (w : World) (hx : Mx w) (hl : HasN w ao l) : Calls Try.prog 4 #[.slice ao l.length cap] w fun e w' => e = .returned (.bool true) ∧ Below w.heap.size w w' := by
  have HX := Lib.hid hx
  have HPA := Lib.hid (parsed_any l ao cap w hl)
  obtain ⟨PO, hPO⟩ : ∃ r, prsO l = r := ⟨_, rfl⟩
  have HFW := Lib.hid (fun ML (h : PO = some ML) => (⟨prsO_few (hPO.trans h), prsF_word (show prsF _ l = some ML from hPO.trans h), prsF_apt (show prsF _ l = some ML from hPO.trans h)⟩ : (Few ML ∧ ML.length ≤ 5) ∧ (∀ m ∈ ML, Wds m) ∧ ∀ m ∈ ML, Apt m))
  rw [hPO] at HPA
  obtain ⟨nl, hnl⟩ : ∃ n, l.length = n := ⟨_, rfl⟩
  rw [hnl] at HPA
  rw [hnl]
  clear hx hl hPO hnl
  go_enter Try.func4, Try.ntmps4
  go_wp2_with fail
  refine HPA.out.mono ?_
  rintro e w1 ⟨hP, hb1⟩
  have HB1 := Lib.hid hb1
  clear hb1 HPA
  cases PO with
  | none =>
    have hP' : e = .returned (.tuple #[.slice none 0 0, .bool false]) := hP
    subst hP'
    clear HFW
    have HAW := Lib.hid (awake_any w1 (HX.out.below HB1.out))
    go_wp2_with fail
    refine HAW.out.mono ?_
    rintro e w9 ⟨rfl, hb9⟩
    have HB9 := Lib.hid (HB1.out.trans (hb9.mono HB1.out.size))
    go_wp2
    go_ret
    exact ⟨rfl, HB9.out⟩
  | some ML =>
    obtain ⟨mo, mc, he, hM⟩ : ∃ mo mc, e = .returned (.tuple #[.slice mo ML.length mc, .bool true]) ∧ HasMs w1 w.heap.size mo ML := hP
    subst he
    have HFE := Lib.hid (HFW.out ML rfl).1
    have HWD := Lib.hid (HFW.out ML rfl).2.1
    have HAP := Lib.hid (HFW.out ML rfl).2.2
    have HM1 := Lib.hid hM
    clear hM HFW
    obtain ⟨D, hD⟩ : ∃ D, w.heap.size = D := ⟨_, rfl⟩
    rw [hD] at HM1
    clear hD
    have hn5 := HFE.out.2
    obtain ⟨n, hnn⟩ : ∃ n, ML.length = n := ⟨_, rfl⟩
    rw [hnn] at hn5
    rw [hnn]
    have HN := Lib.hid hnn
    clear hnn
    by_cases hn0 : n = 0
    · subst hn0
      go_wp2_with fail
      go_loopw [5] (fun vi wr => vi = .int .i64 0 ∧ wr = w1) (fun _ _ => 0)
      case atStart => exact ⟨rfl, (by first | trivial | rfl)⟩
      case round =>
        obtain ⟨rfl, rfl⟩ := hrel
        go_wp2_with fail
        go_loopw [7] (fun vi wq => vi = .int .i64 0 ∧ wq = wr) (fun _ _ => 0)
        case atStart => exact ⟨rfl, (by first | trivial | rfl)⟩
        case round =>
          obtain ⟨rfl, rfl⟩ := hrel
          have HAW := Lib.hid (awake_any _ (HX.out.below HB1.out))
          go_wp2_with fail
          refine HAW.out.mono ?_
          rintro e w9 ⟨rfl, hb9⟩
          have HB9 := Lib.hid (HB1.out.trans (hb9.mono HB1.out.size))
          go_wp2
          go_ret
          exact ⟨rfl, HB9.out⟩
    · obtain ⟨b, off, hmo⟩ : ∃ b off, mo = some ⟨b, off, none⟩ := by
        obtain ⟨m, hm⟩ : ∃ m, ML[0]? = some m := ⟨_, List.getElem?_eq_getElem (by have := HN.out; omega)⟩
        obtain ⟨nn, hMr⟩ := HM1.out
        obtain ⟨b, off, io, ic, ko, kc, ro, rc, hmo, -⟩ := hMr 0 m hm
        exact ⟨b, off, hmo⟩
      subst hmo
      go_wp2_with fail
      go_loopw [5] (fun vi wr => ∃ i : Nat, vi = .int .i64 (i : Int) ∧ i ≤ n ∧ Hid (∀ a c ma mc, a < i → ML[a]? = some ma → ML[c]? = some mc → c < a → ¬ ma.nm = mc.nm) ∧ Hid (HasMs wr D (some ⟨b, off, none⟩) ML) ∧ Hid (Below w.heap.size w wr)) (fun vi _ => n - (intOf vi).toNat)
      case atStart => exact ⟨0, rfl, Nat.zero_le _, Lib.hid (fun a c ma mc h => absurd h (Nat.not_lt_zero _)), HM1, HB1⟩
      case round =>
        obtain ⟨i, rfl, hi, HA, HMx, HBx⟩ := hrel
        clear HM1 HB1
        have hw1 : IntKind.i64.wrap ((i : Int) + 1) = (i : Int) + 1 := by rw [IntKind.wrap_i64]; omega
        by_cases hin : i < n
        · have hin' : decide ((i : Int) < (n : Int)) = true := decide_eq_true (by omega)
          have hinn : decide (i < n) = true := decide_eq_true (by omega)
          obtain ⟨mi, hmi⟩ : ∃ m, ML[i]? = some m := ⟨_, List.getElem?_eq_getElem (by have := HN.out; omega)⟩
          have HMI := Lib.hid hmi
          clear hmi
          go_wp2_with fail
          go_loopw [6] (fun vk wq => ∃ k : Nat, vk = .int .i64 (k : Int) ∧ k ≤ i ∧ Hid (∀ c mc, c < k → ML[c]? = some mc → ¬ mi.nm = mc.nm) ∧ Hid (HasMs wq D (some ⟨b, off, none⟩) ML) ∧ Hid (Below w.heap.size w wq)) (fun vk _ => i - (intOf vk).toNat)
          case atStart => exact ⟨0, rfl, Nat.zero_le _, Lib.hid (fun c mc h => absurd h (Nat.not_lt_zero _)), HMx, HBx⟩
          case round =>
            obtain ⟨k, rfl, hk, HC, HMy, HBy⟩ := hrel
            clear HMx HBx
            have hw2 : IntKind.i64.wrap ((k : Int) + 1) = (k : Int) + 1 := by rw [IntKind.wrap_i64]; omega
            by_cases hki : k < i
            · have hki' : decide ((k : Int) < (i : Int)) = true := decide_eq_true (by omega)
              have hkin : decide (k < i) = true := decide_eq_true (by omega)
              have hkn : k < n := by omega
              obtain ⟨mk, hmk⟩ : ∃ m, ML[k]? = some m := ⟨_, List.getElem?_eq_getElem (by have := HN.out; omega)⟩
              have HMK := Lib.hid hmk
              clear hmk
              obtain ⟨nn2, hMr2⟩ := HMy.out
              obtain ⟨b2, off2, io2, ic2, ko2, kc2, ro2, rc2, hmo2, hb2, _, c02, c12, c22, c32, c42, c52, c62, c72, c82, c92, cA2, hnr2, -, hru2⟩ := hMr2 i mi HMI.out
              obtain ⟨rfl, rfl⟩ : b = b2 ∧ off = off2 := by
                have h9 := hmo2
                injection h9 with h9; injection h9 with h9 h10
                exact ⟨h9, h10⟩
              have HNR2 := Lib.hid hnr2.hasN
              have HRU2 := Lib.hid hru2
              clear hMr2 hmo2 hnr2 hru2 c22 c32 c42 c52 c62 c72 c82 c92
              clear c12
              clear cA2
              obtain ⟨nn3, hMr3⟩ := HMy.out
              obtain ⟨b3, off3, io3, ic3, ko3, kc3, ro3, rc3, hmo3, hb3, _, c03, c13, c23, c33, c43, c53, c63, c73, c83, c93, cA3, hnr3, -, hru3⟩ := hMr3 k mk HMK.out
              obtain ⟨rfl, rfl⟩ : b = b3 ∧ off = off3 := by
                have h9 := hmo3
                injection h9 with h9; injection h9 with h9 h10
                exact ⟨h9, h10⟩
              have HNR3 := Lib.hid hnr3.hasN
              have HRU3 := Lib.hid hru3
              clear hMr3 hmo3 hnr3 hru3 c23 c33 c43 c53 c63 c73 c83 c93
              clear c13
              clear cA3
              obtain ⟨z, hz⟩ : ∃ z, (mi.nm.toList == mk.nm.toList) = z := ⟨_, rfl⟩
              have HZ := Lib.hid hz
              go_wp2_with fail
              go_quiet (fail)
              have HM1 := Lib.hid (HMy.out.below (below_drewN (Below.refl _ _) nq))
              have HB1 := Lib.hid (below_drewN HBy.out nq)
              clear HMy HBy c02 c03 hb2 hb3 HNR2 HNR3 HRU2 HRU3 hz
              generalize wr.drewN nq = wz at *
              cases z with
              | true =>
                go_wp2_with fail
                have HAW := Lib.hid (awake_any wz (HX.out.below HB1.out))
                refine HAW.out.mono ?_
                rintro e w9 ⟨rfl, hb9⟩
                have HB9 := Lib.hid (HB1.out.trans (hb9.mono HB1.out.size))
                go_wp2
                go_ret
                exact ⟨rfl, HB9.out⟩
              | false =>
                have HC1 := Lib.hid (show ∀ c mc, c < k + 1 → ML[c]? = some mc → ¬ mi.nm = mc.nm from fun c mc hc hmc => by
                  by_cases e : c = k
                  · subst e
                    rw [HMK.out] at hmc
                    injection hmc with hmc
                    subst hmc
                    have q := HZ.out
                    rw [beq_eq_false_iff_ne] at q
                    exact fun h => q (by rw [h])
                  · exact HC.out c mc (by omega) hmc)
                go_wp2
                go_roundw
                case rel => exact ⟨k + 1, by go_num, by omega, HC1, HM1, HB1⟩
                case measure => simp [intOf]; omega
            · have hki' : decide ((k : Int) < (i : Int)) = false := decide_eq_false (by omega)
              have hkin : decide (k < i) = false := decide_eq_false (by omega)
              have HA1 := Lib.hid (show ∀ a c ma mc, a < i + 1 → ML[a]? = some ma → ML[c]? = some mc → c < a → ¬ ma.nm = mc.nm from fun a c ma mc ha hma hmc hca => by
                by_cases e : a = i
                · subst e
                  rw [HMI.out] at hma
                  injection hma with hma
                  subst hma
                  exact HC.out c mc (by omega) hmc
                · exact HA.out a c ma mc (by omega) hma hmc hca)
              clear HC HA
              go_wp2
              first
                | exact ⟨⟨i + 1, by go_num, by omega, HA1, HMy, HBy⟩, by simp [intOf]; omega⟩
                | (go_roundw
                   case rel => exact ⟨i + 1, by go_num, by omega, HA1, HMy, HBy⟩
                   case measure => simp [intOf]; omega)
        · have hin' : decide ((i : Int) < (n : Int)) = false := decide_eq_false (by omega)
          have hinn : decide (i < n) = false := decide_eq_false (by omega)
          have HAPS := Lib.hid (show Aps ML from fun a c ma mc hma hmc hca => HA.out a c ma mc (by have := (List.getElem?_eq_some_iff.1 hma).1; have := HN.out; omega) hma hmc hca)
          clear HA hin
          have HRS := Lib.hid (fun (j : Nat) (c : ByteArray) (r : Rv) (hs : c.size ≤ 1000000) (he : resO ML (j : Int) c = r) W (hW : HasMs W D (some ⟨b, off, none⟩) ML) (hX : Mx W) => show Calls Try.prog 8 #[.slice (some ⟨b, off, none⟩) n mc, .int .i64 (j : Int), .string c] W fun e w' => e = .returned (rvV r) ∧ Below W.heap.size W w' from by have q := resolve_any ML D (some ⟨b, off, none⟩) mc (j : Int) c hs HFE.out.1 W hW hX; rw [he, HN.out] at q; exact q)
          go_wp2_with fail
          go_loopw [7] (fun vi w2 => ∃ i : Nat, vi = .int .i64 (i : Int) ∧ i ≤ n ∧ Hid (HasMs w2 D (some ⟨b, off, none⟩) ML) ∧ Hid (Below w.heap.size w w2)) (fun vi _ => n - (intOf vi).toNat)
          case atStart => exact ⟨0, rfl, Nat.zero_le _, HMx, HBx⟩
          case round =>
            clear hw1
            obtain ⟨i2, rfl, hi2, HM, HB⟩ := hrel
            clear HMx HBx hi hin' hinn
            have hw1 : IntKind.i64.wrap ((i2 : Int) + 1) = (i2 : Int) + 1 := by rw [IntKind.wrap_i64]; omega
            by_cases hin : i2 < n
            · have hin' : decide ((i2 : Int) < (n : Int)) = true := decide_eq_true (by omega)
              have hinn : decide (i2 < n) = true := decide_eq_true (by omega)
              obtain ⟨mi, hmi⟩ : ∃ m, ML[i2]? = some m := ⟨_, List.getElem?_eq_getElem (by have := HN.out; omega)⟩
              have HMI := Lib.hid hmi
              obtain ⟨nr, hnr⟩ : ∃ z, mi.ru.length = z := ⟨_, rfl⟩
              have HNRU := Lib.hid hnr
              have hnr9 : (nr : Int) ≤ 1000000 := by have := (HFE.out.1.2 mi (List.mem_of_getElem? hmi)).2; omega
              clear hmi hnr
              go_wp2_with fail
              go_loopw [8] (fun vk w3 => ∃ k : Nat, vk = .int .i64 (k : Int) ∧ k ≤ nr ∧ Hid (HasMs w3 D (some ⟨b, off, none⟩) ML) ∧ Hid (Below w.heap.size w w3)) (fun vk _ => nr - (intOf vk).toNat)
              case atStart => exact ⟨0, rfl, Nat.zero_le _, HM, HB⟩
              case round =>
                obtain ⟨k, rfl, hk, HM3, HB3⟩ := hrel
                clear HM HB
                have hw2 : IntKind.i64.wrap ((k : Int) + 1) = (k : Int) + 1 := by rw [IntKind.wrap_i64]; omega
                obtain ⟨nn4, hMr4⟩ := HM3.out
                obtain ⟨b4, off4, io4, ic4, ko4, kc4, ro4, rc4, hmo4, hb4, _, c04, c14, c24, c34, c44, c54, c64, c74, c84, c94, cA4, hnr4, -, hru4⟩ := hMr4 i2 mi HMI.out
                obtain ⟨rfl, rfl⟩ : b = b4 ∧ off = off4 := by
                  have h9 := hmo4
                  injection h9 with h9; injection h9 with h9 h10
                  exact ⟨h9, h10⟩
                have HNR4 := Lib.hid hnr4.hasN
                have HRU4 := Lib.hid hru4
                clear hMr4 hmo4 hnr4 hru4 c24 c34 c44 c54 c64 c74 c84 c94
                clear c14
                rw [HNRU.out] at cA4
                by_cases hkr : k < nr
                · have hkr' : decide ((k : Int) < (nr : Int)) = true := decide_eq_true (by omega)
                  have hkrn : decide (k < nr) = true := decide_eq_true (by omega)
                  obtain ⟨r, hr⟩ : ∃ r, mi.ru[k]? = some r := ⟨_, List.getElem?_eq_getElem (by have := HNRU.out; omega)⟩
                  obtain ⟨b1, off1, ko1, kc1, hro, hb1, -, d0, -⟩ := HRU4.out k r hr
                  subst hro
                  have HWI := Lib.hid (HWD.out mi (List.mem_of_getElem? HMI.out))
                  have HAI := Lib.hid (HAP.out mi (List.mem_of_getElem? HMI.out))
                  have HWR := Lib.hid (HWI.out r (List.mem_of_getElem? hr))
                  have HSR := Lib.hid (show r.1.size ≤ 12 from word_size HWR.out)
                  have HSM := Lib.hid (show mi.nm.size ≤ 12 from word_size HAI.out.1)
                  have HLO := Lib.hid (own_lone HWI.out HAI.out HMI.out hr)
                  have HBO := Lib.hid (fun (j : Nat) (mj : Md) (hj : ML[j]? = some mj) (c : ByteArray) (hc : c.data.toList = mi.nm.data.toList ++ ([58, 58] ++ r.1.data.toList)) => own_both HAPS.out HWI.out HAI.out HMI.out hj hr hc)
                  obtain ⟨c, hcd⟩ : ∃ c, mi.nm ++ ⟨#[58, 58]⟩ ++ r.1 = c := ⟨_, rfl⟩
                  have HCL := Lib.hid (show c.data.toList = mi.nm.data.toList ++ ([58, 58] ++ r.1.data.toList) from by rw [← hcd]; simp [ByteArray.data_append])
                  have HCS := Lib.hid (show c.size ≤ 1000000 from by
                    have h58 : (⟨#[58, 58]⟩ : ByteArray).size = 2 := rfl
                    have h1 := HSR.out
                    have h2 := HSM.out
                    rw [← hcd]; simp; omega)
                  have HCD := Lib.hid hcd
                  have hq1 : (mi.nm.size : Int) ≤ 50 := by have := HSM.out; omega
                  have hq2 : (r.1.size : Int) ≤ 50 := by have := HSR.out; omega
                  clear hr hcd HRU4 HNR4
                  go_wp2_with fail
                  refine (HRS.out i2 r.1 _ (by have := HSR.out; omega) HLO.out wr HM3.out (HX.out.below HB3.out)).mono ?_
                  rintro e w4 ⟨rfl, hb4⟩
                  have HB4 := Lib.hid (HB3.out.trans (hb4.mono HB3.out.size))
                  have HM4 := Lib.hid (HM3.out.below hb4)
                  unfold rvV
                  have c04' := keepc c04 hb4
                  clear hb4 HM3 HB3
                  go_wp2_with fail
                  rw [HCD.out]
                  have HBI := Lib.hid (show resO ML (i2 : Int) c = ((i2 : Int), (k : Int), true) from by rw [HBO.out i2 mi HMI.out c HCL.out, if_pos (by simp)])
                  refine (HRS.out i2 c _ HCS.out HBI.out w4 HM4.out (HX.out.below HB4.out)).mono ?_
                  rintro e w5 ⟨rfl, hb5⟩
                  have HB5 := Lib.hid (HB4.out.trans (hb5.mono HB4.out.size))
                  have HM5 := Lib.hid (HM4.out.below hb5)
                  unfold rvV
                  clear hb5 HM4 HB4 c04' c04 cA4 d0 hb1 hb4
                  have hii : ((i2 : Int) == (i2 : Int)) = true := by simp
                  go_wp2_with fail
                  go_loopw [16] (fun vj w6 => ∃ j : Nat, vj = .int .i64 (j : Int) ∧ j ≤ n ∧ Hid (HasMs w6 D (some ⟨b, off, none⟩) ML) ∧ Hid (Below w.heap.size w w6)) (fun vj _ => n - (intOf vj).toNat)
                  case atStart => exact ⟨0, rfl, Nat.zero_le _, HM5, HB5⟩
                  case round =>
                    obtain ⟨j, rfl, hj, HM6, HB6⟩ := hrel
                    clear HM5 HB5
                    have hw3 : IntKind.i64.wrap ((j : Int) + 1) = (j : Int) + 1 := by rw [IntKind.wrap_i64]; omega
                    by_cases hjn : j < n
                    · have hjn' : decide ((j : Int) < (n : Int)) = true := decide_eq_true (by omega)
                      have hjnn : decide (j < n) = true := decide_eq_true (by omega)
                      obtain ⟨mj, hmj⟩ : ∃ m, ML[j]? = some m := ⟨_, List.getElem?_eq_getElem (by have := HN.out; omega)⟩
                      have HMJ := Lib.hid hmj
                      have HIJ := Lib.hid (show (mj.im.length : Int) ≤ 90000 from by have := (HFE.out.1.2 mj (List.mem_of_getElem? hmj)).1; omega)
                      clear hmj
                      obtain ⟨nn5, hMr5⟩ := HM6.out
                      obtain ⟨b5, off5, io5, ic5, ko5, kc5, ro5, rc5, hmo5, hb5, _, c05, c15, c25, c35, c45, c55, c65, c75, c85, c95, cA5, hnr5, -, hru5⟩ := hMr5 i2 mi HMI.out
                      obtain ⟨rfl, rfl⟩ : b = b5 ∧ off = off5 := by
                        have h9 := hmo5
                        injection h9 with h9; injection h9 with h9 h10
                        exact ⟨h9, h10⟩
                      have HNR5 := Lib.hid hnr5.hasN
                      have HRU5 := Lib.hid hru5
                      clear hMr5 hmo5 hnr5 hru5 c25 c35 c45 c55 c65 c75 c85 c95
                      clear c15
                      rw [HNRU.out] at cA5
                      obtain ⟨r', hr'⟩ : ∃ r', mi.ru[k]? = some r' := ⟨_, List.getElem?_eq_getElem (by have := HNRU.out; omega)⟩
                      have HBJ := Lib.hid (HBO.out j mj HMJ.out c HCL.out)
                      obtain ⟨z, hz⟩ : ∃ z, (j == i2 || hasB mj.im mi.nm) = z := ⟨_, rfl⟩
                      have HZ := Lib.hid hz
                      rw [hz] at HBJ
                      clear hz hr'
                      go_wp2_with fail
                      rw [HCD.out]
                      refine (HRS.out j c _ HCS.out HBJ.out wr HM6.out (HX.out.below HB6.out)).mono ?_
                      rintro e w7 ⟨rfl, hb7⟩
                      have HB7 := Lib.hid (HB6.out.trans (hb7.mono HB6.out.size))
                      have HM7 := Lib.hid (HM6.out.below hb7)
                      clear hb7 HM6 HB6 c05 cA5 HRU5 HNR5 hb5
                      obtain ⟨nn6, hMr6⟩ := HM7.out
                      obtain ⟨b6, off6, io6, ic6, ko6, kc6, ro6, rc6, hmo6, hb6, _, c06, c16, c26, c36, c46, c56, c66, c76, c86, c96, cA6, hnr6, -, hru6⟩ := hMr6 i2 mi HMI.out
                      obtain ⟨rfl, rfl⟩ : b = b6 ∧ off = off6 := by
                        have h9 := hmo6
                        injection h9 with h9; injection h9 with h9 h10
                        exact ⟨h9, h10⟩
                      have HNR6 := Lib.hid hnr6.hasN
                      have HRU6 := Lib.hid hru6
                      clear hMr6 hmo6 hnr6 hru6 c26 c36 c46 c56 c66 c76 c86 c96
                      clear c16
                      clear cA6
                      obtain ⟨nn7, hMr7⟩ := HM7.out
                      obtain ⟨b7, off7, io7, ic7, ko7, kc7, ro7, rc7, hmo7, hb7, _, c07, c17, c27, c37, c47, c57, c67, c77, c87, c97, cA7, hnr7, -, hru7⟩ := hMr7 j mj HMJ.out
                      obtain ⟨rfl, rfl⟩ : b = b7 ∧ off = off7 := by
                        have h9 := hmo7
                        injection h9 with h9; injection h9 with h9 h10
                        exact ⟨h9, h10⟩
                      have HNR7 := Lib.hid hnr7.hasN
                      have HRU7 := Lib.hid hru7
                      clear hMr7 hmo7 hnr7 hru7 c27 c37 c47 c57 c67 c77 c87 c97
                      clear c07
                      clear cA7
                      have HHA := Lib.hid (fun W (hW : HasN W io7 mj.im) => show Calls Try.prog 14 #[.slice io7 mj.im.length ic7, .string mi.nm] W fun e w' => e = .returned (.bool (hasB mj.im mi.nm)) ∧ w' = W from (has_any mj.im io7 ic7 mi.nm HIJ.out W hW).mono fun e w' h => ⟨h.1, h.2.symm⟩)
                      have HNW := Lib.hid (show HasN w7 io7 mj.im from HNR7.out)
                      by_cases hji : j = i2
                      · subst hji
                        obtain rfl : z = true := by rw [← HZ.out]; simp
                        rw [if_pos rfl]
                        unfold rvV
                        go_wp2_with fail
                        go_quiet (fail)
                        have HM8 := Lib.hid (HM7.out.below (below_drewN (Below.refl _ _) nq))
                        have HB8 := Lib.hid (below_drewN HB7.out nq)
                        go_wp2
                        go_roundw
                        case rel => exact ⟨j + 1, by go_num, by omega, HM8, HB8⟩
                        case measure => simp [intOf]; omega
                      · have hji1 : decide ((j : Int) = (i2 : Int)) = false := decide_eq_false (by omega)
                        have hji2 : ((j : Int) == (i2 : Int)) = false := by rw [beq_eq_false_iff_ne]; omega
                        have HZ2 := Lib.hid (show hasB mj.im mi.nm = z from by rw [← HZ.out, show (j == i2) = false from by rw [beq_eq_false_iff_ne]; exact hji, Bool.false_or])
                        rw [HZ2.out] at HHA
                        cases z with
                        | true =>
                          rw [if_pos rfl]
                          unfold rvV
                          go_wp2_with fail
                          go_quiet (first | (go_at_call 14; with_reducible exact Calls.quiet_of_same (HHA.out _ (HNW.out.below (below_drewN (Below.refl _ _) _)))))
                          have HM8 := Lib.hid (HM7.out.below (below_drewN (Below.refl _ _) nq))
                          have HB8 := Lib.hid (below_drewN HB7.out nq)
                          go_wp2
                          go_roundw
                          case rel => exact ⟨j + 1, by go_num, by omega, HM8, HB8⟩
                          case measure => simp [intOf]; omega
                        | false =>
                          rw [if_neg (by simp)]
                          unfold rvV
                          go_wp2_with fail
                          go_quiet (first | (go_at_call 14; with_reducible exact Calls.quiet_of_same (HHA.out _ (HNW.out.below (below_drewN (Below.refl _ _) _)))))
                          have HM8 := Lib.hid (HM7.out.below (below_drewN (Below.refl _ _) nq))
                          have HB8 := Lib.hid (below_drewN HB7.out nq)
                          go_wp2
                          go_roundw
                          case rel => exact ⟨j + 1, by go_num, by omega, HM8, HB8⟩
                          case measure => simp [intOf]; omega
                    · have hjn' : decide ((j : Int) < (n : Int)) = false := decide_eq_false (by omega)
                      have hjnn : decide (j < n) = false := decide_eq_false (by omega)
                      go_wp2
                      first
                        | exact ⟨⟨k + 1, by go_num, by omega, HM6, HB6⟩, by simp [intOf]; omega⟩
                        | (go_roundw
                           case rel => exact ⟨k + 1, by go_num, by omega, HM6, HB6⟩
                           case measure => simp [intOf]; omega)
                · have hkr' : decide ((k : Int) < (nr : Int)) = false := decide_eq_false (by omega)
                  have hkrn : decide (k < nr) = false := decide_eq_false (by omega)
                  go_wp2
                  first
                    | exact ⟨⟨i2 + 1, by go_num, by omega, HM3, HB3⟩, by simp [intOf]; omega⟩
                    | (go_roundw
                       case rel => exact ⟨i2 + 1, by go_num, by omega, HM3, HB3⟩
                       case measure => simp [intOf]; omega)
            · have hin' : decide ((i2 : Int) < (n : Int)) = false := decide_eq_false (by omega)
              have hinn : decide (i2 < n) = false := decide_eq_false (by omega)
              have HAW := Lib.hid (awake_any wr (HX.out.below HB.out))
              go_wp2_with fail
              refine HAW.out.mono ?_
              rintro e w9 ⟨rfl, hb9⟩
              have HB9 := Lib.hid (HB.out.trans (hb9.mono HB.out.size))
              go_wp2
              go_ret
              exact ⟨rfl, HB9.out⟩
end Go.Proofs.Ytihcmneidbjmlaa
