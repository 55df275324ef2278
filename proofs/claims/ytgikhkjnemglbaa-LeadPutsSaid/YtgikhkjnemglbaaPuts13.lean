/- LeadPuts: the law's own, walked. -/
import Derived.Test.YtgikhkjnemglbaaMd
import Derived.Test.YtgikhkjnemglbaaOpenU
import Derived.Deep.CutBlock
namespace Go.Proofs.Ytgikhkjnemglbaa
set_option linter.unusedVariables false
open Go.RowKit Go.Sort

/-- All put, one behind the other. -/
def allP (L : List Nat) : List Int := L.foldl (fun (A : List Int) (x : Nat) => putL A (x : Int)) []
/-- How many are unlike. -/
def unlk : List Nat → List Nat → Nat
  | _, [] => 0
  | A, x :: r => (if x ∈ A then 0 else 1) + unlk (A ++ [x]) r
theorem allP_snoc {L : List Nat} {k x : Nat} (h : L[k]? = some x) : allP (L.take (k + 1)) = putL (allP (L.take k)) (x : Int) := by
  obtain ⟨h1, h2⟩ := List.getElem?_eq_some_iff.1 h
  unfold allP
  rw [List.take_succ_eq_append_getElem h1, List.foldl_append, h2]
  rfl
theorem allP_ris : ∀ (L : List Nat) (A : List Int), RisL A → RisL (L.foldl (fun (A : List Int) (x : Nat) => putL A (x : Int)) A)
  | [], A, h => h
  | x :: r, A, h => allP_ris r _ (h.put _)
theorem allP_mem : ∀ (L : List Nat) (A : List Int) (y : Int), y ∈ L.foldl (fun (A : List Int) (x : Nat) => putL A (x : Int)) A ↔ y ∈ A ∨ ∃ x ∈ L, y = (x : Int)
  | [], A, y => by simp
  | z :: r, A, y => by
    rw [List.foldl_cons, allP_mem r, putL_mem]
    constructor
    · rintro ((h | h) | ⟨x, hx, e⟩)
      · exact .inr ⟨z, List.mem_cons_self .., h⟩
      · exact .inl h
      · exact .inr ⟨x, List.mem_cons_of_mem _ hx, e⟩
    · rintro (h | ⟨x, hx, e⟩)
      · exact .inl (.inr h)
      · rcases List.mem_cons.1 hx with rfl | hx
        · exact .inl (.inl e)
        · exact .inr ⟨x, hx, e⟩
theorem putL_had (n : Int) : ∀ (A : List Int), RisL A → n ∈ A → (putL A n).length = A.length
  | [], _, h => by cases h
  | x :: r, hr, h => by
    unfold putL
    by_cases hx : x < n
    · rw [if_pos hx, List.length_cons, List.length_cons]
      rcases List.mem_cons.1 h with e | h
      · omega
      · rw [putL_had n r hr.2 h]
    · rw [if_neg hx]
      rcases List.mem_cons.1 h with e | h
      · rw [if_pos e.symm]
      · have := hr.1 n h; omega
theorem putL_new1 (n : Int) : ∀ (A : List Int), n ∉ A → (putL A n).length = A.length + 1
  | [], _ => rfl
  | x :: r, h => by
    have h1 : ¬ n = x := fun e => h (by rw [e]; exact List.mem_cons_self ..)
    have h2 : n ∉ r := fun e => h (List.mem_cons_of_mem _ e)
    unfold putL
    by_cases hx : x < n
    · rw [if_pos hx, List.length_cons, List.length_cons, putL_new1 n r h2]
    · rw [if_neg hx, if_neg (fun e => h1 e.symm)]
      rfl
theorem allP_step {L : List Nat} {k x : Nat} (h : L[k]? = some x) : (allP (L.take (k + 1))).length = (allP (L.take k)).length + (if x ∈ L.take k then 0 else 1) := by
  rw [allP_snoc h]
  have hm : (x : Int) ∈ allP (L.take k) ↔ (x : Int) ∈ [] ∨ ∃ y ∈ L.take k, (x : Int) = (y : Int) := allP_mem (L.take k) [] (x : Int)
  by_cases hx : x ∈ L.take k
  · rw [if_pos hx, putL_had _ _ (show RisL (allP (L.take k)) from allP_ris _ [] trivial) (hm.2 (.inr ⟨x, hx, rfl⟩))]
    rfl
  · rw [if_neg hx, putL_new1]
    intro hc
    rcases hm.1 hc with h | ⟨y, hy, e⟩
    · cases h
    · have : x = y := by omega
      exact hx (this ▸ hy)
theorem take_any {L : List Nat} {k x : Nat} (z : Int) (h : L[k]? = some x) : (L.take (k + 1)).any (fun y => (y : Int) == z) = ((L.take k).any (fun y => (y : Int) == z) || (x : Int) == z) := by
  obtain ⟨h1, h2⟩ := List.getElem?_eq_some_iff.1 h
  rw [List.take_succ_eq_append_getElem h1, List.any_append, h2]
  simp
theorem any_has {L : List Nat} {z : Nat} : L.any (fun y => (y : Int) == (z : Int)) = true ↔ z ∈ L := by
  rw [List.any_eq_true]
  constructor
  · rintro ⟨y, hy, e⟩
    rw [beq_iff_eq] at e
    have : y = z := by omega
    exact this ▸ hy
  · exact fun h => ⟨z, h, beq_self_eq_true _⟩
theorem takeI_any {L : List Int} {k : Nat} (z : Int) (h : k < L.length) : (L.take (k + 1)).any (fun y => y == z) = ((L.take k).any (fun y => y == z) || L.getD k 0 == z) := by
  rw [List.take_succ_eq_append_getElem h, List.any_append, List.getD_eq_getElem?_getD, List.getElem?_eq_getElem h]
  simp

set_option maxRecDepth 1000000 in
set_option maxHeartbeats 9600000 in
theorem puts13_walk (L : List Nat) (ao : Option Addr) (cap : Nat) (w : World) (hl : HasB w.heap.size w ao L) :
    Calls Try.prog 10 #[.slice ao L.length cap] w fun e w' => e = .returned (.bool true) ∧ Below w.heap.size w w' := by
  have HL := Lib.hid hl
  obtain ⟨n, hn⟩ : ∃ n, L.length = n := ⟨_, rfl⟩
  have HN := Lib.hid hn
  rw [hn]
  clear hl hn
  go_enter Try.func10, Try.ntmps10
  by_cases h60 : (60 : Int) < n
  · have h61 : decide ((60 : Int) < (n : Int)) = true := decide_eq_true h60
    have h62 : decide (60 < n) = true := decide_eq_true (by omega)
    have HAW := Lib.hid (awake13_any w)
    go_wp2_with fail
    refine HAW.out.mono ?_
    rintro e w5 ⟨he, hb5⟩
    subst he
    have HBZ := Lib.hid hb5
    clear hb5
    go_wp2
    go_ret
    exact ⟨rfl, HBZ.out⟩
  have h61 : decide ((60 : Int) < (n : Int)) = false := decide_eq_false h60
  have h62 : decide (60 < n) = false := decide_eq_false (by omega)
  have hn60 : (n : Int) ≤ 60 := by omega
  clear h60
  go_wp2_with fail
  go_loopw [3, 4, 5] (fun v3 v4 v5 wr => ∃ k : Nat, v5 = .int .i64 (k : Int) ∧ (k : Int) ≤ n ∧ v4 = .int .i64 ((allP (L.take k)).length : Int) ∧ Hid (IntsAt wr 0 v3 (allP (L.take k))) ∧ Hid (Below w.heap.size w wr)) (fun _ _ v5 _ => n - (intOf v5).toNat)
  case atStart => exact ⟨0, rfl, by omega, rfl, Lib.hid (IntsAt.nil _ _), Lib.hid (Below.refl _ _)⟩
  case round =>
    obtain ⟨k, rfl, hk, rfl, HI, HB⟩ := hrel
    by_cases hkn : (k : Int) < n
    · have hk1 : decide ((k : Int) < (n : Int)) = true := decide_eq_true hkn
      have hk2 : decide (k < n) = true := decide_eq_true (by omega)
      have hw1 : IntKind.i64.wrap ((k : Int) + 1) = (k : Int) + 1 := by rw [IntKind.wrap_i64]; omega
      obtain ⟨x, hx⟩ : ∃ x, L[k]? = some x := ⟨_, List.getElem?_eq_getElem (by have := HN.out; omega)⟩
      have HX := Lib.hid hx
      have HST := Lib.hid (allP_step hx)
      have HSN := Lib.hid (allP_snoc hx)
      obtain ⟨A, hA⟩ : ∃ A, allP (L.take k) = A := ⟨_, rfl⟩
      have HAL := Lib.hid (show A.length ≤ k from by
        have h0 : ∀ j, j ≤ L.length → (allP (L.take j)).length ≤ j := fun j => by
          induction j with
          | zero => exact fun _ => Nat.le_refl _
          | succ j ih =>
            intro hj
            obtain ⟨y, hy⟩ : ∃ y, L[j]? = some y := ⟨_, List.getElem?_eq_getElem (by omega)⟩
            rw [allP_step hy]
            have := ih (by omega)
            split <;> omega
        rw [← hA]
        exact h0 k (by have := HN.out; omega))
      rw [hA] at HI HST HSN
      rw [hA]
      clear hx hA
      obtain ⟨hx256, g, off, hao, hg, c0⟩ := HL.out k x HX.out
      have HC0 := Lib.hid c0
      have HGL := Lib.hid hg
      subst hao
      clear c0 hg
      obtain ⟨na, hna⟩ : ∃ z, A.length = z := ⟨_, rfl⟩
      have HNA := Lib.hid hna
      rw [hna] at HST
      rw [hna]
      clear hna
      have hwx : IntKind.i64.wrap (x : Int) = (x : Int) := by rw [IntKind.wrap_i64]; omega
      have hwn : IntKind.i64.wrap ((na : Int) + 1) = (na : Int) + 1 := by have := HAL.out; have := HNA.out; rw [IntKind.wrap_i64]; omega
      obtain ⟨wo, hwo⟩ : ∃ W, wr = W := ⟨_, rfl⟩
      rw [hwo] at HI HB ⊢
      clear hwo
      go_wp2_with fail
      go_loopw [6, 7] (fun v6 v7 wq => ∃ j : Nat, v7 = .int .i64 (j : Int) ∧ (j : Int) ≤ k ∧ v6 = .bool ((L.take j).any (fun y => (y : Int) == (x : Int))) ∧ Hid (Below wo.heap.size wo wq)) (fun _ v7 _ => k - (intOf v7).toNat)
      case atStart => exact ⟨0, rfl, by omega, rfl, Lib.hid (Below.refl _ _)⟩
      case round =>
        obtain ⟨j, rfl, hj, rfl, HBq⟩ := hrel
        have HBw := Lib.hid (HB.out.trans (HBq.out.mono HB.out.size))
        have c0 : wr.cell? ⟨g, off + k, none⟩ = some (.int .u8 (x : Int)) := (HBw.out.cell (p := ⟨g, off + k, none⟩) HGL.out).trans HC0.out
        have gl : g < wr.heap.size := World.block_lt_of_cell? wr _ c0
        by_cases hjk : (j : Int) < k
        · have hj1 : decide ((j : Int) < (k : Int)) = true := decide_eq_true hjk
          have hj2 : decide (j < k) = true := decide_eq_true (by omega)
          have hj3 : decide ((j : Int) < (n : Int)) = true := decide_eq_true (by omega)
          have hj4 : decide (j < n) = true := decide_eq_true (by omega)
          have hw2 : IntKind.i64.wrap ((j : Int) + 1) = (j : Int) + 1 := by rw [IntKind.wrap_i64]; omega
          obtain ⟨y, hy⟩ : ∃ y, L[j]? = some y := ⟨_, List.getElem?_eq_getElem (by have := HN.out; omega)⟩
          have HTA := Lib.hid (take_any (x : Int) hy)
          obtain ⟨-, g', off', hao', hg', c1⟩ := HL.out j y hy
          obtain ⟨rfl, rfl⟩ : g = g' ∧ off = off' := by injection hao' with h1; injection h1 with h1 h2; exact ⟨h1, h2⟩
          have c1 : wr.cell? ⟨g, off + j, none⟩ = some (.int .u8 (y : Int)) := (HBw.out.cell (p := ⟨g, off + j, none⟩) HGL.out).trans c1
          clear hao' hg' hy
          obtain ⟨z, hz⟩ : ∃ z, (L.take j).any (fun y => (y : Int) == (x : Int)) = z := ⟨_, rfl⟩
          rw [hz] at HTA
          rw [hz]
          clear hz
          cases z
          all_goals
            go_wp2_with fail
            go_quiet (fail)
            go_wp2
            go_roundw
            case rel => exact ⟨j + 1, by go_num, by omega, by rw [HTA.out]; simp, Lib.hid (below_drewN HBq.out _)⟩
            case measure => simp [intOf]; omega
        · have hj1 : decide ((j : Int) < (k : Int)) = false := decide_eq_false hjk
          have hj2 : decide (j < k) = false := decide_eq_false (by omega)
          obtain rfl : j = k := by omega
          have HAN := Lib.hid (any_has (L := L.take j) (z := x))
          have HPU := Lib.hid (pput_any A (x : Int) (by have := HAL.out; omega) _ _ wr (HI.out.below HBq.out))
          obtain ⟨z, hz⟩ : ∃ z, (L.take j).any (fun y => (y : Int) == (x : Int)) = z := ⟨_, rfl⟩
          rw [hz] at HAN
          rw [hz]
          clear hz
          cases z with
          | true =>
            have HLN := Lib.hid (show (allP (L.take (j + 1))).length = na from by rw [HST.out, if_pos (HAN.out.1 rfl)]; rfl)
            go_wp2_with fail
            refine HPU.out.mono ?_
            rintro e w9 ⟨v9, he, hI9, hb9⟩
            subst he
            have HI9 := Lib.hid (show IntsAt w9 0 v9 (allP (L.take (j + 1))) from by rw [HSN.out]; exact hI9.mono (Nat.zero_le _))
            have HB9 := Lib.hid (HBw.out.trans (hb9.mono HBw.out.size))
            clear hI9 hb9
            go_wp2
            go_roundw
            case rel => exact ⟨j + 1, by go_num, by omega, by rw [HLN.out], HI9, HB9⟩
            case measure => simp [intOf]; omega
          | false =>
            have HLN := Lib.hid (show ((allP (L.take (j + 1))).length : Int) = (na : Int) + 1 from by rw [HST.out, if_neg (fun h => by have := HAN.out.2 h; cases this)]; rfl)
            go_wp2_with fail
            refine HPU.out.mono ?_
            rintro e w9 ⟨v9, he, hI9, hb9⟩
            subst he
            have HI9 := Lib.hid (show IntsAt w9 0 v9 (allP (L.take (j + 1))) from by rw [HSN.out]; exact hI9.mono (Nat.zero_le _))
            have HB9 := Lib.hid (HBw.out.trans (hb9.mono HBw.out.size))
            clear hI9 hb9
            go_wp2
            go_roundw
            case rel => exact ⟨j + 1, by go_num, by omega, by rw [HLN.out], HI9, HB9⟩
            case measure => simp [intOf]; omega
    · have hk1 : decide ((k : Int) < (n : Int)) = false := decide_eq_false hkn
      have hk2 : decide (k < n) = false := decide_eq_false (by omega)
      have htk : L.take k = L := List.take_of_length_le (by have := HN.out; omega)
      rw [htk] at HI
      rw [htk]
      have HMEM := Lib.hid (fun (y : Int) => allP_mem L [] y)
      have HRIS := Lib.hid (show RisL (allP L) from allP_ris L [] trivial)
      obtain ⟨F, hF⟩ : ∃ F, allP L = F := ⟨_, rfl⟩
      have HMM := Lib.hid (show ∀ x ∈ L, (x : Int) ∈ F from fun x hx => by rw [← hF]; exact (HMEM.out (x : Int)).2 (.inr ⟨x, hx, rfl⟩))
      have hlf : ∀ j, j ≤ L.length → (allP (L.take j)).length ≤ j := fun j => by
        induction j with
        | zero => exact fun _ => Nat.le_refl _
        | succ j ih =>
          intro hj
          obtain ⟨y, hy⟩ : ∃ y, L[j]? = some y := ⟨_, List.getElem?_eq_getElem (by omega)⟩
          rw [allP_step hy]
          have := ih (by omega)
          split <;> omega
      have hlf2 := hlf k (by have := HN.out; omega)
      rw [htk] at hlf2
      rw [hF] at HI HRIS hlf2
      rw [hF]
      clear hF htk HMEM hlf
      obtain ⟨fo, fc, rfl, hfc, hfcell⟩ := HI.out
      have HFC := Lib.hid hfcell
      obtain ⟨m, hm⟩ : ∃ m, F.length = m := ⟨_, rfl⟩
      have HM := Lib.hid hm
      rw [hm] at hlf2 hfc
      rw [hm]
      have hm60 : (m : Int) ≤ 60 := by omega
      obtain ⟨wo, hwo⟩ : ∃ W, wr = W := ⟨_, rfl⟩
      rw [hwo] at HI HB HFC ⊢
      clear hwo hm hfcell hlf2
      go_wp2_with fail
      go_loopw [8] (fun v8 wq => ∃ i : Nat, v8 = .int .i64 (i : Int) ∧ (i : Int) ≤ n ∧ Hid (Below wo.heap.size wo wq)) (fun v8 _ => n - (intOf v8).toNat)
      case atStart => exact ⟨0, rfl, by omega, Lib.hid (Below.refl _ _)⟩
      case round =>
        obtain ⟨i, rfl, hi, HBq⟩ := hrel
        have HBw := Lib.hid (HB.out.trans (HBq.out.mono HB.out.size))
        by_cases hin : (i : Int) < n
        · have hi1 : decide ((i : Int) < (n : Int)) = true := decide_eq_true hin
          have hi2 : decide (i < n) = true := decide_eq_true (by omega)
          have hw1 : IntKind.i64.wrap ((i : Int) + 1) = (i : Int) + 1 := by rw [IntKind.wrap_i64]; omega
          obtain ⟨x, hx⟩ : ∃ x, L[i]? = some x := ⟨_, List.getElem?_eq_getElem (by have := HN.out; omega)⟩
          have HXF := Lib.hid (HMM.out x (List.mem_of_getElem? hx))
          obtain ⟨hx256, g, off, hao, hg, c0⟩ := HL.out i x hx
          have HC0 := Lib.hid c0
          have HGL := Lib.hid hg
          subst hao
          clear c0 hg hx
          have hwx : IntKind.i64.wrap (x : Int) = (x : Int) := by rw [IntKind.wrap_i64]; omega
          obtain ⟨wp, hwp⟩ : ∃ W, wr = W := ⟨_, rfl⟩
          rw [hwp] at HBq HBw ⊢
          clear hwp
          go_wp2_with fail
          go_loopw [9, 10] (fun v9 v10 wq => ∃ j : Nat, v10 = .int .i64 (j : Int) ∧ (j : Int) ≤ m ∧ v9 = .bool ((F.take j).any (fun y => y == (x : Int))) ∧ Hid (Below wo.heap.size wo wq)) (fun _ v10 _ => m - (intOf v10).toNat)
          case atStart => exact ⟨0, rfl, by omega, rfl, HBq⟩
          case round =>
            obtain ⟨j, rfl, hj, rfl, HBr⟩ := hrel
            have HBv := Lib.hid (HB.out.trans (HBr.out.mono HB.out.size))
            have c0 : wr.cell? ⟨g, off + i, none⟩ = some (.int .u8 (x : Int)) := (HBv.out.cell (p := ⟨g, off + i, none⟩) HGL.out).trans HC0.out
            have gl : g < wr.heap.size := World.block_lt_of_cell? wr _ c0
            by_cases hjm : (j : Int) < m
            · have hj1 : decide ((j : Int) < (m : Int)) = true := decide_eq_true hjm
              have hj2 : decide (j < m) = true := decide_eq_true (by omega)
              have hw2 : IntKind.i64.wrap ((j : Int) + 1) = (j : Int) + 1 := by rw [IntKind.wrap_i64]; omega
              have HTA := Lib.hid (takeI_any (L := F) (k := j) (x : Int) (by have := HM.out; omega))
              obtain ⟨fb, foff, hfo, hfl, -, f0⟩ := HFC.out j (by have := HM.out; omega)
              have f0 := keepc f0 HBr.out
              have fl : fb < wr.heap.size := World.block_lt_of_cell? wr _ f0
              subst hfo
              obtain ⟨y, hy⟩ : ∃ y, F.getD j 0 = y := ⟨_, rfl⟩
              rw [hy] at f0 HTA
              obtain ⟨z, hz⟩ : ∃ z, (F.take j).any (fun y => y == (x : Int)) = z := ⟨_, rfl⟩
              rw [hz] at HTA
              rw [hz]
              clear hz hy hfl
              cases z
              all_goals
                go_wp2_with fail
                go_quiet (fail)
                go_wp2
                go_roundw
                case rel => exact ⟨j + 1, by go_num, by omega, by rw [HTA.out]; simp, Lib.hid (below_drewN HBr.out _)⟩
                case measure => simp [intOf]; omega
            · have hj1 : decide ((j : Int) < (m : Int)) = false := decide_eq_false hjm
              have hj2 : decide (j < m) = false := decide_eq_false (by omega)
              have hyes : (F.take j).any (fun y => y == (x : Int)) = true := by
                rw [List.take_of_length_le (by have := HM.out; omega), List.any_eq_true]
                exact ⟨_, HXF.out, beq_self_eq_true _⟩
              rw [hyes]
              clear hyes
              go_wp2
              go_roundw
              case rel => exact ⟨i + 1, by go_num, by omega, HBr⟩
              case measure => simp [intOf]; omega
        · have hi1 : decide ((i : Int) < (n : Int)) = false := decide_eq_false hin
          have hi2 : decide (i < n) = false := decide_eq_false (by omega)
          go_wp2_with fail
          go_loopw [11] (fun v11 wq => ∃ j : Nat, v11 = .int .i64 ((j + 1 : Nat) : Int) ∧ (j : Int) ≤ m ∧ Hid (Below wo.heap.size wo wq)) (fun v11 _ => m + 1 - (intOf v11).toNat)
          case atStart => exact ⟨0, rfl, by omega, HBq⟩
          case round =>
            obtain ⟨j, rfl, hj, HBr⟩ := hrel
            have HBv := Lib.hid (HB.out.trans (HBr.out.mono HB.out.size))
            have hcj : ((j + 1 : Nat) : Int) = (j : Int) + 1 := by omega
            rw [hcj]
            clear hcj
            by_cases hjm : (j : Int) + 1 < m
            · have hj1 : decide ((j : Int) + 1 < (m : Int)) = true := decide_eq_true hjm
              have hw2 : IntKind.i64.wrap ((j : Int) + 1 + 1) = (j : Int) + 1 + 1 := by rw [IntKind.wrap_i64]; omega
              have hw3 : IntKind.i64.wrap ((j : Int) + 1 - 1) = (j : Int) := by rw [IntKind.wrap_i64]; omega
              have hj3 : decide ((j : Int) < (m : Int)) = true := decide_eq_true (by omega)
              have hj4 : decide (j < m) = true := decide_eq_true (by omega)
              obtain ⟨fb, foff, hfo, hfl, -, f0⟩ := HFC.out j (by have := HM.out; omega)
              obtain ⟨fb2, foff2, hfo2, -, -, f1⟩ := HFC.out (j + 1) (by have := HM.out; omega)
              obtain ⟨rfl, rfl⟩ : fb = fb2 ∧ foff = foff2 := by rw [hfo] at hfo2; injection hfo2 with h1; injection h1 with h1 h2; exact ⟨h1, h2⟩
              have f0 := keepc f0 HBr.out
              have f1 := keepc f1 HBr.out
              have fl : fb < wr.heap.size := World.block_lt_of_cell? wr _ f0
              have hlt := HRIS.out.step (k := j) (x := F.getD j 0) (y := F.getD (j + 1) 0) (by rw [List.getD_eq_getElem?_getD, List.getElem?_eq_getElem (by have := HM.out; omega)]; rfl) (by rw [List.getD_eq_getElem?_getD, List.getElem?_eq_getElem (by have := HM.out; omega)]; rfl)
              subst hfo
              clear hfo2 hfl
              obtain ⟨y1, hy1⟩ : ∃ y, F.getD j 0 = y := ⟨_, rfl⟩
              obtain ⟨y2, hy2⟩ : ∃ y, F.getD (j + 1) 0 = y := ⟨_, rfl⟩
              rw [hy1] at f0 hlt
              rw [hy2] at f1 hlt
              clear hy1 hy2
              have hge : decide (y2 ≤ y1) = false := decide_eq_false (by omega)
              have f1 : wr.cell? ⟨fb, foff + (j + 1), none⟩ = some (.int .i64 y2) := f1
              have hti : ((j : Int) + 1).toNat = j + 1 := by omega
              have hp0 : (0 : Int) ≤ (j : Int) + 1 := by omega
              clear hlt
              go_wp2_with fail
              go_quiet (fail)
              go_wp2
              go_roundw
              case rel => exact ⟨j + 1, by go_num, by omega, Lib.hid (below_drewN HBr.out _)⟩
              case measure => simp [intOf]; omega
            · have hj1 : decide ((j : Int) + 1 < (m : Int)) = false := decide_eq_false hjm
              have HAW := Lib.hid (awake13_any wr)
              go_wp2_with fail
              refine HAW.out.mono ?_
              rintro e w5 ⟨he, hb5⟩
              subst he
              have HBZ := Lib.hid (HBv.out.trans (hb5.mono HBv.out.size))
              clear hb5
              go_wp2
              go_ret
              exact ⟨rfl, HBZ.out⟩
end Go.Proofs.Ytgikhkjnemglbaa
