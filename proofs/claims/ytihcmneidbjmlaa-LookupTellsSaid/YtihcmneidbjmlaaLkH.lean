/- The law LookupTells, walked. -/
import Derived.Test.YtihcmneidbjmlaaLkG
namespace Go.Proofs.Ytihcmneidbjmlaa
set_option linter.unusedVariables false
open Go.RowKit Go.Sort

set_option maxRecDepth 1000000 in
set_option maxHeartbeats 3200000 in
theorem tells_walk (l : List ByteArray) (ao : Option Addr) (cap : Nat) (i : Int) (ref : ByteArray) (w : World) (hx : Mx w) (hl : HasN w ao l) : Calls Try.prog 3 #[.slice ao l.length cap, .int .i64 i, .string ref] w fun e w' => e = .returned (.bool true) ∧ Below w.heap.size w w' := by
  have HX := Lib.hid hx
  have HPA := Lib.hid (parsed_any l ao cap w hl)
  obtain ⟨PO, hPO⟩ : ∃ r, prsO l = r := ⟨_, rfl⟩
  have HFW := Lib.hid (fun ML (h : PO = some ML) => prsO_few (hPO.trans h))
  rw [hPO] at HPA
  obtain ⟨nl, hnl⟩ : ∃ n, l.length = n := ⟨_, rfl⟩
  rw [hnl] at HPA
  rw [hnl]
  clear hx hl hPO hnl
  go_enter Try.func3, Try.ntmps3
  go_wp2_with fail
  refine HPA.out.mono ?_
  rintro e w1 ⟨hP, hb1⟩
  have HB1 := Lib.hid hb1
  have HX1 := Lib.hid (HX.out.below hb1)
  clear hb1 HPA
  cases PO with
  | none =>
    have hP' : e = .returned (.tuple #[.slice none 0 0, .bool false]) := hP
    subst hP'
    have HAW := Lib.hid (awake_any w1 HX1.out)
    clear HFW
    go_wp2_with fail
    refine HAW.out.mono ?_
    rintro e w2 ⟨rfl, hb⟩
    have HB2 := Lib.hid (HB1.out.trans (hb.mono HB1.out.size))
    go_wp2
    go_ret
    exact ⟨rfl, HB2.out⟩
  | some ML =>
    obtain ⟨mo, mc, he, hM⟩ : ∃ mo mc, e = .returned (.tuple #[.slice mo ML.length mc, .bool true]) ∧ HasMs w1 w.heap.size mo ML := hP
    subst he
    have HFE := Lib.hid (HFW.out ML rfl)
    have HM1 := Lib.hid hM
    clear hM HFW
    obtain ⟨D, hD⟩ : ∃ D, w.heap.size = D := ⟨_, rfl⟩
    rw [hD] at HM1
    clear hD
    have hn5 := HFE.out.2
    obtain ⟨n, hnn⟩ : ∃ n, ML.length = n := ⟨_, rfl⟩
    rw [hnn] at hn5
    rw [hnn]
    have HN := Lib.hid hnn
    by_cases h50 : (50 : Int) < (ref.size : Int)
    · have h50' : decide ((50 : Int) < (ref.size : Int)) = true := decide_eq_true h50
      have h50n : decide (50 < ref.size) = true := decide_eq_true (by omega)
      have HAW := Lib.hid (awake_any w1 HX1.out)
      clear hnn
      go_wp2_with fail
      refine HAW.out.mono ?_
      rintro e w2 ⟨rfl, hb⟩
      have HB2 := Lib.hid (HB1.out.trans (hb.mono HB1.out.size))
      go_wp2
      go_ret
      exact ⟨rfl, HB2.out⟩
    · have h50' : decide ((50 : Int) < (ref.size : Int)) = false := decide_eq_false h50
      have h50n : decide (50 < ref.size) = false := decide_eq_false (by omega)
      obtain ⟨⟨xa, xb, xc⟩, hR⟩ : ∃ z, resO ML i ref = z := ⟨_, rfl⟩
      obtain ⟨fq, hfq⟩ : ∃ z, findN ML ref = z := ⟨_, rfl⟩
      have HR1 := Lib.hid (fun W (hW : HasMs W D mo ML) (hX : Mx W) => show Calls Try.prog 8 #[.slice mo n mc, .int .i64 i, .string ref] W fun e w' => e = .returned (.tuple #[.int .i64 xa, .int .i64 xb, .bool xc]) ∧ Below W.heap.size W w' from by have q := resolve_any ML D mo mc i ref (by omega) HFE.out.1 W hW hX; rw [hR, hnn] at q; exact q)
      have HR2 := Lib.hid (fun W (hW : HasMs W D mo ML) => show Calls Try.prog 9 #[.slice mo n mc, .int .i64 i, .string ref] W fun e w' => e = .returned (.tuple #[.int .i64 xa, .int .i64 xb, .bool xc]) ∧ Below W.heap.size W w' from by have q := rresolve_any ML D mo mc i ref (by omega) HFE.out.1 W hW; rw [hR, hnn] at q; exact q)
      have HF1 := Lib.hid (fun W (hW : HasMs W D mo ML) => show Calls Try.prog 10 #[.slice mo n mc, .string ref] W fun e w' => e = .returned (.int .i64 fq) ∧ Below W.heap.size W w' from by have q := find_any ML D mo mc ref HFE.out.1.1 W hW; rw [hfq, hnn] at q; exact q)
      have HF2 := Lib.hid (fun W (hW : HasMs W D mo ML) => show Calls Try.prog 11 #[.slice mo n mc, .string ref] W fun e w' => e = .returned (.int .i64 fq) ∧ W = w' from by have q := rfind_any ML D mo mc ref HFE.out.1.1 W hW; rw [hfq, hnn] at q; exact q)
      clear hR hfq hnn
      go_wp2_with fail
      refine (HR1.out _ HM1.out HX1.out).mono ?_
      rintro e w2 ⟨rfl, hb⟩
      have HB2 := Lib.hid (HB1.out.trans (hb.mono HB1.out.size))
      have HM2 := Lib.hid (HM1.out.below hb)
      clear hb HB1 HM1 HX1 HR1
      go_wp2_with fail
      refine (HR2.out _ HM2.out).mono ?_
      rintro e w3 ⟨rfl, hb⟩
      have HB3 := Lib.hid (HB2.out.trans (hb.mono HB2.out.size))
      have HM3 := Lib.hid (HM2.out.below hb)
      clear hb HB2 HM2 HR2
      go_wp2_with fail
      refine (HF1.out _ HM3.out).mono ?_
      rintro e w4 ⟨rfl, hb⟩
      have HB4 := Lib.hid (HB3.out.trans (hb.mono HB3.out.size))
      have HM4 := Lib.hid (HM3.out.below hb)
      clear hb HB3 HM3 HF1
      go_wp2_with fail
      refine (HF2.out _ HM4.out).mono ?_
      rintro e w5 ⟨rfl, rfl⟩
      clear HF2
      go_wp2_with fail
      go_loopw [15] (fun v15 wr => ∃ k : Nat, v15 = .int .i64 (k : Int) ∧ (k : Int) ≤ n ∧ Hid (HasMs wr D mo ML) ∧ Hid (Below w.heap.size w wr)) (fun v15 _ => n - (intOf v15).toNat)
      case atStart => exact ⟨0, rfl, by omega, HM4, HB4⟩
      case round =>
        obtain ⟨k, rfl, hk, HM, HB⟩ := hrel
        clear HM4 HB4
        by_cases hlt : (k : Int) < n
        · obtain ⟨m, hm⟩ : ∃ m, ML[k]? = some m := ⟨_, List.getElem?_eq_getElem (by have := HN.out; omega)⟩
          have hw1 : IntKind.i64.wrap ((k : Int) + 1) = (k : Int) + 1 := by rw [IntKind.wrap_i64]; omega
          have hltn : decide ((k : Int) < n) = true := decide_eq_true hlt
          have HMb := Lib.hid (HM.out.below (Below.refl _ _).drew)
          have HBb := Lib.hid HB.out.drew
          obtain ⟨nn, hMr⟩ := HMb.out
          obtain ⟨b, off, io, ic, ko, kc, ro, rc, hmo, hb, _, c0, c1, c2, c3, c4, c5, c6, c7, c8, c9, cA, -, -, hru⟩ := hMr k m hm
          have HRU := Lib.hid hru
          have hrl := (HFE.out.1.2 m (List.mem_of_getElem? hm)).2
          obtain ⟨rq, hrq⟩ : ∃ z, ruleN m ref = z := ⟨_, rfl⟩
          have HQ1 := Lib.hid (fun W (hW : HasRu W D nn ro m.ru) => show Calls Try.prog 12 #[.agg #[.string m.nm, .slice io m.im.length ic, .bool m.wet, .int .i64 m.wa.op, .string m.wa.text, .int .u64 m.wa.s0, .int .u64 m.wa.s1, .int .u64 m.wa.s2, .int .u64 m.wa.s3, .slice ko m.wa.kids.length kc, .slice ro m.ru.length rc], .string ref] W fun e w' => e = .returned (.int .i64 rq) ∧ Below W.heap.size W w' from by have q := rule_any m D nn io ic ko kc ro rc ref hrl W hW; rw [hrq] at q; exact q)
          have HQ2 := Lib.hid (fun W (hW : HasRu W D nn ro m.ru) => show Calls Try.prog 13 #[.agg #[.string m.nm, .slice io m.im.length ic, .bool m.wet, .int .i64 m.wa.op, .string m.wa.text, .int .u64 m.wa.s0, .int .u64 m.wa.s1, .int .u64 m.wa.s2, .int .u64 m.wa.s3, .slice ko m.wa.kids.length kc, .slice ro m.ru.length rc], .string ref] W fun e w' => e = .returned (.int .i64 rq) ∧ Below W.heap.size W w' from by have q := rrule_any m D nn io ic ko kc ro rc ref hrl W hW; rw [hrq] at q; exact q)
          clear hru hrl hrq hMr hm
          subst hmo
          go_upto_region 11 with fail
          refine wp_region_held (S := fun Wx => b < Wx.heap.size ∧ Wx.cell? ⟨b, off + k * 11, none⟩ = some (.string m.nm) ∧ Wx.cell? ⟨b, off + k * 11 + 1, none⟩ = some (.slice io m.im.length ic) ∧ Wx.cell? ⟨b, off + k * 11 + 2, none⟩ = some (.bool m.wet) ∧ Wx.cell? ⟨b, off + k * 11 + 3, none⟩ = some (.int .i64 m.wa.op) ∧ Wx.cell? ⟨b, off + k * 11 + 4, none⟩ = some (.string m.wa.text) ∧ Wx.cell? ⟨b, off + k * 11 + 5, none⟩ = some (.int .u64 m.wa.s0) ∧ Wx.cell? ⟨b, off + k * 11 + 6, none⟩ = some (.int .u64 m.wa.s1) ∧ Wx.cell? ⟨b, off + k * 11 + 7, none⟩ = some (.int .u64 m.wa.s2) ∧ Wx.cell? ⟨b, off + k * 11 + 8, none⟩ = some (.int .u64 m.wa.s3) ∧ Wx.cell? ⟨b, off + k * 11 + 9, none⟩ = some (.slice ko m.wa.kids.length kc) ∧ Wx.cell? ⟨b, off + k * 11 + 10, none⟩ = some (.slice ro m.ru.length rc)) (by kernel_rfl) ?_
          change wpAnyH _ _ _ _ _ _ _ _ (World.drew _)
          clear HM HB
          generalize World.drew _ = wb at *
          have HS := Lib.hid (show b < wb.heap.size ∧ wb.cell? ⟨b, off + k * 11, none⟩ = some (.string m.nm) ∧ wb.cell? ⟨b, off + k * 11 + 1, none⟩ = some (.slice io m.im.length ic) ∧ wb.cell? ⟨b, off + k * 11 + 2, none⟩ = some (.bool m.wet) ∧ wb.cell? ⟨b, off + k * 11 + 3, none⟩ = some (.int .i64 m.wa.op) ∧ wb.cell? ⟨b, off + k * 11 + 4, none⟩ = some (.string m.wa.text) ∧ wb.cell? ⟨b, off + k * 11 + 5, none⟩ = some (.int .u64 m.wa.s0) ∧ wb.cell? ⟨b, off + k * 11 + 6, none⟩ = some (.int .u64 m.wa.s1) ∧ wb.cell? ⟨b, off + k * 11 + 7, none⟩ = some (.int .u64 m.wa.s2) ∧ wb.cell? ⟨b, off + k * 11 + 8, none⟩ = some (.int .u64 m.wa.s3) ∧ wb.cell? ⟨b, off + k * 11 + 9, none⟩ = some (.slice ko m.wa.kids.length kc) ∧ wb.cell? ⟨b, off + k * 11 + 10, none⟩ = some (.slice ro m.ru.length rc) from ⟨hb, c0, c1, c2, c3, c4, c5, c6, c7, c8, c9, cA⟩)
          clear hb c0 c1 c2 c3 c4 c5 c6 c7 c8 c9 cA
          refine wpAnyH_take (i := 0) (v := ?_) rfl (by kernel_rfl) (by kernel_rfl) (by kernel_rfl) (fun _ _ _ h => h) (Or.inl ⟨by rfl, ?_⟩) HS.out ?_
          rotate_left
          · intro Wx hWx
            obtain ⟨q0, q1, q2, q3, q4, q5, q6, q7, q8, q9, q10, q11⟩ := hWx
            go_simp
            try with_reducible rfl
          go_simp
          refine wpAnyH_take (i := 1) (v := ?_) rfl (by kernel_rfl) (by kernel_rfl) (by kernel_rfl) (fun _ _ _ h => h) (Or.inl ⟨by rfl, ?_⟩) HS.out ?_
          rotate_left
          · intro Wx hWx
            obtain ⟨q0, q1, q2, q3, q4, q5, q6, q7, q8, q9, q10, q11⟩ := hWx
            go_simp
            try with_reducible rfl
          go_simp
          refine wpAnyH_take (i := 2) (v := ?_) rfl (by kernel_rfl) (by kernel_rfl) (by kernel_rfl) (fun _ _ _ h => h) (Or.inl ⟨by rfl, ?_⟩) HS.out ?_
          rotate_left
          · intro Wx hWx
            obtain ⟨q0, q1, q2, q3, q4, q5, q6, q7, q8, q9, q10, q11⟩ := hWx
            go_simp
            try with_reducible rfl
          go_simp
          refine wpAnyH_take (i := 3) (v := ?_) rfl (by kernel_rfl) (by kernel_rfl) (by kernel_rfl) (fun _ _ _ h => h) (Or.inl ⟨by rfl, ?_⟩) HS.out ?_
          rotate_left
          · intro Wx hWx
            obtain ⟨q0, q1, q2, q3, q4, q5, q6, q7, q8, q9, q10, q11⟩ := hWx
            go_simp
            try with_reducible rfl
          go_simp
          refine wpAnyH_take (i := 4) (v := ?_) rfl (by kernel_rfl) (by kernel_rfl) (by kernel_rfl) (fun _ _ _ h => h) (Or.inl ⟨by rfl, ?_⟩) HS.out ?_
          rotate_left
          · intro Wx hWx
            obtain ⟨q0, q1, q2, q3, q4, q5, q6, q7, q8, q9, q10, q11⟩ := hWx
            go_simp
            try with_reducible rfl
          go_simp
          refine wpAnyH_take (i := 6) (v := ?_) rfl (by kernel_rfl) (by kernel_rfl) (by kernel_rfl) (fun _ _ _ h => h) (Or.inl ⟨by rfl, ?_⟩) HS.out ?_
          rotate_left
          · intro Wx hWx
            obtain ⟨q0, q1, q2, q3, q4, q5, q6, q7, q8, q9, q10, q11⟩ := hWx
            go_simp
            try with_reducible rfl
          go_simp
          refine wpAnyH_take (i := 7) (v := ?_) rfl (by kernel_rfl) (by kernel_rfl) (by kernel_rfl) (fun _ _ _ h => h) (Or.inl ⟨by rfl, ?_⟩) HS.out ?_
          rotate_left
          · intro Wx hWx
            obtain ⟨q0, q1, q2, q3, q4, q5, q6, q7, q8, q9, q10, q11⟩ := hWx
            go_simp
            try with_reducible rfl
          go_simp
          refine wpAnyH_take (i := 8) (v := ?_) rfl (by kernel_rfl) (by kernel_rfl) (by kernel_rfl) (fun _ _ _ h => h) (Or.inl ⟨by rfl, ?_⟩) HS.out ?_
          rotate_left
          · intro Wx hWx
            obtain ⟨q0, q1, q2, q3, q4, q5, q6, q7, q8, q9, q10, q11⟩ := hWx
            go_simp
            try with_reducible rfl
          go_simp
          refine wpAnyH_take (i := 9) (v := ?_) rfl (by kernel_rfl) (by kernel_rfl) (by kernel_rfl) (fun _ _ _ h => h) (Or.inl ⟨by rfl, ?_⟩) HS.out ?_
          rotate_left
          · intro Wx hWx
            obtain ⟨q0, q1, q2, q3, q4, q5, q6, q7, q8, q9, q10, q11⟩ := hWx
            go_simp
            try with_reducible rfl
          go_simp
          refine wpAnyH_take (i := 10) (v := ?_) rfl (by kernel_rfl) (by kernel_rfl) (by kernel_rfl) (fun _ _ _ h => h) (Or.inl ⟨by rfl, ?_⟩) HS.out ?_
          rotate_left
          · intro Wx hWx
            obtain ⟨q0, q1, q2, q3, q4, q5, q6, q7, q8, q9, q10, q11⟩ := hWx
            go_simp
            try with_reducible rfl
          go_simp
          · skip
            have HBY := Lib.hid (Below.refl wb.heap.size wb)
            refine held_one (i := 5) (by kernel_rfl) <| op_call (f := 12) (vs := #[.agg #[.string m.nm, .slice io m.im.length ic, .bool m.wet, .int .i64 m.wa.op, .string m.wa.text, .int .u64 m.wa.s0, .int .u64 m.wa.s1, .int .u64 m.wa.s2, .int .u64 m.wa.s3, .slice ko m.wa.kids.length kc, .slice ro m.ru.length rc], .string ref]) rfl (by kernel_rfl) (by go_simp) ?_
            refine (HQ1.out wb HRU.out).mono ?_
            rintro e wc ⟨rfl, hb⟩
            have HRU2 := Lib.hid (HRU.out.but (But.of_below (S := fun _ => False) hb) (fun _ h => h.elim))
            have HB2 := Lib.hid (HBb.out.trans (hb.mono HBb.out.size))
            have HM2 := Lib.hid (HMb.out.below hb)
            have HS2 := Lib.hid (show b < wc.heap.size ∧ wc.cell? ⟨b, off + k * 11, none⟩ = some (.string m.nm) ∧ wc.cell? ⟨b, off + k * 11 + 1, none⟩ = some (.slice io m.im.length ic) ∧ wc.cell? ⟨b, off + k * 11 + 2, none⟩ = some (.bool m.wet) ∧ wc.cell? ⟨b, off + k * 11 + 3, none⟩ = some (.int .i64 m.wa.op) ∧ wc.cell? ⟨b, off + k * 11 + 4, none⟩ = some (.string m.wa.text) ∧ wc.cell? ⟨b, off + k * 11 + 5, none⟩ = some (.int .u64 m.wa.s0) ∧ wc.cell? ⟨b, off + k * 11 + 6, none⟩ = some (.int .u64 m.wa.s1) ∧ wc.cell? ⟨b, off + k * 11 + 7, none⟩ = some (.int .u64 m.wa.s2) ∧ wc.cell? ⟨b, off + k * 11 + 8, none⟩ = some (.int .u64 m.wa.s3) ∧ wc.cell? ⟨b, off + k * 11 + 9, none⟩ = some (.slice ko m.wa.kids.length kc) ∧ wc.cell? ⟨b, off + k * 11 + 10, none⟩ = some (.slice ro m.ru.length rc) from by
              obtain ⟨q0, q1, q2, q3, q4, q5, q6, q7, q8, q9, q10, q11⟩ := HS.out
              exact ⟨Nat.lt_of_lt_of_le q0 hb.size, keepc q1 hb, keepc q2 hb, keepc q3 hb, keepc q4 hb, keepc q5 hb, keepc q6 hb, keepc q7 hb, keepc q8 hb, keepc q9 hb, keepc q10 hb, keepc q11 hb⟩)
            clear hb HBY HS HRU HBb HMb
            have HS := HS2
            have HRU := HRU2
            have HBb := HB2
            have HMb := HM2
            clear HS2 HRU2 HB2 HM2
            refine ⟨_, rfl, HS.out, ?_⟩
            go_simp
            have HBY := Lib.hid (Below.refl wc.heap.size wc)
            refine held_one (i := 11) (by kernel_rfl) <| op_call (f := 13) (vs := #[.agg #[.string m.nm, .slice io m.im.length ic, .bool m.wet, .int .i64 m.wa.op, .string m.wa.text, .int .u64 m.wa.s0, .int .u64 m.wa.s1, .int .u64 m.wa.s2, .int .u64 m.wa.s3, .slice ko m.wa.kids.length kc, .slice ro m.ru.length rc], .string ref]) rfl (by kernel_rfl) (by go_simp) ?_
            refine (HQ2.out wc HRU.out).mono ?_
            rintro e wd ⟨rfl, hb⟩
            have HRU2 := Lib.hid (HRU.out.but (But.of_below (S := fun _ => False) hb) (fun _ h => h.elim))
            have HB2 := Lib.hid (HBb.out.trans (hb.mono HBb.out.size))
            have HM2 := Lib.hid (HMb.out.below hb)
            have HS2 := Lib.hid (show b < wd.heap.size ∧ wd.cell? ⟨b, off + k * 11, none⟩ = some (.string m.nm) ∧ wd.cell? ⟨b, off + k * 11 + 1, none⟩ = some (.slice io m.im.length ic) ∧ wd.cell? ⟨b, off + k * 11 + 2, none⟩ = some (.bool m.wet) ∧ wd.cell? ⟨b, off + k * 11 + 3, none⟩ = some (.int .i64 m.wa.op) ∧ wd.cell? ⟨b, off + k * 11 + 4, none⟩ = some (.string m.wa.text) ∧ wd.cell? ⟨b, off + k * 11 + 5, none⟩ = some (.int .u64 m.wa.s0) ∧ wd.cell? ⟨b, off + k * 11 + 6, none⟩ = some (.int .u64 m.wa.s1) ∧ wd.cell? ⟨b, off + k * 11 + 7, none⟩ = some (.int .u64 m.wa.s2) ∧ wd.cell? ⟨b, off + k * 11 + 8, none⟩ = some (.int .u64 m.wa.s3) ∧ wd.cell? ⟨b, off + k * 11 + 9, none⟩ = some (.slice ko m.wa.kids.length kc) ∧ wd.cell? ⟨b, off + k * 11 + 10, none⟩ = some (.slice ro m.ru.length rc) from by
              obtain ⟨q0, q1, q2, q3, q4, q5, q6, q7, q8, q9, q10, q11⟩ := HS.out
              exact ⟨Nat.lt_of_lt_of_le q0 hb.size, keepc q1 hb, keepc q2 hb, keepc q3 hb, keepc q4 hb, keepc q5 hb, keepc q6 hb, keepc q7 hb, keepc q8 hb, keepc q9 hb, keepc q10 hb, keepc q11 hb⟩)
            clear hb HBY HS HRU HBb HMb
            have HS := HS2
            have HRU := HRU2
            have HBb := HB2
            have HMb := HM2
            clear HS2 HRU2 HB2 HM2
            refine ⟨_, rfl, HS.out, ?_⟩
            go_simp
            refine wpAnyH_take (i := 12) (v := ?_) rfl (by kernel_rfl) (by kernel_rfl) (by kernel_rfl) (fun _ _ _ h => h) (Or.inl ⟨by rfl, ?_⟩) HS.out ?_
            rotate_left
            · intro Wx hWx
              obtain ⟨q0, q1, q2, q3, q4, q5, q6, q7, q8, q9, q10, q11⟩ := hWx
              go_simp
              try with_reducible rfl
            go_simp
            refine wpAnyH_done (by kernel_rfl) ?_ _
            clear HS HRU
            go_wp2
            go_roundw
            case rel => exact ⟨k + 1, by go_num, by omega, HMb, HBb⟩
            case measure => simp [intOf]; omega
        · have hltn : decide ((k : Int) < n) = false := decide_eq_false hlt
          have HAW := Lib.hid (awake_any wr (HX.out.below HB.out))
          go_wp2_with fail
          refine HAW.out.mono ?_
          rintro e w2 ⟨rfl, hb⟩
          have HB2 := Lib.hid (HB.out.trans (hb.mono HB.out.size))
          go_wp2
          go_ret
          exact ⟨rfl, HB2.out⟩
end Go.Proofs.Ytihcmneidbjmlaa
