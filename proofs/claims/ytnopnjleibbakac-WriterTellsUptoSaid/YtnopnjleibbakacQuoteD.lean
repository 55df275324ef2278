/- A byte as it is written: the walk of the reference's letter. -/
import Derived.Test.YtnopnjleibbakacQuoteC
namespace Go.Proofs.Ytnopnjleibbakac
set_option linter.unusedVariables false
open Go.RowKit

def dgs : ByteArray := ⟨#[48, 49, 50, 51, 52, 53, 54, 55, 56, 57, 97, 98, 99, 100, 101, 102]⟩
theorem bytes_eq {s t : ByteArray} (h : s.data.toList = t.data.toList) : s = t := by
  apply ByteArray.ext
  apply Array.ext'
  exact h
theorem esc_join (c : Int) : (⟨#[92]⟩ : ByteArray) ++ strOfNums [c] = strOfNums [92, c] := by
  apply bytes_eq
  simp [strOfNums, ByteArray.data_append]
theorem hex_join {c : Int} (h0 : 0 ≤ c) (h1 : c ≤ 255) : (⟨#[92, 120]⟩ : ByteArray) ++ dgs.extract (c / 16).toNat (c / 16 + 1).toNat ++ dgs.extract (c % 16).toNat (c % 16 + 1).toNat = strOfNums [92, 120, dgv (c / 16), dgv (c % 16)] := by
  apply bytes_eq
  exact byte_cases (P := fun c => ((⟨#[92, 120]⟩ : ByteArray) ++ dgs.extract (c / 16).toNat (c / 16 + 1).toNat ++ dgs.extract (c % 16).toNat (c % 16 + 1).toNat).data.toList = (strOfNums [92, 120, dgv (c / 16), dgv (c % 16)]).data.toList) (by decide +kernel) h0 h1

set_option maxHeartbeats 1600000 in
theorem letter_any (sp : ByteArray) (hs : sp.size ≤ 1000000) (c : Int) (hc0 : 0 ≤ c) (hc1 : c ≤ 255) (hsp : isSp sp c = true → 32 ≤ c ∧ c ≤ 126) (w : World) : Calls Try.prog 21 #[.int .u8 c, .string sp] w fun e w' => e = .returned (.string (wrS sp c)) ∧ Below w.heap.size w w' := by
  have HS := Lib.hid (show wrS sp c = (if plainB sp c = true then strOfNums [c] else if c = 10 then ⟨#[92, 110]⟩ else if c = 9 then ⟨#[92, 116]⟩
    else if (c == 92 || isSp sp c) = true then strOfNums [92, c] else strOfNums [92, 120, dgv (c / 16), dgv (c % 16)]) from rfl)
  have HP := Lib.hid (fun W => rplain_any sp hs c hc0 hc1 W)
  have HPB := Lib.hid (show plainB sp c = (decide (32 ≤ c) && decide (c ≤ 126) && (c != 92) && !(isSp sp c)) from rfl)
  have HSP := Lib.hid hsp
  clear hsp
  obtain ⟨bp, hbp⟩ : ∃ bp, plainB sp c = bp := ⟨_, rfl⟩
  rw [hbp] at HP HS HPB
  clear hbp
  cases bp
  · by_cases h1 : c = 10
    · subst h1
      go_enter Try.func21, Try.ntmps21
      go_wp2_with fail
      refine (HP.out _).mono ?_
      rintro e w1 ⟨rfl, rfl⟩
      go_wp2
      go_ret
      exact ⟨ret_str (by rw [HS.out]; rfl), Below.refl _ _⟩
    · have e1 : (c == 10) = false := beq_eq_false_iff_ne.2 h1
      by_cases h2 : c = 9
      · subst h2
        go_enter Try.func21, Try.ntmps21
        go_wp2_with fail
        refine (HP.out _).mono ?_
        rintro e w1 ⟨rfl, rfl⟩
        go_wp2
        go_ret
        exact ⟨ret_str (by rw [HS.out]; rfl), Below.refl _ _⟩
      · have e2 : (c == 9) = false := beq_eq_false_iff_ne.2 h2
        have HQ := Lib.hid (show (c == 92 || isSp sp c) = (decide (32 ≤ c) && decide (c ≤ 126)) by
          have h := HPB.out
          have h3 := HSP.out
          rw [Bool.eq_iff_iff]
          cases hi : isSp sp c
          · rw [hi] at h
            simp at h ⊢
            constructor
            · rintro rfl; omega
            · intro g; exact h g.1 g.2
          · have := h3 hi
            simp; omega)
        by_cases g : 32 ≤ c ∧ c ≤ 126
        · obtain ⟨g0, g1⟩ := g
          have HR := Lib.hid (show wrS sp c = (⟨#[92]⟩ : ByteArray) ++ strOfNums [c] by rw [HS.out, if_neg (by decide), if_neg h1, if_neg h2, HQ.out, decide_eq_true g0, decide_eq_true g1, esc_join]; rfl)
          have K := conv_lit [c]
          simp only [List.map_cons, List.map_nil, List.length_cons, List.length_nil, Nat.zero_add] at K
          clear HS HQ HPB HSP
          go_enter Try.func21, Try.ntmps21
          go_wp2_with fail
          refine (HP.out _).mono ?_
          rintro e w1 ⟨rfl, rfl⟩
          go_wp2
          go_ret
          exact ⟨ret_str HR.out.symm, by go_grown⟩
        · have hq : (decide (32 ≤ c) && decide (c ≤ 126)) = false := by rw [Bool.eq_false_iff]; simpa using g
          have HR := Lib.hid (show wrS sp c = (⟨#[92, 120]⟩ : ByteArray) ++ dgs.extract (c / 16).toNat (c / 16 + 1).toNat ++ dgs.extract (c % 16).toNat (c % 16 + 1).toNat by rw [HS.out, if_neg (by decide), if_neg h1, if_neg h2, HQ.out, hq, hex_join hc0 hc1]; rfl)
          clear HS HQ HPB HSP hq
          have g' : c < 32 ∨ 126 < c := by omega
          clear g
          rcases g' with g | g
          all_goals
            go_enter Try.func21, Try.ntmps21
            go_wp2_with fail
            refine (HP.out _).mono ?_
            rintro e w1 ⟨rfl, rfl⟩
            have ea := u8_15 c hc0 hc1
            have hlt1 : c / 16 < 16 := by omega
            have hlt0 : 0 ≤ c / 16 := by omega
            have hlt3 : c % 16 < 16 := by omega
            have hlt2 : 0 ≤ c % 16 := by omega
            have s1 : IntKind.u8.wrap (c / 16 + 1) = c / 16 + 1 := by rw [IntKind.wrap_u8]; omega
            have s2 : IntKind.u8.wrap (c % 16 + 1) = c % 16 + 1 := by rw [IntKind.wrap_u8]; omega
            go_wp2_with fail
            refine wp_region_quiet_lit (by kernel_rfl) (by kernel_rfl) ?_
            repeat (go_big_quiet_step (fail))
            refine wpQuiet_nil ?_
            intro _ hw'
            obtain ⟨nq, hw''⟩ := hw'
            subst hw''
            clear s1 s2 ea hlt0 hlt1 hlt2 hlt3
            go_wp2
            go_ret
            exact ⟨ret_str HR.out.symm, below_drewN (Below.refl _ _) nq⟩
  · have HR := Lib.hid (show wrS sp c = strOfNums [c] by rw [HS.out, if_pos rfl])
    have K := conv_lit [c]
    simp only [List.map_cons, List.map_nil, List.length_cons, List.length_nil, Nat.zero_add] at K
    clear HS HPB HSP
    go_enter Try.func21, Try.ntmps21
    go_wp2_with fail
    refine (HP.out _).mono ?_
    rintro e w1 ⟨rfl, rfl⟩
    go_wp2
    go_ret
    exact ⟨ret_str HR.out.symm, by go_grown⟩
end Go.Proofs.Ytnopnjleibbakac
