/- A literal that stands at a place: the walk of the program's ReadText. -/
import Derived.Test.YtialpofiagiclaaDoorHh
namespace Go.Proofs.YtialpofiagiclaaDoor
set_option linter.unusedVariables false
set_option maxRecDepth 1000000
open Go.RowKit

theorem txtF_big {s : ByteArray} : ∀ f k out, 40 < out.size → txtF s f k out = none
  | 0, _, _ => fun _ => rfl
  | f + 1, k, out => fun h => by
    rw [txtF.eq_2]
    split
    · split
      · rw [if_pos (.inr h)]
      · split
        · rfl
        · exact txtF_big f _ _ (by rw [ByteArray.size_append]; omega)
    · rfl
theorem stand_iff {s : ByteArray} {k : Nat} {c : Int} : standB s (k : Int) c = true ↔ k < s.size ∧ byt s k = c := by
  by_cases h : k < s.size
  · rw [stand_in h, beq_iff_eq]; exact ⟨fun g => ⟨h, g⟩, fun g => g.2⟩
  · rw [stand_out h]; exact ⟨fun g => (by cases g), fun g => absurd g.1 h⟩
theorem txtF_no' {s : ByteArray} {f k : Nat} {out : ByteArray} (hc : standB s (k : Int) 34 = false) (h : readO s k spT = none) : txtF s f k out = none := by
  by_cases hk : k < s.size
  · exact txtF_no (fun g => by rw [stand_iff.2 ⟨hk, g⟩] at hc; cases hc) h
  · exact txtF_out hk
theorem own_slice {w : World} {B n : Nat} {e : TypeId} {v : Value} {xs : List Value} (h : w.ownsRow B e 1 v n xs) : ∃ ao cap, v = .slice ao n cap := by
  rcases h.2 with ⟨rfl, rfl⟩ | ⟨g, cap, cur, rfl, _⟩ <;> exact ⟨_, _, rfl⟩
set_option maxRecDepth 100000 in
theorem own_text {w : World} {B cap : Nat} {ao : Option Addr} {l : List UInt8} (h : w.ownsRow B 5 1 (.slice ao l.length cap) l.length (Lib.byteCells l)) (hl : 0 < l.length) :
    (convert 54 9 (.slice ao l.length cap)).run Tryd.prog w = .ok (.string (ofL l)) w := by
  rcases h.2 with ⟨-, h0⟩ | ⟨g, cap', cur, hv, hb, hg, h1, h2, h3, h4⟩
  · omega
  · injection hv with e1 e2 e3
    subst e1
    refine run_convert_bytes_back w 54 9 5 ⟨g, 0, none⟩ cap l Tryd.underlying54 Tryd.underlying5 Tryd.underlying9 (fun j hj => ?_)
    rw [Addr.add_lit, Nat.zero_add, cell_of_row w g j cur 5 (0, 0) hg]
    have h5 : (cur.toList.take (l.length * 1))[j]? = (Lib.byteCells l)[j]? := by rw [h4]
    rw [List.getElem?_take_of_lt (by omega)] at h5
    rw [← Array.getElem?_toList, h5]
    simp [Lib.byteCells, List.getElem?_eq_getElem hj]

set_option maxHeartbeats 1600000 in
set_option maxRecDepth 100000 in
theorem readtext_any (s : ByteArray) (hs : s.size ≤ 1000000) (i : Int) (w : World) :
    Calls Tryd.prog 50 #[.string s, .int .i64 i] w fun e w' => e = .returned (txtT (txtO s i)) ∧ Below w.heap.size w w' := by
  have HF := Lib.hid (show txtO s i = if standB s i 34 = true then txtF s (s.size + 1) (i.toNat + 1) ⟨#[]⟩ else none from rfl)
  obtain ⟨o, ho⟩ : ∃ o, txtO s i = o := ⟨_, rfl⟩
  rw [ho] at HF ⊢
  clear ho
  have HS := Lib.hid (fun W => stands_any s i 34 W)
  obtain ⟨b0, hb0⟩ : ∃ b0, standB s i 34 = b0 := ⟨_, rfl⟩
  rw [hb0] at HS HF
  cases b0
  · have HE := Lib.hid (show o = none by rw [HF.out]; rfl)
    clear HF hb0
    go_enter Tryd.func50, Tryd.ntmps50
    go_wp2_with fail
    refine (HS.out _).mono ?_
    rintro e w1 ⟨rfl, rfl⟩
    go_wp2
    go_ret3
    exact ⟨ex_no HE.out, Below.refl _ _⟩
  · have hi0 : 0 ≤ i ∧ i < s.size := by
      unfold standB at hb0
      simp at hb0
      exact hb0.1
    obtain ⟨a, rfl⟩ : ∃ a : Nat, i = (a : Int) := ⟨i.toNat, by omega⟩
    rw [Int.toNat_natCast] at HF
    obtain ⟨-, ha⟩ := hi0
    have HT0 := Lib.hid (show txtF s (s.size + 1) (a + 1) (ofL []) = o by rw [HF.out]; rfl)
    have HB0 := Lib.hid (Below.refl w.heap.size w)
    have HO0 := Lib.hid (show w.ownsRow w.heap.size 5 1 (.slice none 0 0) 0 (Lib.byteCells []) from ⟨rfl, .inl ⟨rfl, rfl⟩⟩)
    obtain ⟨i0, hi, hz0, hz1, hz2⟩ := info_parts info_byte
    have IL := Lib.hid (And.intro hi (And.intro hz0 (And.intro hz1 hz2)))
    clear HF hb0 hi hz0 hz1 hz2
    go_enter Tryd.func50, Tryd.ntmps50
    go_wp2_with fail
    refine (HS.out _).mono ?_
    rintro e w1 ⟨rfl, rfl⟩
    go_wp2_with fail
    go_loopw [1, 7] (fun b1 b7 wr => ∃ (k f : Nat) (l : List UInt8) (ao : Option Addr) (cap : Nat), b1 = .int .i64 (k : Int) ∧ b7 = .slice ao l.length cap ∧ (k : Int) ≤ s.size + 20 ∧ l.length ≤ 40 ∧ Hid (txtF s f k (ofL l) = o ∧ s.size < f + k) ∧
      Hid (wr.ownsRow w1.heap.size 5 1 (.slice ao l.length cap) l.length (Lib.byteCells l)) ∧ Hid (Below w1.heap.size w1 wr)) (fun b1 _ _ => s.size + 20 - (intOf b1).toNat)
    case atStart => exact ⟨a + 1, s.size + 1, [], none, 0, by go_num, rfl, by omega, Nat.zero_le _, Lib.hid ⟨HT0.out, by omega⟩, HO0, HB0⟩
    case round =>
      obtain ⟨k, f, l, ao, cap, rfl, rfl, hk, hl, HT, HO, HB⟩ := hrel
      clear HT0 HB0 HO0 HS
      have HS := Lib.hid (fun W => stands_any s (k : Int) 34 W)
      obtain ⟨b0, hb0⟩ : ∃ b0, standB s (k : Int) 34 = b0 := ⟨_, rfl⟩
      rw [hb0] at HS
      cases b0
      · have HR := Lib.hid (fun W => read_any s hs k (by omega) spT W)
        obtain ⟨q, hq⟩ : ∃ q, readO s k spT = q := ⟨_, rfl⟩
        rw [hq] at HR
        cases q with
        | none =>
          have HE := Lib.hid (show o = none by rw [← HT.out.1, txtF_no' hb0 hq])
          clear HT hb0 hq
          go_wp2_with fail
          refine (HS.out _).mono ?_
          rintro e w2 ⟨rfl, rfl⟩
          go_wp2_with fail
          refine (HR.out _).mono ?_
          rintro e w3 ⟨he, hb3⟩
          obtain ⟨t, n, rfl⟩ := ends_none he
          have HB3 := Lib.hid (keepb HB.out hb3)
          clear hb3 HB he
          go_wp2
          go_ret3
          exact ⟨ex_no HE.out, HB3.out⟩
        | some p =>
          obtain ⟨u, m⟩ := p
          obtain ⟨q1, q2, q3, q4⟩ := readO_bd hq
          have hstep := txtF_go (out := ofL l) HT.out.2 (fun g => by rw [stand_iff.2 ⟨q1, g⟩] at hb0; cases hb0) hq
          rw [HT.out.1] at hstep
          have hf := HT.out.2
          have hf2 : s.size < (f - 1) + m := by omega
          clear HT hb0 hq hf
          by_cases g : (40 : Int) < (l.length : Int) + u.size
          · have HE := Lib.hid (show o = none by rw [hstep]; exact txtF_big _ _ _ (by rw [ByteArray.size_append, ofL_size]; omega))
            clear hstep
            go_wp2_with fail
            refine (HS.out _).mono ?_
            rintro e w2 ⟨rfl, rfl⟩
            go_wp2_with fail
            refine (HR.out _).mono ?_
            rintro e w3 ⟨he, hb3⟩
            obtain rfl := ends_some he
            have HB3 := Lib.hid (keepb HB.out hb3)
            clear hb3 HB he
            go_wp2
            go_ret3
            exact ⟨ex_no HE.out, HB3.out⟩
          · have HT2 := Lib.hid (show txtF s (f - 1) m (ofL (l ++ u.data.toList)) = o ∧ s.size < (f - 1) + m from ⟨by rw [hstep, ofL_app], hf2⟩)
            have HLN := Lib.hid (show (l ++ u.data.toList).length = l.length + u.size by simp)
            clear hstep hf2
            go_wp2_with fail
            refine (HS.out _).mono ?_
            rintro e w2 ⟨rfl, rfl⟩
            go_wp2_with fail
            refine (HR.out _).mono ?_
            rintro e w3 ⟨he, hb3⟩
            obtain rfl := ends_some he
            have HO3 := Lib.hid (own_below HO.out hb3)
            have HB3 := Lib.hid (keepb HB.out hb3)
            clear hb3 HB HO he
            have hsz3 := HB3.out.size
            go_wp2_with (first
              | (at_builtin; refine Lib.wpList_append_own_string _ rfl _ _ 54 9 rfl w1.heap.size 5 i0 Tryd.underlying54 Tryd.underlying9 IL.out.1 IL.out.2.1 IL.out.2.2.1 IL.out.2.2.2 (.slice ao l.length cap) l.length (Lib.byteCells l) rfl HO3.out u rfl (by unfold maxLen; omega) (by omega) (by omega) ?_))
            intro v' w4 hown4 hgrow _
            obtain ⟨ao', cap', rfl⟩ := own_slice hown4
            have HB4 := Lib.hid (show Below w1.heap.size w1 w4 from HB3.out.trans ((But.grown (S := fun g => w1.heap.size ≤ g) (But.refl _ w3) hgrow (fun k hk _ => own_ge HO3.out k hk)).below (by omega) (fun _ h => h)))
            have HO4 := Lib.hid (show w4.ownsRow w1.heap.size 5 1 (.slice ao' (l ++ u.data.toList).length cap') (l ++ u.data.toList).length (Lib.byteCells (l ++ u.data.toList)) by rw [HLN.out, byteCells_append]; exact hown4)
            clear hown4 hgrow HO3 HB3
            go_wp2
            go_roundw
            case rel => exact ⟨m, f - 1, l ++ u.data.toList, ao', cap', rfl, by rw [HLN.out], by omega, by rw [HLN.out]; omega, HT2, HO4, HB4⟩
            case measure => simp [intOf]; omega
      · obtain ⟨g1, g2⟩ := stand_iff.1 hb0
        have HE := Lib.hid (show o = if l.length = 0 ∨ 40 < l.length then none else some (ofL l, k + 1) by rw [← HT.out.1, txtF_end HT.out.2 g1 g2, ofL_size])
        clear HT hb0 g2
        by_cases g : l.length = 0
        · have HE2 := Lib.hid (show o = none by rw [HE.out, if_pos (.inl g)])
          clear HE
          go_wp2_with fail
          refine (HS.out _).mono ?_
          rintro e w2 ⟨rfl, rfl⟩
          go_wp2
          go_ret3
          exact ⟨ex_no HE2.out, HB.out⟩
        · have HE2 := Lib.hid (show o = some (ofL l, k + 1) by rw [HE.out, if_neg (by omega)])
          have K := own_text HO.out (by omega)
          clear HE
          go_wp2_with fail
          refine (HS.out _).mono ?_
          rintro e w2 ⟨rfl, rfl⟩
          go_wp2
          go_ret3
          exact ⟨ex_yes HE2.out rfl (by omega), HB.out⟩
end Go.Proofs.YtialpofiagiclaaDoor
