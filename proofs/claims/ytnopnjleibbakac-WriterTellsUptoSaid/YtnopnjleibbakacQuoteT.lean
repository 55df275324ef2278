/- A text in quotation marks: the walks of Text, of the program's and the reference's. -/
import Derived.Test.YtnopnjleibbakacQuoteD
import Derived.Test.YtnopnjleibbakacBuild
namespace Go.Proofs.Ytnopnjleibbakac
set_option linter.unusedVariables false
open Go.RowKit

theorem own_below {w w' : World} {B n : Nat} {e : TypeId} {v : Value} {xs : List Value} (h : w.ownsRow B e 1 v n xs) (hb : Below w.heap.size w w') : w'.ownsRow B e 1 v n xs := by
  refine ⟨h.1, ?_⟩
  rcases h.2 with h0 | ⟨g, cap, cur, e1, hg, hh, r⟩
  · exact .inl h0
  · exact .inr ⟨g, cap, cur, e1, hg, (hb.block g (lt_of_block hh)).trans hh, r⟩
theorem Bld.below {B b : Nat} {l : List UInt8} {w w' : World} (h : Bld B b l w) (hb : Below w.heap.size w w') : Bld B b l w' := by
  have key : ∀ {p : Value}, Lib.BuilderAt 39 5 B b p (Lib.byteCells l) w → Lib.BuilderAt 39 5 B b p (Lib.byteCells l) w' := fun h => by
    obtain ⟨hB, v, hh, ho, hn⟩ := h
    exact ⟨hB, v, (hb.block b (lt_of_block hh)).trans hh, own_below ho hb, hn⟩
  rcases h with h | h
  · exact .inl (key h)
  · exact .inr (key h)
theorem ofL_app (l : List UInt8) (t : ByteArray) : ofL l ++ t = ofL (l ++ t.data.toList) := by
  apply bytes_eq
  rw [ByteArray.data_append]
  show (l.toArray ++ t.data).toList = (l ++ t.data.toList).toArray.toList
  simp
theorem ofL_size (l : List UInt8) : (ofL l).size = l.length := by show l.toArray.size = _; simp
theorem wrS_size (sp : ByteArray) (c : Int) : (wrS sp c).size ≤ 4 := by
  unfold wrS
  split
  · rw [strOfNums_size]; simp
  · split
    · decide
    · split
      · decide
      · split
        · rw [strOfNums_size]; simp
        · rw [strOfNums_size]; simp
/-- What is written of the first k bytes. -/
def wrT (s : ByteArray) : Nat → List UInt8
  | 0 => [34]
  | k + 1 => wrT s k ++ (wrS spT (byt s k)).data.toList
theorem wrT_len (s : ByteArray) : ∀ k, (wrT s k).length ≤ 4 * k + 1
  | 0 => Nat.le_refl _
  | k + 1 => by
    have h1 := wrT_len s k
    have h2 := wrS_size spT (byt s k)
    have h3 : (wrS spT (byt s k)).data.toList.length = (wrS spT (byt s k)).size := by simp
    unfold wrT; rw [List.length_append]; omega
def textS (s : ByteArray) : ByteArray := ofL (wrT s s.size ++ [34])
theorem spT_in {c : Int} (h0 : 0 ≤ c) (h1 : c ≤ 255) (h : isSp spT c = true) : 32 ≤ c ∧ c ≤ 126 := by
  rw [isSp_T h0 h1, beq_iff_eq] at h; omega

set_option maxHeartbeats 1600000 in
theorem text_any (s : ByteArray) (hs : s.size ≤ 1000) (w : World) : Calls Try.prog 8 #[.string s] w fun e w' => e = .returned (.string (textS s)) ∧ Below w.heap.size w w' := by
  have HN := Lib.hid (bld_new w)
  have HB0 := Lib.hid (show Below w.heap.size w (w.alloc (.cells #[.pointer none, .slice none 0 0] 39)) from (Below.refl _ _).alloc (Nat.le_refl _) _)
  go_enter Try.func8, Try.ntmps8
  go_wp2_with fail
  refine (bbyte_any w.heap.size w.heap.size [] 34 _ HN.out (by simp) HB0.out.size).mono ?_
  rintro e w1 ⟨rfl, hl1, hb1⟩
  have HL1 := Lib.hid (show Bld w.heap.size w.heap.size (wrT s 0) w1 from hl1)
  have HB1 := Lib.hid (HB0.out.trans hb1)
  clear HN HB0 hl1 hb1
  go_wp2_with fail
  go_loopw [4] (fun b4 wr => ∃ k : Nat, b4 = .int .i64 (k : Int) ∧ k ≤ s.size ∧ Hid (Bld w.heap.size w.heap.size (wrT s k) wr) ∧ Hid (Below w.heap.size w wr)) (fun b4 _ => s.size - (intOf b4).toNat)
  case atStart => exact ⟨0, rfl, Nat.zero_le _, HL1, HB1⟩
  case round =>
    obtain ⟨k, rfl, hk, HL, HB⟩ := hrel
    clear HL1 HB1
    by_cases hlt : k < s.size
    · obtain ⟨x, hx⟩ : ∃ x : Int, (s[k].toNat : Int) = x := ⟨_, rfl⟩
      have HX := Lib.hid (show byt s k = x by rw [byt_get hlt, hx])
      have hx0 := byt_lt s k
      rw [HX.out] at hx0
      obtain ⟨hx0, hx1⟩ := hx0
      have HT := Lib.hid (show wrT s (k + 1) = wrT s k ++ (wrS spT x).data.toList by show wrT s k ++ (wrS spT (byt s k)).data.toList = _; rw [HX.out])
      have HLEN := Lib.hid (wrT_len s k)
      have HSZ := Lib.hid (wrS_size spT x)
      go_wp2_with fail
      refine (written_any spT x hx0 hx1 _).mono ?_
      rintro e w2 ⟨rfl, hb2⟩
      have HL2 := Lib.hid (HL.out.below hb2)
      have HB2 := Lib.hid (keepb HB.out hb2)
      clear hb2 HL HB
      generalize wrS spT x = t at *
      go_wp2_with fail
      refine (bstr_any w.heap.size w.heap.size (wrT s k) t _ HL2.out (by have := HLEN.out; omega) (by have := HSZ.out; omega) HB2.out.size).mono ?_
      rintro e w3 ⟨rfl, hl3, hb3⟩
      have HL3 := Lib.hid (show Bld w.heap.size w.heap.size (wrT s (k + 1)) w3 by rw [HT.out]; exact hl3)
      have HB3 := Lib.hid (HB2.out.trans hb3)
      clear hl3 hb3 HL2 HB2
      go_wp2
      go_roundw
      case rel => exact ⟨k + 1, by go_num, by omega, HL3, HB3⟩
      case measure => simp [intOf]; omega
    · obtain rfl : k = s.size := by omega
      have HLEN := Lib.hid (wrT_len s s.size)
      go_wp2_with fail
      refine (bbyte_any w.heap.size w.heap.size (wrT s s.size) 34 _ HL.out (by have := HLEN.out; omega) HB.out.size).mono ?_
      rintro e w2 ⟨rfl, hl2, hb2⟩
      have HL2 := Lib.hid hl2
      have HB2 := Lib.hid (HB.out.trans hb2)
      clear hl2 hb2 HL HB
      go_wp2_with fail
      refine (bstring_any w.heap.size w.heap.size (wrT s s.size ++ [34]) _ HL2.out HB2.out.size).mono ?_
      rintro e w3 ⟨rfl, hb3⟩
      go_wp2
      go_ret
      exact ⟨rfl, HB2.out.trans hb3⟩
set_option maxHeartbeats 1600000 in
theorem rtext_any (s : ByteArray) (hs : s.size ≤ 1000) (w : World) : Calls Try.prog 11 #[.string s] w fun e w' => e = .returned (.string (textS s)) ∧ Below w.heap.size w w' := by
  have HB0 := Lib.hid (Below.refl w.heap.size w)
  go_enter Try.func11, Try.ntmps11
  go_wp2_with fail
  go_loopw [3, 4] (fun b3 b4 wr => ∃ k : Nat, b4 = .int .i64 (k : Int) ∧ k ≤ s.size ∧ b3 = .string (ofL (wrT s k)) ∧ Hid (Below w.heap.size w wr)) (fun _ b4 _ => s.size - (intOf b4).toNat)
  case atStart => exact ⟨0, rfl, Nat.zero_le _, rfl, HB0⟩
  case round =>
    obtain ⟨k, rfl, hk, rfl, HB⟩ := hrel
    clear HB0
    by_cases hlt : k < s.size
    · obtain ⟨x, hx⟩ : ∃ x : Int, (s[k].toNat : Int) = x := ⟨_, rfl⟩
      have HX := Lib.hid (show byt s k = x by rw [byt_get hlt, hx])
      have hx0 := byt_lt s k
      rw [HX.out] at hx0
      obtain ⟨hx0, hx1⟩ := hx0
      have HT := Lib.hid (show ofL (wrT s (k + 1)) = ofL (wrT s k) ++ wrS spT x by rw [ofL_app]; show ofL (wrT s k ++ (wrS spT (byt s k)).data.toList) = _; rw [HX.out])
      have HC := Lib.hid (fun W => letter_any spT (by decide) x hx0 hx1 (spT_in hx0 hx1) W)
      go_wp2_with fail
      refine (HC.out _).mono ?_
      rintro e w2 ⟨rfl, hb2⟩
      have HB2 := Lib.hid (keepb HB.out hb2)
      clear hb2 HB
      have hu : (ofL (wrT s k)).size ≤ 100000 := by rw [ofL_size]; have := wrT_len s k; omega
      have ht := wrS_size spT x
      generalize wrS spT x = t at *
      generalize ofL (wrT s k) = u at *
      go_wp2
      go_roundw
      case rel => exact ⟨k + 1, by go_num, by omega, by rw [HT.out], HB2⟩
      case measure => simp [intOf]; omega
    · obtain rfl : k = s.size := by omega
      have HE := Lib.hid (show ofL (wrT s s.size) ++ ⟨#[34]⟩ = textS s from ofL_app _ _)
      have hu : (ofL (wrT s s.size)).size ≤ 100000 := by rw [ofL_size]; have := wrT_len s s.size; omega
      generalize ofL (wrT s s.size) = u at *
      go_wp2
      go_ret
      exact ⟨ret_str HE.out, HB.out⟩
end Go.Proofs.Ytnopnjleibbakac
