/- A class as it is written: what it says. The walks of the document's answers of layer 2. What stands behind a backslash: what it means, and the walk of the reference's sign. What stands behind a backslash: the walk of the program's escaped. One byte or what is escaped: the walk of the program's read. -/
import Derived.Test.YtialpofiagiclaaDoorHe
import Derived.Test.YtialpofiagiclaaDoorHf
import Derived.Test.YtialpofiagiclaaDoorChecked
import Derived.Test.YtialpofiagiclaaDoorHb
import Derived.Test.YtialpofiagiclaaDoorHa
import Derived.WalkLawsBesides
import Derived.Handy
import Derived.KernelRfl
import Derived.OwnWalk
namespace Go.Proofs.YtialpofiagiclaaDoor
set_option linter.unusedVariables false
set_option maxRecDepth 1000000
open Go.RowKit

/-- The row's end: as far as the next byte is in h. -/
def runTo (h : Nat → Bool) : Nat → Nat → Nat
  | 0, k => k
  | f + 1, k => if k < 255 ∧ h (k + 1) = true then runTo h f (k + 1) else k
theorem runTo_ge (h : Nat → Bool) : ∀ f k, k ≤ runTo h f k
  | 0, k => Nat.le_refl _
  | f + 1, k => by unfold runTo; split <;> (try have := runTo_ge h f (k + 1)) <;> omega
theorem runTo_le (h : Nat → Bool) : ∀ f k, k ≤ 255 → runTo h f k ≤ 255
  | 0, k => id
  | f + 1, k => fun hk => by
    unfold runTo; split
    · rename_i g; exact runTo_le h f (k + 1) (by omega)
    · exact hk
theorem runTo_step {h : Nat → Bool} {f k : Nat} (h1 : k < 255) (h2 : h (k + 1) = true) : runTo h (f + 1) k = runTo h f (k + 1) := by
  show (if k < 255 ∧ h (k + 1) = true then _ else _) = _; rw [if_pos ⟨h1, h2⟩]
theorem runTo_stop {h : Nat → Bool} {k : Nat} (f : Nat) (hk : ¬ (k < 255 ∧ h (k + 1) = true)) : runTo h f k = k := by
  cases f
  · rfl
  · show (if k < 255 ∧ h (k + 1) = true then _ else _) = _; rw [if_neg hk]
def rowS (lo hi : Nat) : List UInt8 := (wrS spC lo).data.toList ++ ((if lo + 1 < hi then [45] else []) ++ (if lo < hi then (wrS spC hi).data.toList else []))
theorem wr_len (sp : ByteArray) (c : Int) : (wrS sp c).data.toList.length ≤ 4 := by
  have h2 := wrS_size sp c
  have h3 : (wrS sp c).data.toList.length = (wrS sp c).size := by simp
  omega
theorem rowS_len (lo hi : Nat) : (rowS lo hi).length ≤ 9 := by
  have h1 := wr_len spC lo
  have h2 := wr_len spC hi
  unfold rowS
  rw [List.length_append, List.length_append]
  split <;> split <;> simp only [List.length_cons, List.length_nil] <;> omega
/-- The rows from a byte on. -/
def clsF (h : Nat → Bool) : Nat → Nat → List UInt8
  | 0, _ => []
  | f + 1, low => if low < 256 then (if h low = true then rowS low (runTo h 255 low) ++ clsF h f (runTo h 255 low + 1) else clsF h f (low + 1)) else []
theorem clsF_len (h : Nat → Bool) : ∀ f low, (clsF h f low).length ≤ 9 * f
  | 0, _ => Nat.le_refl _
  | f + 1, low => by
    unfold clsF
    split
    · split
      · have h1 := rowS_len low (runTo h 255 low)
        have h2 := clsF_len h f (runTo h 255 low + 1)
        rw [List.length_append]; omega
      · have h2 := clsF_len h f (low + 1); omega
    · simp
theorem clsF_in {h : Nat → Bool} {f low : Nat} (h1 : low < 256) (h2 : h low = true) : clsF h (f + 1) low = rowS low (runTo h 255 low) ++ clsF h f (runTo h 255 low + 1) := by
  show (if low < 256 then (if h low = true then _ else _) else _) = _; rw [if_pos h1, if_pos h2]
theorem clsF_out {h : Nat → Bool} {f low : Nat} (h1 : low < 256) (h2 : h low = false) : clsF h (f + 1) low = clsF h f (low + 1) := by
  show (if low < 256 then (if h low = true then _ else _) else _) = _; rw [if_pos h1, if_neg (by rw [h2]; decide)]
theorem clsF_end (h : Nat → Bool) (f : Nat) {low : Nat} (h1 : ¬ low < 256) : clsF h f low = [] := by
  cases f
  · rfl
  · show (if low < 256 then (if h low = true then _ else _) else _) = _; rw [if_neg h1]
def clsL (h : Nat → Bool) : List UInt8 := [91] ++ clsF h 257 0
theorem clsL_len (h : Nat → Bool) : (clsL h).length ≤ 2400 := by
  have := clsF_len h 257 0
  unfold clsL; rw [List.length_append]; simp only [List.length_cons, List.length_nil]; omega
def classS (h : Nat → Bool) : ByteArray := ofL (clsL h ++ [93])
theorem spC_in {c : Int} (h0 : 0 ≤ c) (h1 : c ≤ 255) (h : isSp spC c = true) : 32 ≤ c ∧ c ≤ 126 := by
  rw [isSp_C h0 h1] at h; simp at h; omega
/-- One row more. -/
theorem cls_step {h : Nat → Bool} {acc tot : List UInt8} {f low : Nat} (ht : acc ++ clsF h f low = tot) (hf : 256 < f + low) (h1 : low < 256) (h2 : h low = true) :
    (acc ++ rowS low (runTo h 255 low)) ++ clsF h (f - 1) (runTo h 255 low + 1) = tot := by
  obtain ⟨g, rfl⟩ : ∃ g, f = g + 1 := ⟨f - 1, by omega⟩
  rw [clsF_in h1 h2, ← List.append_assoc] at ht
  exact ht
theorem cls_skip {h : Nat → Bool} {acc tot : List UInt8} {f low : Nat} (ht : acc ++ clsF h f low = tot) (hf : 256 < f + low) (h1 : low < 256) (h2 : h low = false) :
    acc ++ clsF h (f - 1) (low + 1) = tot := by
  obtain ⟨g, rfl⟩ : ∃ g, f = g + 1 := ⟨f - 1, by omega⟩
  rw [clsF_out h1 h2] at ht
  exact ht
theorem cls_stop {h : Nat → Bool} {acc tot : List UInt8} {f low : Nat} (ht : acc ++ clsF h f low = tot) (h1 : ¬ low < 256) : acc = tot := by
  rw [clsF_end h f h1, List.append_nil] at ht; exact ht
theorem row3 (acc : List UInt8) {lo hi : Nat} (h : lo + 1 < hi) : ofL acc ++ wrS spC lo ++ ⟨#[45]⟩ ++ wrS spC hi = ofL (acc ++ rowS lo hi) := by
  rw [ofL_app, ofL_app, ofL_app]; unfold rowS; rw [if_pos h, if_pos (by omega)]; simp [List.append_assoc]
theorem row2 (acc : List UInt8) {lo hi : Nat} (h : ¬ lo + 1 < hi) (h2 : lo < hi) : ofL acc ++ wrS spC lo ++ wrS spC hi = ofL (acc ++ rowS lo hi) := by
  rw [ofL_app, ofL_app]; unfold rowS; rw [if_neg h, if_pos h2]; simp [List.append_assoc]
theorem row1 (acc : List UInt8) {lo hi : Nat} (h2 : ¬ lo < hi) : ofL acc ++ wrS spC lo = ofL (acc ++ rowS lo hi) := by
  rw [ofL_app]; unfold rowS; rw [if_neg (by omega), if_neg h2]; simp
theorem acc_le {h : Nat → Bool} {acc tot : List UInt8} {f low : Nat} (ht : acc ++ clsF h f low = tot) (hl : tot.length ≤ 2400) : acc.length ≤ 2400 := by
  rw [← ht, List.length_append] at hl; omega
end Go.Proofs.YtialpofiagiclaaDoor

namespace Go.Proofs.YtialpofiagiclaaDoor
set_option linter.unusedVariables false
set_option maxRecDepth 1000000
open Go.RowKit Go.Sort Go.PlainAid

set_option maxHeartbeats 400000 in
theorem rright_any (n : Int) (w : World) : Calls Tryd.prog 88 #[.int .i64 n] w fun e w' => e = .returned (.bool (rightB n)) ∧ w = w' := by
  by_cases h1 : 0 ≤ n <;> by_cases h2 : n ≤ 1114111 <;> by_cases h3 : n < 55296 <;> by_cases h4 : 57343 < n
  all_goals first
    | (exfalso; omega)
    | (have H := Lib.hid (show rightB n = (decide (0 ≤ n) && decide (n ≤ 1114111) && (decide (n < 55296) || decide (57343 < n))) from rfl)
       go_enter Tryd.func88, Tryd.ntmps88
       go_wp2
       go_ret
       exact ⟨ret_bool (by rw [H.out]; simp; omega), rfl⟩)

set_option maxHeartbeats 800000 in
theorem rencode_any (n : Int) (w : World) : Calls Tryd.prog 79 #[.int .i64 n] w fun e w' => e = .returned (.tuple #[.string (encS n), .bool (rightB n)]) ∧ Below w.heap.size w w' := by
  obtain ⟨v, hv⟩ : ∃ v, rightB n = v := ⟨_, rfl⟩
  have R := rright_any n
  rw [hv] at R ⊢
  have R' := Lib.hid R
  clear R
  cases v
  · have HE := Lib.hid (show encS n = ⟨#[]⟩ by unfold encS; rw [hv]; rfl)
    clear hv
    go_enter Tryd.func79, Tryd.ntmps79
    go_wp2_with fail
    refine (R'.out _).mono ?_
    rintro e w1 ⟨rfl, rfl⟩
    go_wp2_with fail
    go_ret2
    exact ⟨ret_tup HE.out.symm, Below.refl _ _⟩
  · have HE : encS n = strOfNums (encL n) := by unfold encS; rw [hv]; rfl
    rw [rightB_iff] at hv
    obtain ⟨h0, h1, -⟩ := hv
    by_cases c1 : n < 128
    · rw [encL, if_pos c1] at HE
      have H := Lib.hid HE
      have K := conv_lit [n]
      simp only [List.map_cons, List.map_nil, List.length_cons, List.length_nil, Nat.zero_add] at K
      clear HE
      go_enter Tryd.func79, Tryd.ntmps79
      go_wp2_with fail
      refine (R'.out _).mono ?_
      rintro e w1 ⟨rfl, rfl⟩
      go_wp2_with fail
      go_ret2
      exact ⟨ret_tup H.out.symm, by go_grown⟩
    · by_cases c2 : n < 2048
      · rw [encL, if_neg c1, if_pos c2] at HE
        have H := Lib.hid HE
        have e1 : bits .or .i64 192 (n / 64) = 192 + n / 64 := or64_192 _ (by omega) (by omega)
        have a1 := and63 n h0 (by omega)
        have o1 := or64_128 (n % 64) (by omega) (by omega)
        have K := conv_lit [192 + n / 64, 128 + n % 64]
        simp only [List.map_cons, List.map_nil, List.length_cons, List.length_nil, Nat.zero_add] at K
        clear HE
        go_enter Tryd.func79, Tryd.ntmps79
        go_wp2_with fail
        refine (R'.out _).mono ?_
        rintro e w1 ⟨rfl, rfl⟩
        go_wp2_with fail
        go_ret2
        exact ⟨ret_tup H.out.symm, by go_grown⟩
      · by_cases c3 : n < 65536
        · rw [encL, if_neg c1, if_neg c2, if_pos c3] at HE
          have H := Lib.hid HE
          have e1 : bits .or .i64 224 (n / 4096) = 224 + n / 4096 := or64_224 _ (by omega) (by omega)
          have a1 := and63 n h0 (by omega)
          have o1 := or64_128 (n % 64) (by omega) (by omega)
          have a2 := and63 (n / 64) (by omega) (by omega)
          have o2 := or64_128 (n / 64 % 64) (by omega) (by omega)
          have K := conv_lit [224 + n / 4096, 128 + n / 64 % 64, 128 + n % 64]
          simp only [List.map_cons, List.map_nil, List.length_cons, List.length_nil, Nat.zero_add] at K
          clear HE
          go_enter Tryd.func79, Tryd.ntmps79
          go_wp2_with fail
          refine (R'.out _).mono ?_
          rintro e w1 ⟨rfl, rfl⟩
          go_wp2_with fail
          go_ret2
          exact ⟨ret_tup H.out.symm, by go_grown⟩
        · rw [encL, if_neg c1, if_neg c2, if_neg c3] at HE
          have H := Lib.hid HE
          have e1 : bits .or .i64 240 (n / 262144) = 240 + n / 262144 := or64_240 _ (by omega) (by omega)
          have a1 := and63 n h0 (by omega)
          have o1 := or64_128 (n % 64) (by omega) (by omega)
          have a2 := and63 (n / 64) (by omega) (by omega)
          have o2 := or64_128 (n / 64 % 64) (by omega) (by omega)
          have a3 := and63 (n / 4096) (by omega) (by omega)
          have o3 := or64_128 (n / 4096 % 64) (by omega) (by omega)
          have K := conv_lit [240 + n / 262144, 128 + n / 4096 % 64, 128 + n / 64 % 64, 128 + n % 64]
          simp only [List.map_cons, List.map_nil, List.length_cons, List.length_nil, Nat.zero_add] at K
          clear HE
          go_enter Tryd.func79, Tryd.ntmps79
          go_wp2_with fail
          refine (R'.out _).mono ?_
          rintro e w1 ⟨rfl, rfl⟩
          go_wp2_with fail
          go_ret2
          exact ⟨ret_tup H.out.symm, by go_grown⟩
end Go.Proofs.YtialpofiagiclaaDoor

namespace Go.Proofs.YtialpofiagiclaaDoor
set_option linter.unusedVariables false
set_option maxRecDepth 1000000
open Go.RowKit

/-- What a reader answers, where o is what there is to read. -/
def Reads (o : Option (ByteArray × Nat)) (t : ByteArray) (n : Int) (b : Bool) : Prop :=
  match o with
  | none => b = false
  | some (u, m) => b = true ∧ t = u ∧ n = (m : Int)
def Ends (o : Option (ByteArray × Nat)) (e : Ending) : Prop := ∃ t n b, e = .returned (.tuple #[.string t, .int .i64 n, .bool b]) ∧ Reads o t n b
theorem ends_no {o : Option (ByteArray × Nat)} (h : o = none) (t : ByteArray) (n : Int) : Ends o (.returned (.tuple #[.string t, .int .i64 n, .bool false])) := ⟨t, n, false, rfl, by rw [h]; rfl⟩
theorem ends_yes {o : Option (ByteArray × Nat)} {u t : ByteArray} {m : Nat} {n : Int} (h : o = some (u, m)) (ht : t = u) (hn : n = (m : Int)) : Ends o (.returned (.tuple #[.string t, .int .i64 n, .bool true])) :=
  ⟨t, n, true, rfl, by rw [h]; exact ⟨rfl, ht, hn⟩⟩
theorem ends_or {o : Option (ByteArray × Nat)} {u t : ByteArray} {m : Nat} {n : Int} {b : Bool} (h : o = if b = true then some (u, m) else none) (ht : t = u) (hn : n = (m : Int)) : Ends o (.returned (.tuple #[.string t, .int .i64 n, .bool b])) := by
  cases b
  · exact ends_no h t n
  · exact ends_yes h ht hn
theorem one_byte {s : ByteArray} {k : Nat} (h : k < s.size) : s.extract k (k + 1) = strOfNums [byt s k] := by
  apply bytes_eq
  have h' : k < s.data.toList.length := by simpa using h
  rw [ByteArray.data_extract]
  simp only [Array.toList_extract, List.extract_eq_take_drop, strOfNums]
  rw [show k + 1 - k = 1 by omega, List.drop_eq_getElem_cons h', List.take_succ_cons, List.take_zero]
  simp [byt, List.getD_eq_getElem?_getD, List.getElem?_eq_getElem h']
/-- The sign of a number behind the first brace. -/
def signO (s : ByteArray) (a : Nat) : Option (ByteArray × Nat) :=
  if 0 < hexN s a 6 ∧ standB s ((a + hexN s a 6 : Nat) : Int) 125 = true ∧ rightB (valN s a (hexN s a 6)) = true then some (encS (valN s a (hexN s a 6)), a + hexN s a 6 + 1) else none
theorem signO_at {s : ByteArray} {a k : Nat} (h : hexN s a 6 = k) : signO s a = if 0 < k ∧ standB s ((a + k : Nat) : Int) 125 = true ∧ rightB (valN s a k) = true then some (encS (valN s a k), a + k + 1) else none := by
  unfold signO; rw [h]
theorem stand_out {s : ByteArray} {k : Nat} {c : Int} (h : ¬ k < s.size) : standB s (k : Int) c = false := by
  unfold standB; rw [decide_eq_false (by omega : ¬ (k : Int) < (s.size : Int))]; simp
theorem stand_in {s : ByteArray} {k : Nat} {c : Int} (h : k < s.size) : standB s (k : Int) c = (byt s k == c) := by
  unfold standB; rw [decide_eq_true (by omega : (k : Int) < (s.size : Int)), decide_eq_true (by omega : (0 : Int) ≤ (k : Int))]; simp

set_option maxHeartbeats 1600000 in
theorem rsign_any (s : ByteArray) (hs : s.size ≤ 1000000) (a : Nat) (ha : a ≤ 2000000) (w : World) :
    Calls Tryd.prog 71 #[.string s, .int .i64 (a : Int)] w fun e w' => Ends (signO s a) e ∧ Below w.heap.size w w' := by
  have HF := Lib.hid (fun k (h : hexN s a 6 = k) => signO_at (s := s) h)
  obtain ⟨o, ho⟩ : ∃ o, signO s a = o := ⟨_, rfl⟩
  rw [ho] at HF ⊢
  clear ho
  go_enter Tryd.func71, Tryd.ntmps71
  go_wp2
  go_loop [7, 8] (fun b7 b8 => ∃ k : Nat, k ≤ 6 ∧ b8 = .int .i64 ((a + k : Nat) : Int) ∧ b7 = .int .i64 (valN s a k) ∧ Hid (hexN s a k = k)) (fun _ b8 => a + 6 - (intOf b8).toNat)
  case atStart => exact ⟨0, Nat.zero_le _, rfl, rfl, Lib.hid rfl⟩
  case round =>
    obtain ⟨k, hk, rfl, rfl, HA⟩ := hrel
    have hv := valN_bd HA.out (by omega)
    obtain ⟨v, hvv⟩ : ∃ v, valN s a k = v := ⟨_, rfl⟩
    have HV := Lib.hid hvv
    have hv0 : 0 ≤ v := by rw [← hvv]; exact hv.1
    have hv1 : v < 16777216 := by rw [← hvv]; exact hv.2.1
    rw [hvv]
    clear hv hvv
    by_cases h2 : a + k < s.size
    · obtain ⟨x, hx⟩ : ∃ x : Int, (s[a + k].toNat : Int) = x := ⟨_, rfl⟩
      have HX := Lib.hid (show byt s (a + k) = x by rw [byt_get h2, hx])
      have hx0 : 0 ≤ x ∧ x ≤ 255 := by rw [← HX.out]; exact byt_lt s (a + k)
      have hd := hexV_bd x
      obtain ⟨d, hdd⟩ : ∃ d, hexV x = d := ⟨_, rfl⟩
      rw [hdd] at hd
      have HD := Lib.hid hdd
      clear hdd
      obtain ⟨hd0, hd1⟩ := hd
      obtain ⟨hx0, hx1⟩ := hx0
      have HH := Lib.hid (fun W => hex_any x hx0 hx1 W)
      have HST := Lib.hid (show standB s ((a + k : Nat) : Int) 125 = (x == 125) by rw [stand_in h2, HX.out])
      have HC := Lib.hid (fun W => rencode_any v W)
      by_cases h1 : k < 6 ∧ 0 ≤ d
      · obtain ⟨h1, h3⟩ := h1
        have HA1 := Lib.hid (hexN_go HA.out h2 (by rw [HX.out, HD.out]; exact h3))
        have HV1 := Lib.hid (show valN s a (k + 1) = 16 * v + d by show valN s a k * 16 + hexV (byt s (a + k)) = _; rw [HV.out, HX.out, HD.out]; omega)
        clear HST HC
        go_wp2_with fail
        refine (HH.out _).mono ?_
        rintro e w' ⟨rfl, rfl⟩
        rw [HD.out]
        go_wp2_with fail
        refine (HH.out _).mono ?_
        rintro e w' ⟨rfl, rfl⟩
        rw [HD.out]
        go_wp2
        go_round
        case rel => exact ⟨k + 1, by omega, by go_num, by rw [HV1.out], HA1⟩
        case measure => simp [intOf]; omega
      · have hst : hexN s a 6 = k := by
          by_cases h4 : k = 6
          · subst h4; exact HA.out
          · have hst := hexN_stop HA.out (by rw [HX.out, HD.out]; omega) (6 - k)
            rw [show k + (6 - k) = 6 by omega] at hst; exact hst
        have HO := Lib.hid (HF.out k hst)
        clear HF hst HA
        have e1 : decide ((s.size : Int) ≤ (a : Int) + (k : Int)) = false := decide_eq_false (by omega)
        by_cases g0 : 0 < k
        · have e0 : ((a : Int) + (k : Int) == (a : Int)) = false := beq_eq_false_iff_ne.2 (by omega)
          by_cases g1 : x = 125
          · subst g1
            have HO2 := Lib.hid (show o = if rightB v = true then some (encS v, a + k + 1) else none by rw [HO.out, HST.out, HV.out]; simp [g0])
            clear HO HST HV
            by_cases g2 : ¬ (k : Int) < 6
            · go_wp2_with fail
              refine (HC.out _).mono ?_
              rintro e w1 ⟨rfl, hb1⟩
              go_wp2
              go_ret3
              exact ⟨ends_or HO2.out rfl (by omega), hb1⟩
            · have g3 : (k : Int) < 6 := by omega
              have g4 : d < 0 := by omega
              clear h1 g2
              go_wp2_with fail
              refine (HH.out _).mono ?_
              rintro e w1 ⟨rfl, rfl⟩
              rw [HD.out]
              go_wp2_with fail
              refine (HC.out _).mono ?_
              rintro e w1 ⟨rfl, hb1⟩
              go_wp2
              go_ret3
              exact ⟨ends_or HO2.out rfl (by omega), hb1⟩
          · have HO2 := Lib.hid (show o = none by rw [HO.out, HST.out]; simp [g1])
            have g1' : (x != 125) = true := by simp [g1]
            clear HO HST HV HC g1
            by_cases g2 : ¬ (k : Int) < 6
            · go_wp2
              go_ret3
              exact ⟨ends_no HO2.out _ _, Below.refl _ _⟩
            · have g3 : (k : Int) < 6 := by omega
              have g4 : d < 0 := by omega
              clear h1 g2
              go_wp2_with fail
              refine (HH.out _).mono ?_
              rintro e w1 ⟨rfl, rfl⟩
              rw [HD.out]
              go_wp2
              go_ret3
              exact ⟨ends_no HO2.out _ _, Below.refl _ _⟩
        · have e0 : ((a : Int) + (k : Int) == (a : Int)) = true := beq_iff_eq.2 (by omega)
          have HO2 := Lib.hid (show o = none by rw [HO.out]; simp [g0])
          have g3 : (k : Int) < 6 := by omega
          have g4 : d < 0 := by omega
          clear HO HST HV HC g0 h1
          go_wp2_with fail
          refine (HH.out _).mono ?_
          rintro e w1 ⟨rfl, rfl⟩
          rw [HD.out]
          go_wp2
          go_ret3
          exact ⟨ends_no HO2.out _ _, Below.refl _ _⟩
    · have hst : hexN s a 6 = k := by
        by_cases h4 : k = 6
        · subst h4; exact HA.out
        · have hst := hexN_stop HA.out (by omega) (6 - k)
          rw [show k + (6 - k) = 6 by omega] at hst; exact hst
      have HO := Lib.hid (show o = none by rw [HF.out k hst, stand_out h2]; simp)
      clear HF hst HA HV
      have e1 : decide ((s.size : Int) ≤ (a : Int) + (k : Int)) = true := decide_eq_true (by omega)
      obtain ⟨b0, e0⟩ : ∃ b0, ((a : Int) + (k : Int) == (a : Int)) = b0 := ⟨_, rfl⟩
      cases b0
      all_goals
        go_wp2
        go_ret3
        exact ⟨ends_no HO.out _ _, Below.refl _ _⟩
end Go.Proofs.YtialpofiagiclaaDoor

namespace Go.Proofs.YtialpofiagiclaaDoor
set_option linter.unusedVariables false
set_option maxRecDepth 1000000
open Go.RowKit

theorem hexN_self (s : ByteArray) (a : Nat) : ∀ m, hexN s a (hexN s a m) = hexN s a m
  | 0 => rfl
  | m + 1 => by
    by_cases h : hexN s a m = m ∧ a + m < s.size ∧ 0 ≤ hexV (byt s (a + m))
    · have e : hexN s a (m + 1) = m + 1 := by show (if _ then _ else _) = _; rw [if_pos h]
      rw [e]; exact e
    · have e : hexN s a (m + 1) = hexN s a m := by show (if _ then _ else _) = _; rw [if_neg h]
      rw [e]; exact hexN_self s a m
/-- What is escaped: what it means, and the place behind it. -/
def escO (s : ByteArray) (k : Nat) (sp : ByteArray) : Option (ByteArray × Nat) :=
  if k < s.size then
    if byt s k = 110 then some (⟨#[10]⟩, k + 1) else if byt s k = 116 then some (⟨#[9]⟩, k + 1)
    else if (byt s k == 92 || isSp sp (byt s k)) = true then some (strOfNums [byt s k], k + 1)
    else if byt s k = 120 then (if hexN s (k + 1) 2 = 2 then some (strOfNums [valN s (k + 1) 2], k + 3) else none)
    else if byt s k = 117 ∧ standB s ((k + 1 : Nat) : Int) 123 = true then signO s (k + 2) else none
  else none
theorem escO_at {s : ByteArray} {k : Nat} {sp : ByteArray} {c : Int} (hk : k < s.size) (hc : byt s k = c) : escO s k sp =
    if c = 110 then some (⟨#[10]⟩, k + 1) else if c = 116 then some (⟨#[9]⟩, k + 1)
    else if (c == 92 || isSp sp c) = true then some (strOfNums [c], k + 1)
    else if c = 120 then (if hexN s (k + 1) 2 = 2 then some (strOfNums [valN s (k + 1) 2], k + 3) else none)
    else if c = 117 ∧ standB s ((k + 1 : Nat) : Int) 123 = true then signO s (k + 2) else none := by
  unfold escO; rw [if_pos hk, hc]

set_option maxHeartbeats 1600000 in
theorem escaped_any (s : ByteArray) (hs : s.size ≤ 1000000) (k : Nat) (hk : k < s.size) (sp : ByteArray) (w : World) :
    Calls Tryd.prog 69 #[.string s, .int .i64 (k : Int), .string sp] w fun e w' => Ends (escO s k sp) e ∧ Below w.heap.size w w' := by
  obtain ⟨c, hc⟩ : ∃ c : Int, (s[k].toNat : Int) = c := ⟨_, rfl⟩
  have hbc : byt s k = c := by rw [byt_get hk, hc]
  have HF := Lib.hid (escO_at (sp := sp) hk hbc)
  obtain ⟨hc0, hc1⟩ : 0 ≤ c ∧ c ≤ 255 := by rw [← hbc]; exact byt_lt s k
  have HX1 := Lib.hid (one_byte hk)
  rw [hbc] at HX1
  have HA := Lib.hid (fun m hm W => number_any s hs (k + 1) (by omega) m hm W)
  have HA2 := Lib.hid (fun m hm W => number_any s hs (k + 2) (by omega) m hm W)
  rw [show ((k + 1 : Nat) : Int) = (k : Int) + 1 by omega] at HA
  rw [show ((k + 2 : Nat) : Int) = (k : Int) + 2 by omega] at HA2
  obtain ⟨o, ho⟩ : ∃ o, escO s k sp = o := ⟨_, rfl⟩
  rw [ho] at HF ⊢
  clear ho hbc
  have hsl : (k : Int) + 1 ≤ s.size := by omega
  by_cases h1 : c = 110
  · subst h1
    have HO := Lib.hid (show o = some (⟨#[10]⟩, k + 1) by rw [HF.out]; rfl)
    clear HF HX1 HA HA2
    go_enter Tryd.func69, Tryd.ntmps69
    go_wp2
    go_ret3
    exact ⟨ends_yes HO.out rfl (by omega), Below.refl _ _⟩
  have e1 : (c == 110) = false := beq_eq_false_iff_ne.2 h1
  by_cases h2 : c = 116
  · subst h2
    have HO := Lib.hid (show o = some (⟨#[9]⟩, k + 1) by rw [HF.out]; rfl)
    clear HF HX1 HA HA2
    go_enter Tryd.func69, Tryd.ntmps69
    go_wp2
    go_ret3
    exact ⟨ends_yes HO.out rfl (by omega), Below.refl _ _⟩
  have e2 : (c == 116) = false := beq_eq_false_iff_ne.2 h2
  have HI := Lib.hid (show isSp sp c = decide (0 ≤ Lib.indexByte sp.data.toList c.toNat.toUInt8) from rfl)
  obtain ⟨x, hx⟩ : ∃ x, Lib.indexByte sp.data.toList c.toNat.toUInt8 = x := ⟨_, rfl⟩
  rw [hx] at HI
  have HS := Lib.hid (fun W => Tryd.strings_IndexByte sp c W)
  rw [hx] at HS
  clear hx
  by_cases h3 : c = 92
  · subst h3
    have HO := Lib.hid (show o = some (strOfNums [92], k + 1) by rw [HF.out, if_neg h1, if_neg h2, if_pos (by simp)])
    clear HF HA HA2 HI HS
    go_enter Tryd.func69, Tryd.ntmps69
    go_wp2
    go_ret3
    exact ⟨ends_yes HO.out HX1.out (by omega), Below.refl _ _⟩
  have e3 : (c == 92) = false := beq_eq_false_iff_ne.2 h3
  by_cases h4 : 0 ≤ x
  · have HO := Lib.hid (show o = some (strOfNums [c], k + 1) by rw [HF.out, if_neg h1, if_neg h2, HI.out, decide_eq_true h4]; simp)
    clear HF HA HA2 HI
    go_enter Tryd.func69, Tryd.ntmps69
    go_wp2_with fail
    refine (HS.out _).mono ?_
    rintro e w1 ⟨rfl, rfl⟩
    go_wp2
    go_ret3
    exact ⟨ends_yes HO.out HX1.out (by omega), Below.refl _ _⟩
  have HF2 := Lib.hid (show o = if c = 120 then (if hexN s (k + 1) 2 = 2 then some (strOfNums [valN s (k + 1) 2], k + 3) else none)
    else if c = 117 ∧ standB s ((k + 1 : Nat) : Int) 123 = true then signO s (k + 2) else none by rw [HF.out, if_neg h1, if_neg h2, HI.out, decide_eq_false h4, e3]; simp)
  clear HF HI HX1
  by_cases h5 : c = 120
  · subst h5
    obtain ⟨n, hn⟩ : ∃ n, hexN s (k + 1) 2 = n := ⟨_, rfl⟩
    have hn2 : n ≤ 2 := by rw [← hn]; exact hexN_le ..
    have hv := valN_bd (hexN_self s (k + 1) 2) (by rw [hn]; omega)
    rw [hn] at hv
    have HB := Lib.hid (HA.out 2 (by omega))
    rw [hn, show ((2 : Nat) : Int) = 2 from rfl] at HB
    obtain ⟨v, hvv⟩ : ∃ v, valN s (k + 1) n = v := ⟨_, rfl⟩
    rw [hvv] at HB hv
    have hv0 := hv.1
    have hv1 : v < 256 := hv.2.2.2.2.2.1 hn2
    have HO := Lib.hid (show o = if ((n : Int) == 2) = true then some (strOfNums [v], k + 3) else none by
      rw [HF2.out, if_pos rfl, hn]
      by_cases g : n = 2
      · subst g; rw [hvv]; rfl
      · rw [if_neg g, if_neg (by simp; omega)])
    have K := conv_lit [v]
    simp only [List.map_cons, List.map_nil, List.length_cons, List.length_nil, Nat.zero_add] at K
    have ew : IntKind.u8.wrap v = v := by rw [IntKind.wrap_u8]; omega
    clear HF2 HA HA2 hvv hv hn
    go_enter Tryd.func69, Tryd.ntmps69
    go_wp2_with fail
    refine (HS.out _).mono ?_
    rintro e w1 ⟨rfl, rfl⟩
    go_wp2_with fail
    refine (HB.out _).mono ?_
    rintro e w1 ⟨rfl, rfl⟩
    go_wp2
    go_ret3
    exact ⟨ends_or HO.out rfl (by omega), by go_grown⟩
  have e5 : (c == 120) = false := beq_eq_false_iff_ne.2 h5
  by_cases h6 : c = 117
  · subst h6
    have HC := Lib.hid (fun W => stands_any s ((k : Int) + 1) 123 W)
    obtain ⟨b, hb⟩ : ∃ b, standB s ((k : Int) + 1) 123 = b := ⟨_, rfl⟩
    rw [hb] at HC
    have HF3 := Lib.hid (show o = if b = true then signO s (k + 2) else none by
      rw [HF2.out, if_neg (by decide), show ((k + 1 : Nat) : Int) = (k : Int) + 1 by omega, hb]; simp)
    clear HF2 hb HA
    cases b
    · have HO := Lib.hid (show o = none by rw [HF3.out]; simp)
      clear HF3 HA2
      go_enter Tryd.func69, Tryd.ntmps69
      go_wp2_with fail
      refine (HS.out _).mono ?_
      rintro e w1 ⟨rfl, rfl⟩
      go_wp2_with fail
      refine (HC.out _).mono ?_
      rintro e w1 ⟨rfl, rfl⟩
      go_wp2
      go_ret3
      exact ⟨ends_no HO.out _ _, Below.refl _ _⟩
    · obtain ⟨n, hn⟩ : ∃ n, hexN s (k + 2) 6 = n := ⟨_, rfl⟩
      have hn2 : n ≤ 6 := by rw [← hn]; exact hexN_le ..
      have hv := valN_bd (hexN_self s (k + 2) 6) (by rw [hn]; omega)
      rw [hn] at hv
      have HB := Lib.hid (HA2.out 6 (by omega))
      rw [hn, show ((6 : Nat) : Int) = 6 from rfl] at HB
      have HF4 := Lib.hid ((show o = signO s (k + 2) by rw [HF3.out, if_pos rfl]).trans (signO_at hn))
      obtain ⟨v, hvv⟩ : ∃ v, valN s (k + 2) n = v := ⟨_, rfl⟩
      rw [hvv] at HB hv HF4
      have hv0 := hv.1
      have hv1 : v < 16777216 := hv.2.1
      have HE := Lib.hid (fun W => encode_any v W)
      obtain ⟨r, hr⟩ : ∃ r, rightB v = r := ⟨_, rfl⟩
      rw [hr] at HE HF4
      have HD := Lib.hid (fun W => stands_any s ((k : Int) + 2 + (n : Int)) 125 W)
      obtain ⟨b, hb⟩ : ∃ b, standB s ((k : Int) + 2 + (n : Int)) 125 = b := ⟨_, rfl⟩
      rw [hb] at HD
      rw [show ((k + 2 + n : Nat) : Int) = (k : Int) + 2 + (n : Int) by omega, hb] at HF4
      clear HF3 HA2 hb hr hvv hv hn
      have hn0 : (0 : Int) ≤ (n : Int) := Int.natCast_nonneg _
      by_cases g : r = true ∧ (0 : Int) < (n : Int)
      · obtain ⟨rfl, g⟩ := g
        have gn : 0 < n := by omega
        have HO := Lib.hid (show o = if b = true then some (encS v, k + 2 + n + 1) else none by rw [HF4.out]; simp [gn])
        clear HF4
        go_enter Tryd.func69, Tryd.ntmps69
        go_wp2_with fail
        refine (HS.out _).mono ?_
        rintro e w1 ⟨rfl, rfl⟩
        go_wp2_with fail
        refine (HC.out _).mono ?_
        rintro e w1 ⟨rfl, rfl⟩
        go_wp2_with fail
        refine (HB.out _).mono ?_
        rintro e w1 ⟨rfl, rfl⟩
        go_wp2_with fail
        refine (HE.out _).mono ?_
        rintro e w1 ⟨rfl, hb1⟩
        go_wp2_with fail
        refine (HD.out _).mono ?_
        rintro e w1 ⟨rfl, rfl⟩
        go_wp2
        go_ret3
        exact ⟨ends_or HO.out rfl (by omega), hb1⟩
      · have HO := Lib.hid (show o = none by
          rw [HF4.out]
          cases r
          · simp
          · have : ¬ 0 < n := by intro h; exact g ⟨rfl, by omega⟩
            simp [this])
        have g' : r = false ∨ r = true ∧ ¬ (0 : Int) < (n : Int) := by
          cases r
          · exact .inl rfl
          · exact .inr ⟨rfl, fun h => g ⟨rfl, h⟩⟩
        clear HF4 HD g
        rcases g' with rfl | ⟨rfl, g⟩
        all_goals
          go_enter Tryd.func69, Tryd.ntmps69
          go_wp2_with fail
          refine (HS.out _).mono ?_
          rintro e w1 ⟨rfl, rfl⟩
          go_wp2_with fail
          refine (HC.out _).mono ?_
          rintro e w1 ⟨rfl, rfl⟩
          go_wp2_with fail
          refine (HB.out _).mono ?_
          rintro e w1 ⟨rfl, rfl⟩
          go_wp2_with fail
          refine (HE.out _).mono ?_
          rintro e w1 ⟨rfl, hb1⟩
          go_wp2
          go_ret3
          exact ⟨ends_no HO.out _ _, hb1⟩
  have e6 : (c == 117) = false := beq_eq_false_iff_ne.2 h6
  have HO := Lib.hid (show o = none by rw [HF2.out, if_neg h5, if_neg (fun h => h6 h.1)])
  clear HF2 HA HA2
  go_enter Tryd.func69, Tryd.ntmps69
  go_wp2_with fail
  refine (HS.out _).mono ?_
  rintro e w1 ⟨rfl, rfl⟩
  go_wp2
  go_ret3
  exact ⟨ends_no HO.out _ _, Below.refl _ _⟩
end Go.Proofs.YtialpofiagiclaaDoor

namespace Go.Proofs.YtialpofiagiclaaDoor
set_option linter.unusedVariables false
set_option maxRecDepth 1000000
open Go.RowKit

def readO (s : ByteArray) (k : Nat) (sp : ByteArray) : Option (ByteArray × Nat) :=
  if k < s.size then (if plainB sp (byt s k) = true then some (strOfNums [byt s k], k + 1) else if byt s k = 92 then escO s (k + 1) sp else none) else none
theorem readO_at {s : ByteArray} {k : Nat} {sp : ByteArray} {c : Int} (hk : k < s.size) (hc : byt s k = c) : readO s k sp =
    if plainB sp c = true then some (strOfNums [c], k + 1) else if c = 92 then escO s (k + 1) sp else none := by
  unfold readO; rw [if_pos hk, hc]
theorem escO_out {s : ByteArray} {k : Nat} {sp : ByteArray} (h : ¬ k < s.size) : escO s k sp = none := by unfold escO; rw [if_neg h]
theorem readO_out {s : ByteArray} {k : Nat} {sp : ByteArray} (h : ¬ k < s.size) : readO s k sp = none := by unfold readO; rw [if_neg h]

set_option maxHeartbeats 1600000 in
theorem read_any (s : ByteArray) (hs : s.size ≤ 1000000) (k : Nat) (hk2 : k ≤ 2000000) (sp : ByteArray) (w : World) :
    Calls Tryd.prog 62 #[.string s, .int .i64 (k : Int), .string sp] w fun e w' => Ends (readO s k sp) e ∧ Below w.heap.size w w' := by
  by_cases hk : k < s.size
  · obtain ⟨c, hc⟩ : ∃ c : Int, (s[k].toNat : Int) = c := ⟨_, rfl⟩
    have hbc : byt s k = c := by rw [byt_get hk, hc]
    have HF := Lib.hid (readO_at (sp := sp) hk hbc)
    obtain ⟨hc0, hc1⟩ : 0 ≤ c ∧ c ≤ 255 := by rw [← hbc]; exact byt_lt s k
    have HX1 := Lib.hid (one_byte hk)
    rw [hbc] at HX1
    obtain ⟨o, ho⟩ : ∃ o, readO s k sp = o := ⟨_, rfl⟩
    rw [ho] at HF ⊢
    clear ho hbc
    have hsl : (k : Int) + 1 ≤ s.size := by omega
    have HP := Lib.hid (fun W => plain_any sp c W)
    obtain ⟨bp, hbp⟩ : ∃ bp, plainB sp c = bp := ⟨_, rfl⟩
    rw [hbp] at HP HF
    clear hbp
    cases bp
    · by_cases h1 : c = 92
      · subst h1
        by_cases h2 : k + 1 < s.size
        · have HE := Lib.hid (fun W => escaped_any s hs (k + 1) h2 sp W)
          rw [show ((k + 1 : Nat) : Int) = (k : Int) + 1 by omega, show escO s (k + 1) sp = o by rw [HF.out]; simp] at HE
          have h3 : (k : Int) + 1 < s.size := by omega
          clear HF HX1
          go_enter Tryd.func62, Tryd.ntmps62
          go_wp2_with fail
          refine (HP.out _).mono ?_
          rintro e w1 ⟨rfl, rfl⟩
          go_wp2_with fail
          refine (HE.out _).mono ?_
          rintro e w1 ⟨⟨t, n, b, rfl, hr⟩, hb1⟩
          go_wp2
          go_ret3
          exact ⟨⟨t, n, b, rfl, hr⟩, hb1⟩
        · have HO := Lib.hid (show o = none by rw [HF.out, escO_out h2]; simp)
          clear HF HX1
          go_enter Tryd.func62, Tryd.ntmps62
          go_wp2_with fail
          refine (HP.out _).mono ?_
          rintro e w1 ⟨rfl, rfl⟩
          go_wp2
          go_ret3
          exact ⟨ends_no HO.out _ _, Below.refl _ _⟩
      · have e1 : (c == 92) = false := beq_eq_false_iff_ne.2 h1
        have HO := Lib.hid (show o = none by rw [HF.out, if_neg h1]; simp)
        clear HF HX1
        go_enter Tryd.func62, Tryd.ntmps62
        go_wp2_with fail
        refine (HP.out _).mono ?_
        rintro e w1 ⟨rfl, rfl⟩
        go_wp2
        go_ret3
        exact ⟨ends_no HO.out _ _, Below.refl _ _⟩
    · have HO := Lib.hid (show o = some (strOfNums [c], k + 1) by rw [HF.out]; simp)
      clear HF
      go_enter Tryd.func62, Tryd.ntmps62
      go_wp2_with fail
      refine (HP.out _).mono ?_
      rintro e w1 ⟨rfl, rfl⟩
      go_wp2
      go_ret3
      exact ⟨ends_yes HO.out HX1.out (by omega), Below.refl _ _⟩
  · have HO := Lib.hid (readO_out (sp := sp) hk)
    go_enter Tryd.func62, Tryd.ntmps62
    go_wp2
    go_ret3
    exact ⟨ends_no HO.out _ _, Below.refl _ _⟩
end Go.Proofs.YtialpofiagiclaaDoor
