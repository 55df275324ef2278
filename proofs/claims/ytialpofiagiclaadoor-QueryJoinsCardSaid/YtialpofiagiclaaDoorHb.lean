/- Bytes as they are written: the walks of stands, plain, hex, of the program's and the reference's. Digits of base sixteen: the walks of the reference's plain and hex, of the program's number. Plain facts on signs and their bytes. No program in sight. The walks of layer 2's functions. A byte as it is written: the walks of written and letter. A byte as it is written: the walk of the reference's letter. -/
import Derived.Test.YtialpofiagiclaaDoorShelf
import Derived.Test.YtialpofiagiclaaDoorChecked
import Derived.Test.YtialpofiagiclaaDoorHa
import Derived.WalkLawsBesides
import Derived.Handy
import Derived.KernelRfl
import Derived.BigQuiet
import Derived.Lib.IndexLaws
import Derived.PlainAid
import Derived.Laws.BytesArg
import Derived.Laws.BitsAllLaws
import Derived.StillTailTactics
namespace Go.Proofs.YtialpofiagiclaaDoor
set_option linter.unusedVariables false
set_option maxRecDepth 1000000
open Go.RowKit

def spT : ByteArray := ⟨#[34]⟩
def spC : ByteArray := ⟨#[91, 93, 94, 45]⟩
/-- Is c one of sp? -/
def isSp (sp : ByteArray) (c : Int) : Bool := decide (0 ≤ Lib.indexByte sp.data.toList c.toNat.toUInt8)
def plainB (sp : ByteArray) (c : Int) : Bool := decide (32 ≤ c) && decide (c ≤ 126) && (c != 92) && !(isSp sp c)
theorem byte_cases {P : Int → Prop} (h : ∀ x : Fin 256, P (x.val : Int)) {c : Int} (h0 : 0 ≤ c) (h1 : c ≤ 255) : P c := by
  have := h ⟨c.toNat, by omega⟩
  simpa [Int.toNat_of_nonneg h0] using this
theorem isSp_T {c : Int} (h0 : 0 ≤ c) (h1 : c ≤ 255) : isSp spT c = (c == 34) :=
  byte_cases (P := fun c => isSp spT c = (c == 34)) (by decide +kernel) h0 h1
theorem isSp_C {c : Int} (h0 : 0 ≤ c) (h1 : c ≤ 255) : isSp spC c = (c == 91 || c == 93 || c == 94 || c == 45) :=
  byte_cases (P := fun c => isSp spC c = (c == 91 || c == 93 || c == 94 || c == 45)) (by decide +kernel) h0 h1
/-- Does the byte c stand at that place? -/
def standB (s : ByteArray) (i c : Int) : Bool := decide (0 ≤ i) && decide (i < (s.size : Int)) && byt s i.toNat == c

set_option maxHeartbeats 800000 in
theorem stands_any (s : ByteArray) (i c : Int) (w : World) : Calls Tryd.prog 61 #[.string s, .int .i64 i, .int .u8 c] w fun e w' => e = .returned (.bool (standB s i c)) ∧ w' = w := by
  have HS := Lib.hid (show standB s i c = (decide (0 ≤ i) && decide (i < (s.size : Int)) && byt s i.toNat == c) from rfl)
  by_cases h0 : 0 ≤ i
  · obtain ⟨k, rfl⟩ : ∃ k : Nat, i = (k : Int) := ⟨i.toNat, by omega⟩
    by_cases h1 : (k : Int) < (s.size : Int)
    · have hk : k < s.size := by omega
      obtain ⟨x, hx⟩ : ∃ x : Int, (s[k].toNat : Int) = x := ⟨_, rfl⟩
      have HX := Lib.hid (show byt s ((k : Int).toNat) = x by rw [Int.toNat_natCast, byt_get hk, hx])
      go_enter Tryd.func61, Tryd.ntmps61
      go_wp2
      go_ret
      exact ⟨ret_bool (by rw [HS.out, HX.out, decide_eq_true h0, decide_eq_true h1]; rfl), rfl⟩
    · go_enter Tryd.func61, Tryd.ntmps61
      go_wp2
      go_ret
      exact ⟨ret_bool (by rw [HS.out, decide_eq_false (by omega : ¬ (k : Int) < (s.size : Int))]; simp), rfl⟩
  · go_enter Tryd.func61, Tryd.ntmps61
    go_wp2
    go_ret
    exact ⟨ret_bool (by rw [HS.out, decide_eq_false (by omega : ¬ 0 ≤ i)]; simp), rfl⟩
set_option maxHeartbeats 800000 in
theorem plain_any (sp : ByteArray) (c : Int) (w : World) : Calls Tryd.prog 65 #[.int .u8 c, .string sp] w fun e w' => e = .returned (.bool (plainB sp c)) ∧ w' = w := by
  have HS := Lib.hid (show plainB sp c = (decide (32 ≤ c) && decide (c ≤ 126) && (c != 92) && !(isSp sp c)) from rfl)
  obtain ⟨x, hx⟩ : ∃ x, Lib.indexByte sp.data.toList c.toNat.toUInt8 = x := ⟨_, rfl⟩
  have HI := Lib.hid (show isSp sp c = decide (0 ≤ x) by unfold isSp; rw [hx])
  have HX := Lib.hid hx
  clear hx
  by_cases h0 : 32 ≤ c
  · by_cases h1 : c ≤ 126
    · obtain ⟨b, hb⟩ : ∃ b, (c != 92) = b := ⟨_, rfl⟩
      cases b
      · go_enter Tryd.func65, Tryd.ntmps65
        go_wp2
        go_ret
        exact ⟨ret_bool (by rw [HS.out, hb]; simp), rfl⟩
      · have HB := Lib.hid hb
        go_enter Tryd.func65, Tryd.ntmps65
        go_wp2_with fail
        refine (Tryd.strings_IndexByte sp c _).mono ?_
        rintro e w' ⟨rfl, rfl⟩
        rw [HX.out]
        go_wp2
        go_ret
        exact ⟨ret_bool (by rw [HS.out, HI.out, HB.out, decide_eq_true h0, decide_eq_true h1]; simp; rw [Bool.eq_iff_iff]; simp), rfl⟩
    · go_enter Tryd.func65, Tryd.ntmps65
      go_wp2
      go_ret
      exact ⟨ret_bool (by rw [HS.out, decide_eq_false (by omega : ¬ c ≤ 126)]; simp), rfl⟩
  · go_enter Tryd.func65, Tryd.ntmps65
    go_wp2
    go_ret
    exact ⟨ret_bool (by rw [HS.out, decide_eq_false (by omega : ¬ 32 ≤ c)]; simp), rfl⟩
end Go.Proofs.YtialpofiagiclaaDoor

namespace Go.Proofs.YtialpofiagiclaaDoor
set_option linter.unusedVariables false
set_option maxRecDepth 1000000
open Go.RowKit

theorem u8_of {c : Int} (h0 : 0 ≤ c) (h1 : c ≤ 255) : (c.toNat.toUInt8.toNat : Int) = c := by
  have : c.toNat.toUInt8.toNat = c.toNat := by
    show (UInt8.ofNat c.toNat).toNat = _
    rw [UInt8.toNat_ofNat']; omega
  rw [this]; omega
theorem isSp_iff {sp : ByteArray} {c : Int} (h0 : 0 ≤ c) (h1 : c ≤ 255) : isSp sp c = true ↔ ∃ k, k < sp.size ∧ byt sp k = c := by
  unfold isSp
  rw [decide_eq_true_iff]
  constructor
  · intro h
    obtain ⟨o, ho⟩ : ∃ o : Nat, Lib.indexByte sp.data.toList c.toNat.toUInt8 = (o : Int) := ⟨(Lib.indexByte sp.data.toList c.toNat.toUInt8).toNat, by omega⟩
    have hs := (Lib.indexByte_some ho).1
    have hlt := (List.getElem?_eq_some_iff.1 hs).1
    refine ⟨o, by simpa using hlt, ?_⟩
    unfold byt
    rw [List.getD_eq_getElem?_getD, hs]
    exact u8_of h0 h1
  · rintro ⟨k, hk, hb⟩
    have hge := Lib.indexByte_ge sp.data.toList c.toNat.toUInt8
    by_cases e : Lib.indexByte sp.data.toList c.toNat.toUInt8 = -1
    · exfalso
      have hk' : k < sp.data.toList.length := by simpa using hk
      refine Lib.indexByte_none e k ?_
      rw [List.getElem?_eq_getElem hk']
      congr 1
      apply UInt8.toNat.inj
      have h2 : (sp.data.toList[k].toNat : Int) = c := by rw [← hb]; unfold byt; rw [List.getD_eq_getElem?_getD, List.getElem?_eq_getElem hk']; rfl
      have h3 := u8_of h0 h1
      omega
    · omega
set_option maxHeartbeats 1600000 in
theorem rplain_any (sp : ByteArray) (hs : sp.size ≤ 1000000) (c : Int) (hc0 : 0 ≤ c) (hc1 : c ≤ 255) (w : World) : Calls Tryd.prog 64 #[.int .u8 c, .string sp] w fun e w' => e = .returned (.bool (plainB sp c)) ∧ w' = w := by
  have HS := Lib.hid (show plainB sp c = (decide (32 ≤ c) && decide (c ≤ 126) && (c != 92) && !(isSp sp c)) from rfl)
  have HI := Lib.hid (isSp_iff (sp := sp) hc0 hc1)
  go_enter Tryd.func64, Tryd.ntmps64
  go_wp2
  go_loop [5] (fun i => ∃ k : Nat, k ≤ sp.size ∧ i = .int .i64 k ∧ Hid (∀ j, j < k → byt sp j ≠ c)) (fun i => sp.size - (intOf i).toNat)
  case atStart => exact ⟨0, Nat.zero_le _, rfl, Lib.hid (fun j h => by omega)⟩
  case round =>
    obtain ⟨k, hk, rfl, HA⟩ := hrel
    by_cases hlt : k < sp.size
    · obtain ⟨x, hx⟩ : ∃ x : Int, (sp[k].toNat : Int) = x := ⟨_, rfl⟩
      have HX := Lib.hid (show byt sp k = x by rw [byt_get hlt, hx])
      obtain ⟨b, hb⟩ : ∃ b, (x == c) = b := ⟨_, rfl⟩
      cases b
      · have HA1 : Hid (∀ j, j < k + 1 → byt sp j ≠ c) := Lib.hid (fun j hj => by
          by_cases e : j = k
          · subst e; rw [HX.out]; exact beq_eq_false_iff_ne.1 hb
          · exact HA.out j (by omega))
        go_wp2
        go_round
        case rel => exact ⟨k + 1, by omega, by go_num, HA1⟩
        case measure => simp [intOf]; omega
      · have HE := Lib.hid (show isSp sp c = true from HI.out.2 ⟨k, hlt, by rw [HX.out]; exact beq_iff_eq.1 hb⟩)
        go_wp2
        go_ret
        exact ⟨ret_bool (by rw [HS.out, HE.out]; simp), rfl⟩
    · have HE := Lib.hid (show isSp sp c = false by
        rw [Bool.eq_false_iff]; intro h
        obtain ⟨j, hj, hb⟩ := HI.out.1 h
        exact HA.out j (by omega) hb)
      obtain ⟨b, hb⟩ : ∃ b, (c != 92) = b := ⟨_, rfl⟩
      have HB := Lib.hid hb
      by_cases g0 : 32 ≤ c <;> by_cases g1 : c ≤ 126 <;> cases b
      all_goals try (exfalso; omega)
      all_goals
        go_wp2
        go_ret
        exact ⟨ret_bool (by rw [HS.out, HE.out, HB.out]; simp <;> omega), rfl⟩
theorem ret_ii {a b a' b' : Int} (h1 : a = a') (h2 : b = b') : Ending.returned (.tuple #[.int .i64 a, .int .i64 b]) = .returned (.tuple #[.int .i64 a', .int .i64 b']) := by rw [h1, h2]
/-- A digit's number; -1: it is none. -/
def hexV (c : Int) : Int := if 48 ≤ c ∧ c ≤ 57 then c - 48 else if 97 ≤ c ∧ c ≤ 102 then c - 87 else -1
theorem hexV_bd (c : Int) : -1 ≤ hexV c ∧ hexV c ≤ 15 := by
  unfold hexV
  by_cases h1 : 48 ≤ c ∧ c ≤ 57
  · rw [if_pos h1]; omega
  · rw [if_neg h1]
    by_cases h2 : 97 ≤ c ∧ c ≤ 102
    · rw [if_pos h2]; omega
    · rw [if_neg h2]; omega
theorem hexV_index {c : Int} (h0 : 0 ≤ c) (h1 : c ≤ 255) : Lib.indexByte [48, 49, 50, 51, 52, 53, 54, 55, 56, 57, 97, 98, 99, 100, 101, 102] c.toNat.toUInt8 = hexV c :=
  byte_cases (P := fun c => Lib.indexByte [48, 49, 50, 51, 52, 53, 54, 55, 56, 57, 97, 98, 99, 100, 101, 102] c.toNat.toUInt8 = hexV c) (by decide +kernel) h0 h1
set_option maxHeartbeats 800000 in
theorem hex_any (c : Int) (hc0 : 0 ≤ c) (hc1 : c ≤ 255) (w : World) : Calls Tryd.prog 70 #[.int .u8 c] w fun e w' => e = .returned (.int .i64 (hexV c)) ∧ w' = w := by
  have HS := Lib.hid (show hexV c = if 48 ≤ c ∧ c ≤ 57 then c - 48 else if 97 ≤ c ∧ c ≤ 102 then c - 87 else -1 from rfl)
  by_cases g0 : 48 ≤ c <;> by_cases g1 : c ≤ 57 <;> by_cases g2 : 97 ≤ c <;> by_cases g3 : c ≤ 102
  all_goals first
    | (exfalso; omega)
    | (go_enter Tryd.func70, Tryd.ntmps70
       go_wp2
       go_ret
       exact ⟨ret_int (by rw [HS.out]; first | (rw [if_pos (by omega)]; done) | (rw [if_neg (by omega), if_pos (by omega)]; omega) | (rw [if_neg (by omega), if_neg (by omega)])), rfl⟩)
/-- How many digits stand from a on, m at most. -/
def hexN (s : ByteArray) (a : Nat) : Nat → Nat
  | 0 => 0
  | m + 1 => if hexN s a m = m ∧ a + m < s.size ∧ 0 ≤ hexV (byt s (a + m)) then m + 1 else hexN s a m
/-- The number that the first k bytes from a on are. -/
def valN (s : ByteArray) (a : Nat) : Nat → Int
  | 0 => 0
  | k + 1 => valN s a k * 16 + hexV (byt s (a + k))
theorem hexN_le (s : ByteArray) (a : Nat) : ∀ m, hexN s a m ≤ m
  | 0 => Nat.le_refl _
  | m + 1 => by unfold hexN; split; exact Nat.le_refl _; have := hexN_le s a m; omega
theorem hexN_stop {s : ByteArray} {a k : Nat} (hk : hexN s a k = k) (h : ¬ (a + k < s.size ∧ 0 ≤ hexV (byt s (a + k)))) : ∀ d, hexN s a (k + d) = k
  | 0 => hk
  | d + 1 => by
    show (if hexN s a (k + d) = k + d ∧ a + (k + d) < s.size ∧ 0 ≤ hexV (byt s (a + (k + d))) then k + d + 1 else hexN s a (k + d)) = k
    rw [if_neg]
    · exact hexN_stop hk h d
    · rintro ⟨h1, h2, h3⟩
      rw [hexN_stop hk h d] at h1
      obtain rfl : d = 0 := by omega
      exact h ⟨h2, h3⟩
theorem hexN_go {s : ByteArray} {a k : Nat} (hk : hexN s a k = k) (h1 : a + k < s.size) (h2 : 0 ≤ hexV (byt s (a + k))) : hexN s a (k + 1) = k + 1 := by
  show (if hexN s a k = k ∧ a + k < s.size ∧ 0 ≤ hexV (byt s (a + k)) then k + 1 else hexN s a k) = k + 1
  rw [if_pos ⟨hk, h1, h2⟩]
theorem hexN_pre {s : ByteArray} {a k : Nat} (h : hexN s a (k + 1) = k + 1) : hexN s a k = k ∧ a + k < s.size ∧ 0 ≤ hexV (byt s (a + k)) := by
  by_cases e : hexN s a k = k ∧ a + k < s.size ∧ 0 ≤ hexV (byt s (a + k))
  · exact e
  · have : hexN s a (k + 1) = hexN s a k := by
      show (if hexN s a k = k ∧ a + k < s.size ∧ 0 ≤ hexV (byt s (a + k)) then k + 1 else hexN s a k) = _
      rw [if_neg e]
    have h2 := hexN_le s a k
    omega
theorem valN_bd {s : ByteArray} {a : Nat} : ∀ {k : Nat}, hexN s a k = k → k ≤ 6 → 0 ≤ valN s a k ∧ valN s a k < 16777216 ∧ (k ≤ 5 → valN s a k < 1048576) ∧ (k ≤ 4 → valN s a k < 65536) ∧ (k ≤ 3 → valN s a k < 4096) ∧ (k ≤ 2 → valN s a k < 256) ∧ (k ≤ 1 → valN s a k < 16) ∧ (k = 0 → valN s a k = 0)
  | 0, _, _ => by unfold valN; omega
  | k + 1, h, hk => by
    have h1 := valN_bd (hexN_pre h).1 (by omega)
    have h2 := (hexN_pre h).2.2
    have h3 := hexV_bd (byt s (a + k))
    show 0 ≤ valN s a k * 16 + hexV (byt s (a + k)) ∧ _
    have e : valN s a (k + 1) = valN s a k * 16 + hexV (byt s (a + k)) := rfl
    rw [e]
    refine ⟨by omega, ?_, ?_, ?_, ?_, ?_, ?_, ?_⟩
    · have := h1.2.2.1 (by omega); omega
    · intro h5; have := h1.2.2.2.1 (by omega); omega
    · intro h5; have := h1.2.2.2.2.1 (by omega); omega
    · intro h5; have := h1.2.2.2.2.2.1 (by omega); omega
    · intro h5; have := h1.2.2.2.2.2.2.1 (by omega); omega
    · intro h5; have := h1.2.2.2.2.2.2.2 (by omega); omega
    · omega

theorem dig_any (c : Int) (hc0 : 0 ≤ c) (hc1 : c ≤ 255) (w : World) : Calls Tryd.prog 66 #[.string ⟨#[48, 49, 50, 51, 52, 53, 54, 55, 56, 57, 97, 98, 99, 100, 101, 102]⟩, .int .u8 c] w fun e w' => e = .returned (.int .i64 (hexV c)) ∧ w' = w :=
  (Tryd.strings_IndexByte _ c w).mono fun e w' ⟨he, hw⟩ => ⟨by rw [he]; exact ret_int (hexV_index hc0 hc1), hw⟩
set_option maxHeartbeats 1600000 in
theorem number_any (s : ByteArray) (hs : s.size ≤ 1000000) (a : Nat) (ha : a ≤ 2000000) (m : Nat) (hm : m ≤ 6) (w : World) :
    Calls Tryd.prog 77 #[.string s, .int .i64 (a : Int), .int .i64 (m : Int)] w fun e w' => e = .returned (.tuple #[.int .i64 (valN s a (hexN s a m)), .int .i64 (hexN s a m : Int)]) ∧ w' = w := by
  go_enter Tryd.func77, Tryd.ntmps77
  go_wp2
  go_loop [8, 9] (fun b8 b9 => ∃ k : Nat, k ≤ m ∧ b9 = .int .i64 (k : Int) ∧ b8 = .int .i64 (valN s a k) ∧ Hid (hexN s a k = k)) (fun _ b9 => m - (intOf b9).toNat)
  case atStart => exact ⟨0, Nat.zero_le _, rfl, rfl, Lib.hid rfl⟩
  case round =>
    obtain ⟨k, hk, rfl, rfl, HA⟩ := hrel
    have hv := valN_bd HA.out (by omega)
    obtain ⟨v, hvv⟩ : ∃ v, valN s a k = v := ⟨_, rfl⟩
    have HV := Lib.hid hvv
    have hv0 : 0 ≤ v := by rw [← hvv]; exact hv.1
    have hv1 : v < 16777216 := by rw [← hvv]; exact hv.2.1
    rw [hvv]
    clear hv hvv
    by_cases h1 : (k : Int) < m
    · by_cases h2 : (a : Int) + k < s.size
      · have hlt : a + k < s.size := by omega
        obtain ⟨x, hx⟩ : ∃ x : Int, (s[a + k].toNat : Int) = x := ⟨_, rfl⟩
        have HX := Lib.hid (show byt s (a + k) = x by rw [byt_get hlt, hx])
        have hx0 : 0 ≤ x ∧ x ≤ 255 := by rw [← HX.out]; exact byt_lt s (a + k)
        have hd := hexV_bd x
        obtain ⟨d, hdd⟩ : ∃ d, hexV x = d := ⟨_, rfl⟩
        rw [hdd] at hd
        have HD := Lib.hid hdd
        clear hdd
        obtain ⟨hd0, hd1⟩ := hd
        obtain ⟨hx0, hx1⟩ := hx0
        by_cases h3 : 0 ≤ d
        · have HA1 := Lib.hid (hexN_go HA.out hlt (by rw [HX.out, HD.out]; exact h3))
          have HV1 := Lib.hid (show valN s a (k + 1) = v * 16 + d by show valN s a k * 16 + hexV (byt s (a + k)) = _; rw [HV.out, HX.out, HD.out])
          go_wp2_with fail
          refine (dig_any x hx0 hx1 _).mono ?_
          rintro e w' ⟨rfl, rfl⟩
          rw [HD.out]
          go_wp2
          go_round
          case rel => exact ⟨k + 1, by omega, by go_num, by rw [HV1.out], HA1⟩
          case measure => simp [intOf]; omega
        · have hst := hexN_stop HA.out (by rw [HX.out, HD.out]; omega) (m - k)
          rw [show k + (m - k) = m by omega] at hst
          have HST := Lib.hid hst
          clear hst
          go_wp2_with fail
          refine (dig_any x hx0 hx1 _).mono ?_
          rintro e w' ⟨rfl, rfl⟩
          rw [HD.out]
          go_wp2
          go_ret2
          exact ⟨ret_ii (by rw [HST.out, HV.out]) (by rw [HST.out]), rfl⟩
      · have hst := hexN_stop HA.out (by omega) (m - k)
        rw [show k + (m - k) = m by omega] at hst
        have HST := Lib.hid hst
        clear hst
        go_wp2
        go_ret2
        exact ⟨ret_ii (by rw [HST.out, HV.out]) (by rw [HST.out]), rfl⟩
    · obtain rfl : k = m := by omega
      go_wp2
      go_ret2
      exact ⟨ret_ii (by rw [HA.out, HV.out]) (by rw [HA.out]), rfl⟩
end Go.Proofs.YtialpofiagiclaaDoor

namespace Go.Proofs.YtialpofiagiclaaDoor
set_option linter.unusedVariables false
set_option maxRecDepth 1000000
open Go.RowKit Go.PlainAid

def rightB (n : Int) : Bool := decide (0 ≤ n) && decide (n ≤ 1114111) && (decide (n < 55296) || decide (57343 < n))
theorem rightB_iff (n : Int) : rightB n = true ↔ 0 ≤ n ∧ n ≤ 1114111 ∧ (n < 55296 ∨ 57343 < n) := by unfold rightB; simp [and_assoc]
/-- A sign's bytes. -/
def encL (n : Int) : List Int :=
  if n < 128 then [n] else if n < 2048 then [192 + n / 64, 128 + n % 64]
  else if n < 65536 then [224 + n / 4096, 128 + n / 64 % 64, 128 + n % 64] else [240 + n / 262144, 128 + n / 4096 % 64, 128 + n / 64 % 64, 128 + n % 64]
def encS (n : Int) : ByteArray := if rightB n = true then strOfNums (encL n) else ⟨#[]⟩

theorem or8 (a i : Nat) (x : Int) (h0 : 0 ≤ x) (hx : x < 2 ^ i) (hl : 2 ^ i * a + 2 ^ i ≤ 256) : bits .or .u8 ((2 ^ i * a : Nat) : Int) x = ((2 ^ i * a : Nat) : Int) + x := by
  obtain ⟨n, rfl⟩ := Int.eq_ofNat_of_zero_le h0
  have hn : n < 2 ^ i := by exact_mod_cast hx
  rw [u8_or_nat _ _ (by omega) (by omega), ← Nat.two_pow_add_eq_or_of_lt hn a]
  omega
theorem or64 (a i : Nat) (x : Int) (h0 : 0 ≤ x) (hx : x < 2 ^ i) (hl : 2 ^ i * a + 2 ^ i ≤ 1000000000000) : bits .or .i64 ((2 ^ i * a : Nat) : Int) x = ((2 ^ i * a : Nat) : Int) + x := by
  obtain ⟨n, rfl⟩ := Int.eq_ofNat_of_zero_le h0
  have hn : n < 2 ^ i := by exact_mod_cast hx
  show IntKind.i64.wrap ((BitVec.ofInt 64 ((2 ^ i * a : Nat) : Int) ||| BitVec.ofInt 64 (n : Int)).toNat : Int) = _
  generalize hp : 2 ^ i = p at *
  rw [BitVec.toNat_or, ofInt_u64 _ (by omega), ofInt_u64 _ (by omega), ← hp, ← Nat.two_pow_add_eq_or_of_lt (by omega) a, hp, IntKind.wrap_i64]
  omega
theorem or8_192 (x : Int) (h0 : 0 ≤ x) (hx : x < 64) : bits .or .u8 192 x = 192 + x := or8 3 6 x h0 hx (by decide)
theorem or8_224 (x : Int) (h0 : 0 ≤ x) (hx : x < 32) : bits .or .u8 224 x = 224 + x := or8 7 5 x h0 hx (by decide)
theorem or8_240 (x : Int) (h0 : 0 ≤ x) (hx : x < 16) : bits .or .u8 240 x = 240 + x := or8 15 4 x h0 hx (by decide)
theorem or8_128 (x : Int) (h0 : 0 ≤ x) (hx : x < 64) : bits .or .u8 128 x = 128 + x := or8 2 6 x h0 hx (by decide)
theorem or64_192 (x : Int) (h0 : 0 ≤ x) (hx : x < 64) : bits .or .i64 192 x = 192 + x := or64 3 6 x h0 hx (by decide)
theorem or64_224 (x : Int) (h0 : 0 ≤ x) (hx : x < 32) : bits .or .i64 224 x = 224 + x := or64 7 5 x h0 hx (by decide)
theorem or64_240 (x : Int) (h0 : 0 ≤ x) (hx : x < 16) : bits .or .i64 240 x = 240 + x := or64 15 4 x h0 hx (by decide)
theorem or64_128 (x : Int) (h0 : 0 ≤ x) (hx : x < 64) : bits .or .i64 128 x = 128 + x := or64 2 6 x h0 hx (by decide)
theorem or_shift (n b : Int) (h0 : 0 ≤ n) (h1 : n ≤ 1000000000) (hb0 : 0 ≤ b) (hb : b < 64) : bits .or .i64 (n * 64) b = n * 64 + b := by
  obtain ⟨x, rfl⟩ := Int.eq_ofNat_of_zero_le h0
  have := or64 x 6 b hb0 hb (by omega)
  rw [show ((2 ^ 6 * x : Nat) : Int) = (x : Int) * 64 from by omega] at this
  exact this
theorem and_low (k n : Nat) (hk : k ≤ 30) (hn : n < 9223372036854775808) : bits .and .i64 (n : Int) ((2 ^ k - 1 : Nat) : Int) = ((n % 2 ^ k : Nat) : Int) := by
  have h2 : 2 ^ k ≤ 2 ^ 30 := Nat.pow_le_pow_right (by decide) hk
  have h3 : n % 2 ^ k ≤ n := Nat.mod_le _ _
  show IntKind.i64.wrap ((BitVec.ofInt 64 (n : Int) &&& BitVec.ofInt 64 ((2 ^ k - 1 : Nat) : Int)).toNat : Int) = _
  rw [BitVec.toNat_and, ofInt_u64 n (by omega), ofInt_u64 _ (by omega), Nat.and_two_pow_sub_one_eq_mod, IntKind.wrap_i64]
  omega
theorem and63 (n : Int) (h0 : 0 ≤ n) (h1 : n ≤ 9223372036854775807) : bits .and .i64 n 63 = n % 64 := by
  obtain ⟨x, rfl⟩ := Int.eq_ofNat_of_zero_le h0
  exact and_low 6 x (by decide) (by omega)
theorem and31 (n : Int) (h0 : 0 ≤ n) (h1 : n ≤ 255) : bits .and .i64 n 31 = n % 32 := by
  obtain ⟨x, rfl⟩ := Int.eq_ofNat_of_zero_le h0
  exact and_low 5 x (by decide) (by omega)
theorem and15 (n : Int) (h0 : 0 ≤ n) (h1 : n ≤ 255) : bits .and .i64 n 15 = n % 16 := by
  obtain ⟨x, rfl⟩ := Int.eq_ofNat_of_zero_le h0
  exact and_low 4 x (by decide) (by omega)
theorem and7 (n : Int) (h0 : 0 ≤ n) (h1 : n ≤ 255) : bits .and .i64 n 7 = n % 8 := by
  obtain ⟨x, rfl⟩ := Int.eq_ofNat_of_zero_le h0
  exact and_low 3 x (by decide) (by omega)
theorem u8_low (k : Nat) (hk : k ≤ 8) (b : Nat) (hb : b < 256) : bits .and .u8 (b : Int) ((2 ^ k - 1 : Nat) : Int) = ((b % 2 ^ k : Nat) : Int) := by
  have h2 : 2 ^ k ≤ 2 ^ 8 := Nat.pow_le_pow_right (by decide) hk
  rw [u8_and_nat b (2 ^ k - 1) hb (by omega), Nat.and_two_pow_sub_one_eq_mod]
theorem u8_31 (b : Int) (h0 : 0 ≤ b) (h1 : b ≤ 255) : bits .and .u8 b 31 = b % 32 := by
  obtain ⟨n, rfl⟩ := Int.eq_ofNat_of_zero_le h0
  exact u8_low 5 (by decide) n (by omega)
theorem u8_15 (b : Int) (h0 : 0 ≤ b) (h1 : b ≤ 255) : bits .and .u8 b 15 = b % 16 := by
  obtain ⟨n, rfl⟩ := Int.eq_ofNat_of_zero_le h0
  exact u8_low 4 (by decide) n (by omega)
theorem u8_7 (b : Int) (h0 : 0 ≤ b) (h1 : b ≤ 255) : bits .and .u8 b 7 = b % 8 := by
  obtain ⟨n, rfl⟩ := Int.eq_ofNat_of_zero_le h0
  exact u8_low 3 (by decide) n (by omega)
theorem u8_63 (b : Int) (h0 : 0 ≤ b) (h1 : b ≤ 255) : bits .and .u8 b 63 = b % 64 := by
  obtain ⟨n, rfl⟩ := Int.eq_ofNat_of_zero_le h0
  exact u8_low 6 (by decide) n (by omega)

/-- What the first k bytes would mean, and how many bytes the first one tells. -/
def cand (s : ByteArray) : Nat → Int
  | 1 => bt s 0
  | 2 => bt s 0 % 32 * 64 + bt s 1 % 64
  | 3 => (bt s 0 % 16 * 64 + bt s 1 % 64) * 64 + bt s 2 % 64
  | _ => ((bt s 0 % 8 * 64 + bt s 1 % 64) * 64 + bt s 2 % 64) * 64 + bt s 3 % 64
def headN (b : Int) : Int := if b < 128 then b else if b < 224 then b % 32 else if b < 240 then b % 16 else b % 8
def headK (b : Int) : Nat := if b < 128 then 1 else if b < 224 then 2 else if b < 240 then 3 else 4
def firsts (s : ByteArray) (k : Nat) : List Int := (List.range k).map fun i => bt s i
/-- Are the first k bytes a sign's? -/
def good (s : ByteArray) (k : Nat) : Bool := decide (k ≤ s.size) && rightB (cand s k) && decide (encL (cand s k) = firsts s k)

theorem encL_len (n : Int) : (encL n).length = if n < 128 then 1 else if n < 2048 then 2 else if n < 65536 then 3 else 4 := by
  unfold encL; split
  · rfl
  · split
    · rfl
    · split <;> rfl
theorem good_head {s : ByteArray} {k : Nat} (h : good s k = true) (hk : 1 ≤ k) : headK (bt s 0) = k := by
  unfold good at h
  simp only [Bool.and_eq_true, decide_eq_true_eq] at h
  obtain ⟨⟨hs, hr⟩, he⟩ := h
  rw [rightB_iff] at hr
  have hl : (encL (cand s k)).length = k := by rw [he]; simp [firsts]
  have h0 : (encL (cand s k))[0]? = some (bt s 0) := by rw [he, firsts, List.getElem?_map, List.getElem?_range (by omega)]; rfl
  generalize cand s k = n at *
  rw [encL_len] at hl
  unfold encL at h0
  unfold headK
  by_cases c1 : n < 128
  · simp only [c1, if_true] at hl h0
    simp at h0
    rw [if_pos (by omega)]; exact hl
  · by_cases c2 : n < 2048
    · simp only [c1, c2, if_false, if_true] at hl h0
      simp at h0
      rw [if_neg (by omega), if_pos (by omega)]; exact hl
    · by_cases c3 : n < 65536
      · simp only [c1, c2, c3, if_false, if_true] at hl h0
        simp at h0
        rw [if_neg (by omega), if_neg (by omega), if_pos (by omega)]; exact hl
      · simp only [c1, c2, c3, if_false] at hl h0
        simp at h0
        rw [if_neg (by omega), if_neg (by omega), if_neg (by omega)]; exact hl
/-- The sign with which a text begins: number, size, whether there is one. -/
def decV (s : ByteArray) : Value :=
  if good s (headK (bt s 0)) = true then .tuple #[.int .i64 (cand s (headK (bt s 0))), .int .i64 (headK (bt s 0) : Int), .bool true] else .tuple #[.int .i64 0, .int .i64 0, .bool false]

theorem u8_inj {l m : List UInt8} (h : l.map (fun b => (b.toNat : Int)) = m.map (fun b => (b.toNat : Int))) : l = m := by
  induction l generalizing m with
  | nil => cases m with
    | nil => rfl
    | cons _ _ => simp at h
  | cons a l ih => cases m with
    | nil => simp at h
    | cons b m =>
      simp only [List.map_cons, List.cons.injEq] at h
      have e : a.toNat = b.toNat := by omega
      rw [ih h.2, UInt8.toNat_inj.1 e]
theorem nums_back (l : List Int) (h : ∀ x ∈ l, 0 ≤ x ∧ x ≤ 255) : (strOfNums l).toList.map (fun b => (b.toNat : Int)) = l := by
  rw [ByteArray.toList_eq, strOfNums_data, List.map_map]
  conv => rhs; rw [← List.map_id l]
  apply List.map_congr_left
  intro x hx
  have := h x hx
  have hn : x.toNat < 256 := by omega
  show ((UInt8.ofNat x.toNat).toNat : Int) = x
  rw [UInt8.toNat_ofNat_of_lt' hn]
  omega
theorem firsts_back (s : ByteArray) (k : Nat) (hk : k ≤ s.size) : (s.extract 0 k).toList.map (fun b => (b.toNat : Int)) = firsts s k := by
  rw [ByteArray.toList_eq]
  apply List.ext_getElem?
  intro i
  unfold firsts
  rw [List.getElem?_map, List.getElem?_map]
  have he : (s.extract 0 k).data.toList = (s.data.toList.drop 0).take (k - 0) := by simp [ByteArray.data_extract]
  rw [he, List.drop_zero, Nat.sub_zero]
  by_cases hi : i < k
  · rw [List.getElem?_range hi, List.getElem?_take_of_lt hi]
    have hl : i < s.data.toList.length := by simpa using Nat.lt_of_lt_of_le hi hk
    rw [List.getElem?_eq_getElem hl]
    have : i < s.size := by omega
    simp only [Option.map_some, Option.some.injEq]
    rw [← get_bt s i this]
    rfl
  · rw [List.getElem?_eq_none (by simp; omega), List.getElem?_eq_none (by simp; omega)]; rfl
theorem encL_byte (n : Int) (h : rightB n = true) : ∀ x ∈ encL n, 0 ≤ x ∧ x ≤ 255 := by
  rw [rightB_iff] at h
  unfold encL
  intro x hx
  by_cases c1 : n < 128
  · simp [c1] at hx; omega
  · by_cases c2 : n < 2048
    · simp [c1, c2] at hx; omega
    · by_cases c3 : n < 65536
      · simp [c1, c2, c3] at hx; omega
      · simp [c1, c2, c3] at hx; omega
theorem good_of (s : ByteArray) (k : Nat) (hk : k ≤ s.size) (hr : rightB (cand s k) = true) : ((encS (cand s k)).toList == (s.extract 0 k).toList) = good s k := by
  have e : encS (cand s k) = strOfNums (encL (cand s k)) := by unfold encS; rw [if_pos hr]
  unfold good
  rw [e, hr, decide_eq_true hk, Bool.true_and, Bool.true_and, Bool.eq_iff_iff, beq_iff_eq, decide_eq_true_eq]
  constructor
  · intro h
    rw [← nums_back _ (encL_byte _ hr), ← firsts_back s k hk, h]
  · intro h
    apply u8_inj
    rw [nums_back _ (encL_byte _ hr), firsts_back s k hk, h]
theorem bad_right (s : ByteArray) (k : Nat) (hr : rightB (cand s k) = false) : good s k = false := by unfold good; rw [hr]; simp
theorem bad_size (s : ByteArray) (k : Nat) (h : s.size < k) : good s k = false := by unfold good; rw [decide_eq_false (by omega)]; simp
theorem decV_some {s : ByteArray} {k : Nat} (hk : headK (bt s 0) = k) (h : good s k = true) : decV s = .tuple #[.int .i64 (cand s k), .int .i64 (k : Int), .bool true] := by
  unfold decV; rw [hk, if_pos h]
theorem decV_none {s : ByteArray} {k : Nat} (hk : headK (bt s 0) = k) (h : good s k = false) : decV s = .tuple #[.int .i64 0, .int .i64 0, .bool false] := by
  unfold decV; rw [hk, h]; rfl
theorem not_empty {s : ByteArray} (h : 0 < s.size) : s.toList.isEmpty = false := by
  rw [ByteArray.toList_eq]
  obtain ⟨⟨l⟩⟩ := s
  cases l with
  | nil => simp [ByteArray.size] at h
  | cons _ _ => rfl
theorem is_empty {s : ByteArray} (h : s.size = 0) : s.toList.isEmpty = true := by
  rw [ByteArray.toList_eq]
  obtain ⟨⟨l⟩⟩ := s
  cases l with
  | nil => rfl
  | cons _ _ => simp [ByteArray.size] at h
theorem headK_cases (b : Int) : (headK b = 1 ∧ b < 128 ∧ headN b = b) ∨ (headK b = 2 ∧ 128 ≤ b ∧ b < 224 ∧ headN b = b % 32) ∨ (headK b = 3 ∧ 224 ≤ b ∧ b < 240 ∧ headN b = b % 16) ∨ (headK b = 4 ∧ 240 ≤ b ∧ headN b = b % 8) := by
  unfold headK headN
  by_cases c1 : b < 128
  · exact .inl ⟨if_pos c1, c1, if_pos c1⟩
  · by_cases c2 : b < 224
    · exact .inr (.inl ⟨by rw [if_neg c1, if_pos c2], by omega, c2, by rw [if_neg c1, if_pos c2]⟩)
    · by_cases c3 : b < 240
      · exact .inr (.inr (.inl ⟨by rw [if_neg c1, if_neg c2, if_pos c3], by omega, c3, by rw [if_neg c1, if_neg c2, if_pos c3]⟩))
      · exact .inr (.inr (.inr ⟨by rw [if_neg c1, if_neg c2, if_neg c3], by omega, by rw [if_neg c1, if_neg c2, if_neg c3]⟩))
end Go.Proofs.YtialpofiagiclaaDoor

namespace Go.Proofs.YtialpofiagiclaaDoor
set_option linter.unusedVariables false
set_option maxRecDepth 1000000
open Go.RowKit Go.Sort Go.PlainAid

/-- Bytes that the call has laid itself, as a string. -/
theorem conv_lit (xs : List Int) (w : World) : (convert 54 9 (.slice (some ⟨w.heap.size, 0, none⟩) xs.length xs.length)).run Tryd.prog (w.alloc (.cells (xs.map (Value.int .u8)).toArray 5)) = .ok (.string (strOfNums xs)) (w.alloc (.cells (xs.map (Value.int .u8)).toArray 5)) := by
  refine run_convert_bytes_arg _ 54 5 Tryd.underlying54 Tryd.underlying5 w.heap.size 0 xs.length xs.length xs rfl (fun i hi => ?_) 9 Tryd.underlying9
  rw [Nat.zero_add, (Own.fresh w 5 (xs.map (Value.int .u8))).cell i]
  simp [List.getElem?_eq_getElem hi]

set_option maxHeartbeats 400000 in
theorem right_any (n : Int) (w : World) : Calls Tryd.prog 86 #[.int .i64 n] w fun e w' => e = .returned (.bool (rightB n)) ∧ w = w' := by
  by_cases h1 : 0 ≤ n <;> by_cases h2 : n ≤ 1114111 <;> by_cases h3 : n < 55296 <;> by_cases h4 : 57343 < n
  all_goals first
    | (exfalso; omega)
    | (have H := Lib.hid (show rightB n = (decide (0 ≤ n) && decide (n ≤ 1114111) && (decide (n < 55296) || decide (57343 < n))) from rfl)
       go_enter Tryd.func86, Tryd.ntmps86
       go_wp2
       go_ret
       exact ⟨ret_bool (by rw [H.out]; simp; omega), rfl⟩)

set_option maxHeartbeats 400000 in
theorem behind_any (n : Int) (h0 : 0 ≤ n) (h1 : n ≤ 9223372036854775807) (w : World) : Calls Tryd.prog 87 #[.int .i64 n] w fun e w' => e = .returned (.int .u8 (128 + n % 64)) ∧ w = w' := by
  have e1 := and63 n h0 h1
  have H := Lib.hid (or8_128 (n % 64) (by omega) (by omega))
  have e3 : n % 64 % 256 = n % 64 := by omega
  generalize n % 64 = m at *
  clear h0 h1
  go_enter Tryd.func87, Tryd.ntmps87
  go_wp2
  go_ret
  exact ⟨ret_int H.out, rfl⟩


theorem ret_tup {a b : ByteArray} {x : Bool} (h : a = b) : Ending.returned (.tuple #[.string a, .bool x]) = .returned (.tuple #[.string b, .bool x]) := by rw [h]

set_option maxHeartbeats 800000 in
theorem encode_any (n : Int) (w : World) : Calls Tryd.prog 78 #[.int .i64 n] w fun e w' => e = .returned (.tuple #[.string (encS n), .bool (rightB n)]) ∧ Below w.heap.size w w' := by
  obtain ⟨v, hv⟩ : ∃ v, rightB n = v := ⟨_, rfl⟩
  have R := right_any n
  rw [hv] at R ⊢
  have R' := Lib.hid R
  clear R
  cases v
  · have HE := Lib.hid (show encS n = ⟨#[]⟩ by unfold encS; rw [hv]; rfl)
    clear hv
    go_enter Tryd.func78, Tryd.ntmps78
    go_wp2_with fail
    refine (R'.out _).mono ?_
    rintro e w1 ⟨rfl, rfl⟩
    go_wp2_with fail
    go_ret2
    exact ⟨ret_tup HE.out.symm, Below.refl _ _⟩
  · have HE : encS n = strOfNums (encL n) := by unfold encS; rw [hv]; rfl
    rw [rightB_iff] at hv
    obtain ⟨h0, h1, -⟩ := hv
    by_cases c1 : n < 128
    · rw [encL, if_pos c1] at HE
      have H := Lib.hid HE
      have K := conv_lit [n]
      simp only [List.map_cons, List.map_nil, List.length_cons, List.length_nil, Nat.zero_add] at K
      clear HE
      go_enter Tryd.func78, Tryd.ntmps78
      go_wp2_with fail
      refine (R'.out _).mono ?_
      rintro e w1 ⟨rfl, rfl⟩
      go_wp2_with fail
      go_ret2
      exact ⟨ret_tup H.out.symm, by go_grown⟩
    · by_cases c2 : n < 2048
      · rw [encL, if_neg c1, if_pos c2] at HE
        have H := Lib.hid HE
        have e1 : bits .or .u8 192 (n / 64) = 192 + n / 64 := or8_192 _ (by omega) (by omega)
        have K := conv_lit [192 + n / 64, 128 + n % 64]
        simp only [List.map_cons, List.map_nil, List.length_cons, List.length_nil, Nat.zero_add] at K
        have B := Lib.hid (behind_any n h0 (by omega))
        clear HE
        go_enter Tryd.func78, Tryd.ntmps78
        go_wp2_with fail
        refine (R'.out _).mono ?_
        rintro e w1 ⟨rfl, rfl⟩
        go_wp2_with fail
        refine (B.out _).mono ?_
        rintro e w1 ⟨rfl, rfl⟩
        go_wp2_with fail
        go_ret2
        exact ⟨ret_tup H.out.symm, by go_grown⟩
      · by_cases c3 : n < 65536
        · rw [encL, if_neg c1, if_neg c2, if_pos c3] at HE
          have H := Lib.hid HE
          have e1 : bits .or .u8 224 (n / 4096) = 224 + n / 4096 := or8_224 _ (by omega) (by omega)
          have K := conv_lit [224 + n / 4096, 128 + n / 64 % 64, 128 + n % 64]
          simp only [List.map_cons, List.map_nil, List.length_cons, List.length_nil, Nat.zero_add] at K
          have B := Lib.hid (behind_any n h0 (by omega))
          have B1 := Lib.hid (behind_any (n / 64) (by omega) (by omega))
          clear HE
          go_enter Tryd.func78, Tryd.ntmps78
          go_wp2_with fail
          refine (R'.out _).mono ?_
          rintro e w1 ⟨rfl, rfl⟩
          go_wp2_with fail
          refine (B1.out _).mono ?_
          rintro e w1 ⟨rfl, rfl⟩
          go_wp2_with fail
          refine (B.out _).mono ?_
          rintro e w1 ⟨rfl, rfl⟩
          go_wp2_with fail
          go_ret2
          exact ⟨ret_tup H.out.symm, by go_grown⟩
        · rw [encL, if_neg c1, if_neg c2, if_neg c3] at HE
          have H := Lib.hid HE
          have e1 : bits .or .u8 240 (n / 262144) = 240 + n / 262144 := or8_240 _ (by omega) (by omega)
          have K := conv_lit [240 + n / 262144, 128 + n / 4096 % 64, 128 + n / 64 % 64, 128 + n % 64]
          simp only [List.map_cons, List.map_nil, List.length_cons, List.length_nil, Nat.zero_add] at K
          have B := Lib.hid (behind_any n h0 (by omega))
          have B1 := Lib.hid (behind_any (n / 64) (by omega) (by omega))
          have B2 := Lib.hid (behind_any (n / 4096) (by omega) (by omega))
          clear HE
          go_enter Tryd.func78, Tryd.ntmps78
          go_wp2_with fail
          refine (R'.out _).mono ?_
          rintro e w1 ⟨rfl, rfl⟩
          go_wp2_with fail
          refine (B2.out _).mono ?_
          rintro e w1 ⟨rfl, rfl⟩
          go_wp2_with fail
          refine (B1.out _).mono ?_
          rintro e w1 ⟨rfl, rfl⟩
          go_wp2_with fail
          refine (B.out _).mono ?_
          rintro e w1 ⟨rfl, rfl⟩
          go_wp2_with fail
          go_ret2
          exact ⟨ret_tup H.out.symm, by go_grown⟩
end Go.Proofs.YtialpofiagiclaaDoor

namespace Go.Proofs.YtialpofiagiclaaDoor
set_option linter.unusedVariables false
set_option maxRecDepth 1000000
open Go.RowKit

def dgv (d : Int) : Int := if d < 10 then 48 + d else 87 + d
/-- A byte as it is written. -/
def wrS (sp : ByteArray) (c : Int) : ByteArray :=
  if plainB sp c = true then strOfNums [c] else if c = 10 then ⟨#[92, 110]⟩ else if c = 9 then ⟨#[92, 116]⟩
  else if (c == 92 || isSp sp c) = true then strOfNums [92, c] else strOfNums [92, 120, dgv (c / 16), dgv (c % 16)]
theorem dg_at (d : Int) (h0 : 0 ≤ d) (h1 : d < 16) (hp : d.toNat < (⟨#[48, 49, 50, 51, 52, 53, 54, 55, 56, 57, 97, 98, 99, 100, 101, 102]⟩ : ByteArray).size) :
    (((⟨#[48, 49, 50, 51, 52, 53, 54, 55, 56, 57, 97, 98, 99, 100, 101, 102]⟩ : ByteArray)[d.toNat]'hp).toNat : Int) = dgv d := by
  have key : ∀ x : Fin 16, ∀ hx : x.val < (⟨#[48, 49, 50, 51, 52, 53, 54, 55, 56, 57, 97, 98, 99, 100, 101, 102]⟩ : ByteArray).size, (((⟨#[48, 49, 50, 51, 52, 53, 54, 55, 56, 57, 97, 98, 99, 100, 101, 102]⟩ : ByteArray)[x.val]'hx).toNat : Int) = dgv (x.val : Int) := by decide +kernel
  have h := key ⟨d.toNat, by omega⟩ hp
  rw [show ((d.toNat : Nat) : Int) = d by omega] at h
  exact h
theorem ret_str {a b : ByteArray} (h : a = b) : Ending.returned (.string a) = .returned (.string b) := by rw [h]

set_option maxHeartbeats 1600000 in
theorem written_any (sp : ByteArray) (c : Int) (hc0 : 0 ≤ c) (hc1 : c ≤ 255) (w : World) : Calls Tryd.prog 55 #[.int .u8 c, .string sp] w fun e w' => e = .returned (.string (wrS sp c)) ∧ Below w.heap.size w w' := by
  have HS := Lib.hid (show wrS sp c = (if plainB sp c = true then strOfNums [c] else if c = 10 then ⟨#[92, 110]⟩ else if c = 9 then ⟨#[92, 116]⟩
    else if (c == 92 || isSp sp c) = true then strOfNums [92, c] else strOfNums [92, 120, dgv (c / 16), dgv (c % 16)]) from rfl)
  have HP := Lib.hid (fun W => plain_any sp c W)
  obtain ⟨bp, hbp⟩ : ∃ bp, plainB sp c = bp := ⟨_, rfl⟩
  rw [hbp] at HP HS
  clear hbp
  cases bp
  · by_cases h1 : c = 10
    · subst h1
      go_enter Tryd.func55, Tryd.ntmps55
      go_wp2_with fail
      refine (HP.out _).mono ?_
      rintro e w1 ⟨rfl, rfl⟩
      go_wp2
      go_ret
      exact ⟨ret_str (by rw [HS.out]; rfl), Below.refl _ _⟩
    · have e1 : (c == 10) = false := beq_eq_false_iff_ne.2 h1
      by_cases h2 : c = 9
      · subst h2
        go_enter Tryd.func55, Tryd.ntmps55
        go_wp2_with fail
        refine (HP.out _).mono ?_
        rintro e w1 ⟨rfl, rfl⟩
        go_wp2
        go_ret
        exact ⟨ret_str (by rw [HS.out]; rfl), Below.refl _ _⟩
      · have e2 : (c == 9) = false := beq_eq_false_iff_ne.2 h2
        obtain ⟨bq, hbq⟩ : ∃ bq, (c == 92 || isSp sp c) = bq := ⟨_, rfl⟩
        have HQ := Lib.hid hbq
        clear hbq
        have HI := Lib.hid (show isSp sp c = decide (0 ≤ Lib.indexByte sp.data.toList c.toNat.toUInt8) from rfl)
        cases bq
        · have hq := HQ.out
          rw [Bool.or_eq_false_iff] at hq
          obtain ⟨e3, e4⟩ := hq
          have H4 := Lib.hid e4
          clear e4
          go_enter Tryd.func55, Tryd.ntmps55
          go_wp2_with fail
          refine (HP.out _).mono ?_
          rintro e w1 ⟨rfl, rfl⟩
          go_wp2_with fail
          refine (Tryd.strings_IndexByte sp c _).mono ?_
          rintro e w' ⟨rfl, rfl⟩
          have h5 : Lib.indexByte sp.data.toList c.toNat.toUInt8 < 0 := by have h := H4.out; rw [HI.out, decide_eq_false_iff_not] at h; omega
          generalize Lib.indexByte sp.data.toList c.toNat.toUInt8 = x at *
          have ea := u8_15 c hc0 hc1
          have hlt1 : c / 16 < 16 := by omega
          have hlt0 : 0 ≤ c / 16 := by omega
          have hlt3 : c % 16 < 16 := by omega
          have hlt2 : 0 ≤ c % 16 := by omega
          have d1 := dg_at (c / 16) hlt0 hlt1 (by show (c / 16).toNat < 16; omega)
          have d2 := dg_at (c % 16) hlt2 hlt3 (by show (c % 16).toNat < 16; omega)
          have HR := Lib.hid (show wrS sp c = strOfNums [92, 120, dgv (c / 16), dgv (c % 16)] by rw [HS.out, if_neg (by decide), if_neg h1, if_neg h2, HQ.out]; rfl)
          have K := conv_lit [92, 120, dgv (c / 16), dgv (c % 16)]
          simp only [List.map_cons, List.map_nil, List.length_cons, List.length_nil, Nat.zero_add, Nat.reduceAdd] at K
          have K2 : ∀ w : World, (convert 54 9 (.slice (some ⟨w.heap.size, 0, none⟩) 4 4)).run Tryd.prog ((w.alloc (.cells #[.int .u8 92, .int .u8 120, .int .u8 (dgv (c / 16)), .int .u8 (dgv (c % 16))] 5)).drew) = .ok (.string (strOfNums [92, 120, dgv (c / 16), dgv (c % 16)])) ((w.alloc (.cells #[.int .u8 92, .int .u8 120, .int .u8 (dgv (c / 16)), .int .u8 (dgv (c % 16))] 5)).drew) := fun w => K w.drew
          clear HS HQ HI H4 HP K
          go_wp2_with fail
          go_still_tail 6, (by kernel_rfl)
          generalize dgv (c / 16) = y1 at *
          generalize dgv (c % 16) = y2 at *
          clear d1 d2
          go_wp2
          go_ret
          exact ⟨ret_str HR.out.symm, ((Below.refl _ _).alloc (Nat.le_refl _) _).drew⟩
        · have HR := Lib.hid (show wrS sp c = strOfNums [92, c] by rw [HS.out, if_neg (by decide), if_neg h1, if_neg h2, HQ.out]; rfl)
          have K := conv_lit [92, c]
          simp only [List.map_cons, List.map_nil, List.length_cons, List.length_nil, Nat.zero_add, Nat.reduceAdd] at K
          clear HS
          obtain ⟨b3, h3⟩ : ∃ b3, (c == 92) = b3 := ⟨_, rfl⟩
          cases b3
          · have H5 := Lib.hid (show 0 ≤ Lib.indexByte sp.data.toList c.toNat.toUInt8 from by have h := HQ.out; rw [h3, HI.out] at h; simpa using h)
            clear HQ HI
            go_enter Tryd.func55, Tryd.ntmps55
            go_wp2_with fail
            refine (HP.out _).mono ?_
            rintro e w1 ⟨rfl, rfl⟩
            go_wp2_with fail
            refine (Tryd.strings_IndexByte sp c _).mono ?_
            rintro e w' ⟨rfl, rfl⟩
            have h5 := H5.out
            generalize Lib.indexByte sp.data.toList c.toNat.toUInt8 = x at *
            go_wp2
            go_ret
            exact ⟨ret_str HR.out.symm, by go_grown⟩
          · clear HQ HI
            go_enter Tryd.func55, Tryd.ntmps55
            go_wp2_with fail
            refine (HP.out _).mono ?_
            rintro e w1 ⟨rfl, rfl⟩
            go_wp2
            go_ret
            exact ⟨ret_str HR.out.symm, by go_grown⟩
  · have HR := Lib.hid (show wrS sp c = strOfNums [c] by rw [HS.out, if_pos rfl])
    have K := conv_lit [c]
    simp only [List.map_cons, List.map_nil, List.length_cons, List.length_nil, Nat.zero_add] at K
    clear HS
    go_enter Tryd.func55, Tryd.ntmps55
    go_wp2_with fail
    refine (HP.out _).mono ?_
    rintro e w1 ⟨rfl, rfl⟩
    go_wp2
    go_ret
    exact ⟨ret_str HR.out.symm, by go_grown⟩
end Go.Proofs.YtialpofiagiclaaDoor

namespace Go.Proofs.YtialpofiagiclaaDoor
set_option linter.unusedVariables false
set_option maxRecDepth 1000000
open Go.RowKit

def dgs : ByteArray := ⟨#[48, 49, 50, 51, 52, 53, 54, 55, 56, 57, 97, 98, 99, 100, 101, 102]⟩
theorem bytes_eq {s t : ByteArray} (h : s.data.toList = t.data.toList) : s = t := by
  apply ByteArray.ext
  apply Array.ext'
  exact h
theorem esc_join (c : Int) : (⟨#[92]⟩ : ByteArray) ++ strOfNums [c] = strOfNums [92, c] := by
  apply bytes_eq
  simp [strOfNums, ByteArray.data_append]
theorem hex_join {c : Int} (h0 : 0 ≤ c) (h1 : c ≤ 255) : (⟨#[92, 120]⟩ : ByteArray) ++ dgs.extract (c / 16).toNat (c / 16 + 1).toNat ++ dgs.extract (c % 16).toNat (c % 16 + 1).toNat = strOfNums [92, 120, dgv (c / 16), dgv (c % 16)] := by
  apply bytes_eq
  exact byte_cases (P := fun c => ((⟨#[92, 120]⟩ : ByteArray) ++ dgs.extract (c / 16).toNat (c / 16 + 1).toNat ++ dgs.extract (c % 16).toNat (c % 16 + 1).toNat).data.toList = (strOfNums [92, 120, dgv (c / 16), dgv (c % 16)]).data.toList) (by decide +kernel) h0 h1

set_option maxHeartbeats 1600000 in
theorem qletter_any (sp : ByteArray) (hs : sp.size ≤ 1000000) (c : Int) (hc0 : 0 ≤ c) (hc1 : c ≤ 255) (hsp : isSp sp c = true → 32 ≤ c ∧ c ≤ 126) (w : World) : Calls Tryd.prog 58 #[.int .u8 c, .string sp] w fun e w' => e = .returned (.string (wrS sp c)) ∧ Below w.heap.size w w' := by
  have HS := Lib.hid (show wrS sp c = (if plainB sp c = true then strOfNums [c] else if c = 10 then ⟨#[92, 110]⟩ else if c = 9 then ⟨#[92, 116]⟩
    else if (c == 92 || isSp sp c) = true then strOfNums [92, c] else strOfNums [92, 120, dgv (c / 16), dgv (c % 16)]) from rfl)
  have HP := Lib.hid (fun W => rplain_any sp hs c hc0 hc1 W)
  have HPB := Lib.hid (show plainB sp c = (decide (32 ≤ c) && decide (c ≤ 126) && (c != 92) && !(isSp sp c)) from rfl)
  have HSP := Lib.hid hsp
  clear hsp
  obtain ⟨bp, hbp⟩ : ∃ bp, plainB sp c = bp := ⟨_, rfl⟩
  rw [hbp] at HP HS HPB
  clear hbp
  cases bp
  · by_cases h1 : c = 10
    · subst h1
      go_enter Tryd.func58, Tryd.ntmps58
      go_wp2_with fail
      refine (HP.out _).mono ?_
      rintro e w1 ⟨rfl, rfl⟩
      go_wp2
      go_ret
      exact ⟨ret_str (by rw [HS.out]; rfl), Below.refl _ _⟩
    · have e1 : (c == 10) = false := beq_eq_false_iff_ne.2 h1
      by_cases h2 : c = 9
      · subst h2
        go_enter Tryd.func58, Tryd.ntmps58
        go_wp2_with fail
        refine (HP.out _).mono ?_
        rintro e w1 ⟨rfl, rfl⟩
        go_wp2
        go_ret
        exact ⟨ret_str (by rw [HS.out]; rfl), Below.refl _ _⟩
      · have e2 : (c == 9) = false := beq_eq_false_iff_ne.2 h2
        have HQ := Lib.hid (show (c == 92 || isSp sp c) = (decide (32 ≤ c) && decide (c ≤ 126)) by
          have h := HPB.out
          have h3 := HSP.out
          rw [Bool.eq_iff_iff]
          cases hi : isSp sp c
          · rw [hi] at h
            simp at h ⊢
            constructor
            · rintro rfl; omega
            · intro g; exact h g.1 g.2
          · have := h3 hi
            simp; omega)
        by_cases g : 32 ≤ c ∧ c ≤ 126
        · obtain ⟨g0, g1⟩ := g
          have HR := Lib.hid (show wrS sp c = (⟨#[92]⟩ : ByteArray) ++ strOfNums [c] by rw [HS.out, if_neg (by decide), if_neg h1, if_neg h2, HQ.out, decide_eq_true g0, decide_eq_true g1, esc_join]; rfl)
          have K := conv_lit [c]
          simp only [List.map_cons, List.map_nil, List.length_cons, List.length_nil, Nat.zero_add] at K
          clear HS HQ HPB HSP
          go_enter Tryd.func58, Tryd.ntmps58
          go_wp2_with fail
          refine (HP.out _).mono ?_
          rintro e w1 ⟨rfl, rfl⟩
          go_wp2
          go_ret
          exact ⟨ret_str HR.out.symm, by go_grown⟩
        · have hq : (decide (32 ≤ c) && decide (c ≤ 126)) = false := by rw [Bool.eq_false_iff]; simpa using g
          have HR := Lib.hid (show wrS sp c = (⟨#[92, 120]⟩ : ByteArray) ++ dgs.extract (c / 16).toNat (c / 16 + 1).toNat ++ dgs.extract (c % 16).toNat (c % 16 + 1).toNat by rw [HS.out, if_neg (by decide), if_neg h1, if_neg h2, HQ.out, hq, hex_join hc0 hc1]; rfl)
          clear HS HQ HPB HSP hq
          have g' : c < 32 ∨ 126 < c := by omega
          clear g
          rcases g' with g | g
          all_goals
            go_enter Tryd.func58, Tryd.ntmps58
            go_wp2_with fail
            refine (HP.out _).mono ?_
            rintro e w1 ⟨rfl, rfl⟩
            have ea := u8_15 c hc0 hc1
            have hlt1 : c / 16 < 16 := by omega
            have hlt0 : 0 ≤ c / 16 := by omega
            have hlt3 : c % 16 < 16 := by omega
            have hlt2 : 0 ≤ c % 16 := by omega
            have s1 : IntKind.u8.wrap (c / 16 + 1) = c / 16 + 1 := by rw [IntKind.wrap_u8]; omega
            have s2 : IntKind.u8.wrap (c % 16 + 1) = c % 16 + 1 := by rw [IntKind.wrap_u8]; omega
            go_wp2_with fail
            refine wp_region_quiet_lit (by kernel_rfl) (by kernel_rfl) ?_
            repeat (go_big_quiet_step (fail))
            refine wpQuiet_nil ?_
            intro _ hw'
            obtain ⟨nq, hw''⟩ := hw'
            subst hw''
            clear s1 s2 ea hlt0 hlt1 hlt2 hlt3
            go_wp2
            go_ret
            exact ⟨ret_str HR.out.symm, below_drewN (Below.refl _ _) nq⟩
  · have HR := Lib.hid (show wrS sp c = strOfNums [c] by rw [HS.out, if_pos rfl])
    have K := conv_lit [c]
    simp only [List.map_cons, List.map_nil, List.length_cons, List.length_nil, Nat.zero_add] at K
    clear HS HPB HSP
    go_enter Tryd.func58, Tryd.ntmps58
    go_wp2_with fail
    refine (HP.out _).mono ?_
    rintro e w1 ⟨rfl, rfl⟩
    go_wp2
    go_ret
    exact ⟨ret_str HR.out.symm, by go_grown⟩
end Go.Proofs.YtialpofiagiclaaDoor
