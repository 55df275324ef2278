/- Bytes as they are written: the walks of stands, plain, hex, of the program's and the reference's. Digits of base sixteen: the walks of the reference's plain and hex, of the program's number. -/
import Derived.Test.YtonknapfndaalaaShelf
import Derived.Test.YtonknapfndaalaaChecked
import Derived.Test.YtonknapfndaalaaGa
import Derived.WalkLawsBesides
import Derived.Handy
import Derived.KernelRfl
import Derived.BigQuiet
import Derived.Lib.IndexLaws
namespace Go.Proofs.Ytonknapfndaalaa
set_option linter.unusedVariables false
set_option maxRecDepth 1000000
open Go.RowKit
def spT : ByteArray := ⟨#[34]⟩
def spC : ByteArray := ⟨#[91, 93, 94, 45]⟩
/-- Is c one of sp? -/
def isSp (sp : ByteArray) (c : Int) : Bool := decide (0 ≤ Lib.indexByte sp.data.toList c.toNat.toUInt8)
def plainB (sp : ByteArray) (c : Int) : Bool := decide (32 ≤ c) && decide (c ≤ 126) && (c != 92) && !(isSp sp c)
theorem byte_cases {P : Int → Prop} (h : ∀ x : Fin 256, P (x.val : Int)) {c : Int} (h0 : 0 ≤ c) (h1 : c ≤ 255) : P c := by
 have := h ⟨c.toNat, by omega⟩
 simpa [Int.toNat_of_nonneg h0] using this
theorem isSp_T {c : Int} (h0 : 0 ≤ c) (h1 : c ≤ 255) : isSp spT c = (c == 34) :=
 byte_cases (P := fun c => isSp spT c = (c == 34)) (by decide +kernel) h0 h1
theorem isSp_C {c : Int} (h0 : 0 ≤ c) (h1 : c ≤ 255) : isSp spC c = (c == 91 || c == 93 || c == 94 || c == 45) :=
 byte_cases (P := fun c => isSp spC c = (c == 91 || c == 93 || c == 94 || c == 45)) (by decide +kernel) h0 h1
/-- Does the byte c stand at that place? -/
def standB (s : ByteArray) (i c : Int) : Bool := decide (0 ≤ i) && decide (i < (s.size : Int)) && byt s i.toNat == c
set_option maxHeartbeats 800000 in
theorem stands_any (s : ByteArray) (i c : Int) (w : World) : Calls Try.prog 88 #[.string s, .int .i64 i, .int .u8 c] w fun e w' => e = .returned (.bool (standB s i c)) ∧ w' = w := by
 have HS := Lib.hid (show standB s i c = (decide (0 ≤ i) && decide (i < (s.size : Int)) && byt s i.toNat == c) from rfl)
 by_cases h0 : 0 ≤ i
 ·
  obtain ⟨k, rfl⟩ : ∃ k : Nat, i = (k : Int) := ⟨i.toNat, by omega⟩
  by_cases h1 : (k : Int) < (s.size : Int)
  ·
   have hk : k < s.size := by omega
   obtain ⟨x, hx⟩ : ∃ x : Int, (s[k].toNat : Int) = x := ⟨_, rfl⟩
   have HX := Lib.hid (show byt s ((k : Int).toNat) = x by rw [Int.toNat_natCast, byt_get hk, hx])
   go_enter Try.func88, Try.ntmps88
   go_wp2
   go_ret
   exact ⟨ret_bool (by rw [HS.out, HX.out, decide_eq_true h0, decide_eq_true h1]; rfl), rfl⟩
  ·
   go_enter Try.func88, Try.ntmps88
   go_wp2
   go_ret
   exact ⟨ret_bool (by rw [HS.out, decide_eq_false (by omega : ¬ (k : Int) < (s.size : Int))]; simp), rfl⟩
 ·
  go_enter Try.func88, Try.ntmps88
  go_wp2
  go_ret
  exact ⟨ret_bool (by rw [HS.out, decide_eq_false (by omega : ¬ 0 ≤ i)]; simp), rfl⟩
set_option maxHeartbeats 800000 in
theorem plain_any (sp : ByteArray) (c : Int) (w : World) : Calls Try.prog 56 #[.int .u8 c, .string sp] w fun e w' => e = .returned (.bool (plainB sp c)) ∧ w' = w := by
 have HS := Lib.hid (show plainB sp c = (decide (32 ≤ c) && decide (c ≤ 126) && (c != 92) && !(isSp sp c)) from rfl)
 obtain ⟨x, hx⟩ : ∃ x, Lib.indexByte sp.data.toList c.toNat.toUInt8 = x := ⟨_, rfl⟩
 have HI := Lib.hid (show isSp sp c = decide (0 ≤ x) by unfold isSp; rw [hx])
 have HX := Lib.hid hx
 clear hx
 by_cases h0 : 32 ≤ c
 ·
  by_cases h1 : c ≤ 126
  ·
   obtain ⟨b, hb⟩ : ∃ b, (c != 92) = b := ⟨_, rfl⟩
   cases b
   ·
    go_enter Try.func56, Try.ntmps56
    go_wp2
    go_ret
    exact ⟨ret_bool (by rw [HS.out, hb]; simp), rfl⟩
   ·
    have HB := Lib.hid hb
    go_enter Try.func56, Try.ntmps56
    go_wp2_with fail
    refine (Try.strings_IndexByte sp c _).mono ?_
    rintro e w' ⟨rfl, rfl⟩
    rw [HX.out]
    go_wp2
    go_ret
    exact ⟨ret_bool (by rw [HS.out, HI.out, HB.out, decide_eq_true h0, decide_eq_true h1]; simp; rw [Bool.eq_iff_iff]; simp), rfl⟩
  ·
   go_enter Try.func56, Try.ntmps56
   go_wp2
   go_ret
   exact ⟨ret_bool (by rw [HS.out, decide_eq_false (by omega : ¬ c ≤ 126)]; simp), rfl⟩
 ·
  go_enter Try.func56, Try.ntmps56
  go_wp2
  go_ret
  exact ⟨ret_bool (by rw [HS.out, decide_eq_false (by omega : ¬ 32 ≤ c)]; simp), rfl⟩
end Go.Proofs.Ytonknapfndaalaa

namespace Go.Proofs.Ytonknapfndaalaa
set_option linter.unusedVariables false
set_option maxRecDepth 1000000
open Go.RowKit
theorem u8_of {c : Int} (h0 : 0 ≤ c) (h1 : c ≤ 255) : (c.toNat.toUInt8.toNat : Int) = c := by
 have : c.toNat.toUInt8.toNat = c.toNat := by
  show (UInt8.ofNat c.toNat).toNat = _
  rw [UInt8.toNat_ofNat']; omega
 rw [this]; omega
theorem isSp_iff {sp : ByteArray} {c : Int} (h0 : 0 ≤ c) (h1 : c ≤ 255) : isSp sp c = true ↔ ∃ k, k < sp.size ∧ byt sp k = c := by
 unfold isSp
 rw [decide_eq_true_iff]
 constructor
 ·
  intro h
  obtain ⟨o, ho⟩ : ∃ o : Nat, Lib.indexByte sp.data.toList c.toNat.toUInt8 = (o : Int) := ⟨(Lib.indexByte sp.data.toList c.toNat.toUInt8).toNat, by omega⟩
  have hs := (Lib.indexByte_some ho).1
  have hlt := (List.getElem?_eq_some_iff.1 hs).1
  refine ⟨o, by simpa using hlt, ?_⟩
  unfold byt
  rw [List.getD_eq_getElem?_getD, hs]
  exact u8_of h0 h1
 ·
  rintro ⟨k, hk, hb⟩
  have hge := Lib.indexByte_ge sp.data.toList c.toNat.toUInt8
  by_cases e : Lib.indexByte sp.data.toList c.toNat.toUInt8 = -1
  ·
   exfalso
   have hk' : k < sp.data.toList.length := by simpa using hk
   refine Lib.indexByte_none e k ?_
   rw [List.getElem?_eq_getElem hk']
   congr 1
   apply UInt8.toNat.inj
   have h2 : (sp.data.toList[k].toNat : Int) = c := by rw [← hb]; unfold byt; rw [List.getD_eq_getElem?_getD, List.getElem?_eq_getElem hk']; rfl
   have h3 := u8_of h0 h1
   omega
  ·
   omega
set_option maxHeartbeats 1600000 in
theorem rplain_any (sp : ByteArray) (hs : sp.size ≤ 1000000) (c : Int) (hc0 : 0 ≤ c) (hc1 : c ≤ 255) (w : World) : Calls Try.prog 78 #[.int .u8 c, .string sp] w fun e w' => e = .returned (.bool (plainB sp c)) ∧ w' = w := by
 have HS := Lib.hid (show plainB sp c = (decide (32 ≤ c) && decide (c ≤ 126) && (c != 92) && !(isSp sp c)) from rfl)
 have HI := Lib.hid (isSp_iff (sp := sp) hc0 hc1)
 go_enter Try.func78, Try.ntmps78
 go_wp2
 go_loop [5] (fun i => ∃ k : Nat, k ≤ sp.size ∧ i = .int .i64 k ∧ Hid (∀ j, j < k → byt sp j ≠ c)) (fun i => sp.size - (intOf i).toNat)
 case atStart => exact ⟨0, Nat.zero_le _, rfl, Lib.hid (fun j h => by omega)⟩
 case round =>
  obtain ⟨k, hk, rfl, HA⟩ := hrel
  by_cases hlt : k < sp.size
  ·
   obtain ⟨x, hx⟩ : ∃ x : Int, (sp[k].toNat : Int) = x := ⟨_, rfl⟩
   have HX := Lib.hid (show byt sp k = x by rw [byt_get hlt, hx])
   obtain ⟨b, hb⟩ : ∃ b, (x == c) = b := ⟨_, rfl⟩
   cases b
   ·
    have HA1 : Hid (∀ j, j < k + 1 → byt sp j ≠ c) := Lib.hid (fun j hj => by
     by_cases e : j = k
     ·
      subst e; rw [HX.out]; exact beq_eq_false_iff_ne.1 hb
     ·
      exact HA.out j (by omega))
    go_wp2
    go_round
    case rel => exact ⟨k + 1, by omega, by go_num, HA1⟩
    case measure => simp [intOf]; omega
   ·
    have HE := Lib.hid (show isSp sp c = true from HI.out.2 ⟨k, hlt, by rw [HX.out]; exact beq_iff_eq.1 hb⟩)
    go_wp2
    go_ret
    exact ⟨ret_bool (by rw [HS.out, HE.out]; simp), rfl⟩
  ·
   have HE := Lib.hid (show isSp sp c = false by
    rw [Bool.eq_false_iff]; intro h
    obtain ⟨j, hj, hb⟩ := HI.out.1 h
    exact HA.out j (by omega) hb)
   obtain ⟨b, hb⟩ : ∃ b, (c != 92) = b := ⟨_, rfl⟩
   have HB := Lib.hid hb
   by_cases g0 : 32 ≤ c <;> by_cases g1 : c ≤ 126 <;> cases b
   all_goals try (exfalso; omega)
   all_goals
    go_wp2
    go_ret
    exact ⟨ret_bool (by rw [HS.out, HE.out, HB.out]; simp <;> omega), rfl⟩
theorem ret_ii {a b a' b' : Int} (h1 : a = a') (h2 : b = b') : Ending.returned (.tuple #[.int .i64 a, .int .i64 b]) = .returned (.tuple #[.int .i64 a', .int .i64 b']) := by rw [h1, h2]
/-- A digit's number; -1: it is none. -/
def hexV (c : Int) : Int := if 48 ≤ c ∧ c ≤ 57 then c - 48 else if 97 ≤ c ∧ c ≤ 102 then c - 87 else -1
theorem hexV_bd (c : Int) : -1 ≤ hexV c ∧ hexV c ≤ 15 := by
 unfold hexV
 by_cases h1 : 48 ≤ c ∧ c ≤ 57
 ·
  rw [if_pos h1]; omega
 ·
  rw [if_neg h1]
  by_cases h2 : 97 ≤ c ∧ c ≤ 102
  ·
   rw [if_pos h2]; omega
  ·
   rw [if_neg h2]; omega
theorem hexV_index {c : Int} (h0 : 0 ≤ c) (h1 : c ≤ 255) : Lib.indexByte [48, 49, 50, 51, 52, 53, 54, 55, 56, 57, 97, 98, 99, 100, 101, 102] c.toNat.toUInt8 = hexV c :=
 byte_cases (P := fun c => Lib.indexByte [48, 49, 50, 51, 52, 53, 54, 55, 56, 57, 97, 98, 99, 100, 101, 102] c.toNat.toUInt8 = hexV c) (by decide +kernel) h0 h1
set_option maxHeartbeats 800000 in
theorem hex_any (c : Int) (hc0 : 0 ≤ c) (hc1 : c ≤ 255) (w : World) : Calls Try.prog 98 #[.int .u8 c] w fun e w' => e = .returned (.int .i64 (hexV c)) ∧ w' = w := by
 have HS := Lib.hid (show hexV c = if 48 ≤ c ∧ c ≤ 57 then c - 48 else if 97 ≤ c ∧ c ≤ 102 then c - 87 else -1 from rfl)
 by_cases g0 : 48 ≤ c <;> by_cases g1 : c ≤ 57 <;> by_cases g2 : 97 ≤ c <;> by_cases g3 : c ≤ 102
 all_goals first
  | (exfalso; omega)
  | (go_enter Try.func98, Try.ntmps98
     go_wp2
     go_ret
     exact ⟨ret_int (by rw [HS.out]; first | (rw [if_pos (by omega)]; done) | (rw [if_neg (by omega), if_pos (by omega)]; omega) | (rw [if_neg (by omega), if_neg (by omega)])), rfl⟩)
/-- How many digits stand from a on, m at most. -/
def hexN (s : ByteArray) (a : Nat) : Nat → Nat
 | 0 => 0
 | m + 1 => if hexN s a m = m ∧ a + m < s.size ∧ 0 ≤ hexV (byt s (a + m)) then m + 1 else hexN s a m
/-- The number that the first k bytes from a on are. -/
def valN (s : ByteArray) (a : Nat) : Nat → Int
 | 0 => 0
 | k + 1 => valN s a k * 16 + hexV (byt s (a + k))
theorem hexN_le (s : ByteArray) (a : Nat) : ∀ m, hexN s a m ≤ m
 | 0 => Nat.le_refl _
 | m + 1 => by unfold hexN; split; exact Nat.le_refl _; have := hexN_le s a m; omega
theorem hexN_stop {s : ByteArray} {a k : Nat} (hk : hexN s a k = k) (h : ¬ (a + k < s.size ∧ 0 ≤ hexV (byt s (a + k)))) : ∀ d, hexN s a (k + d) = k
 | 0 => hk
 | d + 1 => by
  show (if hexN s a (k + d) = k + d ∧ a + (k + d) < s.size ∧ 0 ≤ hexV (byt s (a + (k + d))) then k + d + 1 else hexN s a (k + d)) = k
  rw [if_neg]
  ·
   exact hexN_stop hk h d
  ·
   rintro ⟨h1, h2, h3⟩
   rw [hexN_stop hk h d] at h1
   obtain rfl : d = 0 := by omega
   exact h ⟨h2, h3⟩
theorem hexN_go {s : ByteArray} {a k : Nat} (hk : hexN s a k = k) (h1 : a + k < s.size) (h2 : 0 ≤ hexV (byt s (a + k))) : hexN s a (k + 1) = k + 1 := by
 show (if hexN s a k = k ∧ a + k < s.size ∧ 0 ≤ hexV (byt s (a + k)) then k + 1 else hexN s a k) = k + 1
 rw [if_pos ⟨hk, h1, h2⟩]
theorem hexN_pre {s : ByteArray} {a k : Nat} (h : hexN s a (k + 1) = k + 1) : hexN s a k = k ∧ a + k < s.size ∧ 0 ≤ hexV (byt s (a + k)) := by
 by_cases e : hexN s a k = k ∧ a + k < s.size ∧ 0 ≤ hexV (byt s (a + k))
 ·
  exact e
 ·
  have : hexN s a (k + 1) = hexN s a k := by
   show (if hexN s a k = k ∧ a + k < s.size ∧ 0 ≤ hexV (byt s (a + k)) then k + 1 else hexN s a k) = _
   rw [if_neg e]
  have h2 := hexN_le s a k
  omega
theorem valN_bd {s : ByteArray} {a : Nat} : ∀ {k : Nat}, hexN s a k = k → k ≤ 6 → 0 ≤ valN s a k ∧ valN s a k < 16777216 ∧ (k ≤ 5 → valN s a k < 1048576) ∧ (k ≤ 4 → valN s a k < 65536) ∧ (k ≤ 3 → valN s a k < 4096) ∧ (k ≤ 2 → valN s a k < 256) ∧ (k ≤ 1 → valN s a k < 16) ∧ (k = 0 → valN s a k = 0)
 | 0, _, _ => by unfold valN; omega
 | k + 1, h, hk => by
  have h1 := valN_bd (hexN_pre h).1 (by omega)
  have h2 := (hexN_pre h).2.2
  have h3 := hexV_bd (byt s (a + k))
  show 0 ≤ valN s a k * 16 + hexV (byt s (a + k)) ∧ _
  have e : valN s a (k + 1) = valN s a k * 16 + hexV (byt s (a + k)) := rfl
  rw [e]
  refine ⟨by omega, ?_, ?_, ?_, ?_, ?_, ?_, ?_⟩
  ·
   have := h1.2.2.1 (by omega); omega
  ·
   intro h5; have := h1.2.2.2.1 (by omega); omega
  ·
   intro h5; have := h1.2.2.2.2.1 (by omega); omega
  ·
   intro h5; have := h1.2.2.2.2.2.1 (by omega); omega
  ·
   intro h5; have := h1.2.2.2.2.2.2.1 (by omega); omega
  ·
   intro h5; have := h1.2.2.2.2.2.2.2 (by omega); omega
  ·
   omega
theorem dig_any (c : Int) (hc0 : 0 ≤ c) (hc1 : c ≤ 255) (w : World) : Calls Try.prog 57 #[.string ⟨#[48, 49, 50, 51, 52, 53, 54, 55, 56, 57, 97, 98, 99, 100, 101, 102]⟩, .int .u8 c] w fun e w' => e = .returned (.int .i64 (hexV c)) ∧ w' = w :=
 (Try.strings_IndexByte _ c w).mono fun e w' ⟨he, hw⟩ => ⟨by rw [he]; exact ret_int (hexV_index hc0 hc1), hw⟩
set_option maxHeartbeats 1600000 in
theorem number_any (s : ByteArray) (hs : s.size ≤ 1000000) (a : Nat) (ha : a ≤ 2000000) (m : Nat) (hm : m ≤ 6) (w : World) :
  Calls Try.prog 114 #[.string s, .int .i64 (a : Int), .int .i64 (m : Int)] w fun e w' => e = .returned (.tuple #[.int .i64 (valN s a (hexN s a m)), .int .i64 (hexN s a m : Int)]) ∧ w' = w := by
 go_enter Try.func114, Try.ntmps114
 go_wp2
 go_loop [8, 9] (fun b8 b9 => ∃ k : Nat, k ≤ m ∧ b9 = .int .i64 (k : Int) ∧ b8 = .int .i64 (valN s a k) ∧ Hid (hexN s a k = k)) (fun _ b9 => m - (intOf b9).toNat)
 case atStart => exact ⟨0, Nat.zero_le _, rfl, rfl, Lib.hid rfl⟩
 case round =>
  obtain ⟨k, hk, rfl, rfl, HA⟩ := hrel
  have hv := valN_bd HA.out (by omega)
  obtain ⟨v, hvv⟩ : ∃ v, valN s a k = v := ⟨_, rfl⟩
  have HV := Lib.hid hvv
  have hv0 : 0 ≤ v := by rw [← hvv]; exact hv.1
  have hv1 : v < 16777216 := by rw [← hvv]; exact hv.2.1
  rw [hvv]
  clear hv hvv
  by_cases h1 : (k : Int) < m
  ·
   by_cases h2 : (a : Int) + k < s.size
   ·
    have hlt : a + k < s.size := by omega
    obtain ⟨x, hx⟩ : ∃ x : Int, (s[a + k].toNat : Int) = x := ⟨_, rfl⟩
    have HX := Lib.hid (show byt s (a + k) = x by rw [byt_get hlt, hx])
    have hx0 : 0 ≤ x ∧ x ≤ 255 := by rw [← HX.out]; exact byt_lt s (a + k)
    have hd := hexV_bd x
    obtain ⟨d, hdd⟩ : ∃ d, hexV x = d := ⟨_, rfl⟩
    rw [hdd] at hd
    have HD := Lib.hid hdd
    clear hdd
    obtain ⟨hd0, hd1⟩ := hd
    obtain ⟨hx0, hx1⟩ := hx0
    by_cases h3 : 0 ≤ d
    ·
     have HA1 := Lib.hid (hexN_go HA.out hlt (by rw [HX.out, HD.out]; exact h3))
     have HV1 := Lib.hid (show valN s a (k + 1) = v * 16 + d by show valN s a k * 16 + hexV (byt s (a + k)) = _; rw [HV.out, HX.out, HD.out])
     go_wp2_with fail
     refine (dig_any x hx0 hx1 _).mono ?_
     rintro e w' ⟨rfl, rfl⟩
     rw [HD.out]
     go_wp2
     go_round
     case rel => exact ⟨k + 1, by omega, by go_num, by rw [HV1.out], HA1⟩
     case measure => simp [intOf]; omega
    ·
     have hst := hexN_stop HA.out (by rw [HX.out, HD.out]; omega) (m - k)
     rw [show k + (m - k) = m by omega] at hst
     have HST := Lib.hid hst
     clear hst
     go_wp2_with fail
     refine (dig_any x hx0 hx1 _).mono ?_
     rintro e w' ⟨rfl, rfl⟩
     rw [HD.out]
     go_wp2
     go_ret2
     exact ⟨ret_ii (by rw [HST.out, HV.out]) (by rw [HST.out]), rfl⟩
   ·
    have hst := hexN_stop HA.out (by omega) (m - k)
    rw [show k + (m - k) = m by omega] at hst
    have HST := Lib.hid hst
    clear hst
    go_wp2
    go_ret2
    exact ⟨ret_ii (by rw [HST.out, HV.out]) (by rw [HST.out]), rfl⟩
  ·
   obtain rfl : k = m := by omega
   go_wp2
   go_ret2
   exact ⟨ret_ii (by rw [HA.out, HV.out]) (by rw [HA.out]), rfl⟩
end Go.Proofs.Ytonknapfndaalaa
