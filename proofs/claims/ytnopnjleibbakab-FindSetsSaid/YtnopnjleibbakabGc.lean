/- Bytes as they are written: the walks of stands, plain, hex, of the program's and the reference's. Digits of base sixteen: the walks of the reference's plain and hex, of the program's number. A byte as it is written: the walks of written and letter. A byte as it is written: the walk of the reference's letter. A text in quotation marks: the walks of Text, of the program's and the reference's. A class as it is written: what it says. -/
import Derived.Test.YtnopnjleibbakabShelf
import Derived.Test.YtnopnjleibbakabChecked
import Derived.Test.YtnopnjleibbakabByt
import Derived.Test.YtnopnjleibbakabQuiet
import Derived.WalkLawsBesides
import Derived.Handy
import Derived.KernelRfl
import Derived.BigQuiet
import Derived.Lib.IndexLaws
import Derived.Test.YtnopnjleibbakabGb
import Derived.StillTailTactics
import Derived.Test.YtnopnjleibbakabBuild
import Derived.Test.YtnopnjleibbakabGa
namespace Go.Proofs.Ytnopnjleibbakab
set_option linter.unusedVariables false
open Go.RowKit

def spT : ByteArray := ⟨#[34]⟩
def spC : ByteArray := ⟨#[91, 93, 94, 45]⟩
/-- Is c one of sp? -/
def isSp (sp : ByteArray) (c : Int) : Bool := decide (0 ≤ Lib.indexByte sp.data.toList c.toNat.toUInt8)
def plainB (sp : ByteArray) (c : Int) : Bool := decide (32 ≤ c) && decide (c ≤ 126) && (c != 92) && !(isSp sp c)
theorem byte_cases {P : Int → Prop} (h : ∀ x : Fin 256, P (x.val : Int)) {c : Int} (h0 : 0 ≤ c) (h1 : c ≤ 255) : P c := by
  have := h ⟨c.toNat, by omega⟩
  simpa [Int.toNat_of_nonneg h0] using this
theorem isSp_T {c : Int} (h0 : 0 ≤ c) (h1 : c ≤ 255) : isSp spT c = (c == 34) :=
  byte_cases (P := fun c => isSp spT c = (c == 34)) (by decide +kernel) h0 h1
theorem isSp_C {c : Int} (h0 : 0 ≤ c) (h1 : c ≤ 255) : isSp spC c = (c == 91 || c == 93 || c == 94 || c == 45) :=
  byte_cases (P := fun c => isSp spC c = (c == 91 || c == 93 || c == 94 || c == 45)) (by decide +kernel) h0 h1
/-- Does the byte c stand at that place? -/
def standB (s : ByteArray) (i c : Int) : Bool := decide (0 ≤ i) && decide (i < (s.size : Int)) && byt s i.toNat == c

end Go.Proofs.Ytnopnjleibbakab

namespace Go.Proofs.Ytnopnjleibbakab
set_option linter.unusedVariables false
open Go.RowKit

theorem u8_of {c : Int} (h0 : 0 ≤ c) (h1 : c ≤ 255) : (c.toNat.toUInt8.toNat : Int) = c := by
  have : c.toNat.toUInt8.toNat = c.toNat := by
    show (UInt8.ofNat c.toNat).toNat = _
    rw [UInt8.toNat_ofNat']; omega
  rw [this]; omega
theorem isSp_iff {sp : ByteArray} {c : Int} (h0 : 0 ≤ c) (h1 : c ≤ 255) : isSp sp c = true ↔ ∃ k, k < sp.size ∧ byt sp k = c := by
  unfold isSp
  rw [decide_eq_true_iff]
  constructor
  · intro h
    obtain ⟨o, ho⟩ : ∃ o : Nat, Lib.indexByte sp.data.toList c.toNat.toUInt8 = (o : Int) := ⟨(Lib.indexByte sp.data.toList c.toNat.toUInt8).toNat, by omega⟩
    have hs := (Lib.indexByte_some ho).1
    have hlt := (List.getElem?_eq_some_iff.1 hs).1
    refine ⟨o, by simpa using hlt, ?_⟩
    unfold byt
    rw [List.getD_eq_getElem?_getD, hs]
    exact u8_of h0 h1
  · rintro ⟨k, hk, hb⟩
    have hge := Lib.indexByte_ge sp.data.toList c.toNat.toUInt8
    by_cases e : Lib.indexByte sp.data.toList c.toNat.toUInt8 = -1
    · exfalso
      have hk' : k < sp.data.toList.length := by simpa using hk
      refine Lib.indexByte_none e k ?_
      rw [List.getElem?_eq_getElem hk']
      congr 1
      apply UInt8.toNat.inj
      have h2 : (sp.data.toList[k].toNat : Int) = c := by rw [← hb]; unfold byt; rw [List.getD_eq_getElem?_getD, List.getElem?_eq_getElem hk']; rfl
      have h3 := u8_of h0 h1
      omega
    · omega
set_option maxHeartbeats 1600000 in
theorem rplain_any (sp : ByteArray) (hs : sp.size ≤ 1000000) (c : Int) (hc0 : 0 ≤ c) (hc1 : c ≤ 255) (w : World) : Calls Try.prog 65 #[.int .u8 c, .string sp] w fun e w' => e = .returned (.bool (plainB sp c)) ∧ w' = w := by
  have HS := Lib.hid (show plainB sp c = (decide (32 ≤ c) && decide (c ≤ 126) && (c != 92) && !(isSp sp c)) from rfl)
  have HI := Lib.hid (isSp_iff (sp := sp) hc0 hc1)
  go_enter Try.func65, Try.ntmps65
  go_wp2
  go_loop [5] (fun i => ∃ k : Nat, k ≤ sp.size ∧ i = .int .i64 k ∧ Hid (∀ j, j < k → byt sp j ≠ c)) (fun i => sp.size - (intOf i).toNat)
  case atStart => exact ⟨0, Nat.zero_le _, rfl, Lib.hid (fun j h => by omega)⟩
  case round =>
    obtain ⟨k, hk, rfl, HA⟩ := hrel
    by_cases hlt : k < sp.size
    · obtain ⟨x, hx⟩ : ∃ x : Int, (sp[k].toNat : Int) = x := ⟨_, rfl⟩
      have HX := Lib.hid (show byt sp k = x by rw [byt_get hlt, hx])
      obtain ⟨b, hb⟩ : ∃ b, (x == c) = b := ⟨_, rfl⟩
      cases b
      · have HA1 : Hid (∀ j, j < k + 1 → byt sp j ≠ c) := Lib.hid (fun j hj => by
          by_cases e : j = k
          · subst e; rw [HX.out]; exact beq_eq_false_iff_ne.1 hb
          · exact HA.out j (by omega))
        go_wp2
        go_round
        case rel => exact ⟨k + 1, by omega, by go_num, HA1⟩
        case measure => simp [intOf]; omega
      · have HE := Lib.hid (show isSp sp c = true from HI.out.2 ⟨k, hlt, by rw [HX.out]; exact beq_iff_eq.1 hb⟩)
        go_wp2
        go_ret
        exact ⟨ret_bool (by rw [HS.out, HE.out]; simp), rfl⟩
    · have HE := Lib.hid (show isSp sp c = false by
        rw [Bool.eq_false_iff]; intro h
        obtain ⟨j, hj, hb⟩ := HI.out.1 h
        exact HA.out j (by omega) hb)
      obtain ⟨b, hb⟩ : ∃ b, (c != 92) = b := ⟨_, rfl⟩
      have HB := Lib.hid hb
      by_cases g0 : 32 ≤ c <;> by_cases g1 : c ≤ 126 <;> cases b
      all_goals try (exfalso; omega)
      all_goals
        go_wp2
        go_ret
        exact ⟨ret_bool (by rw [HS.out, HE.out, HB.out]; simp <;> omega), rfl⟩
theorem ret_ii {a b a' b' : Int} (h1 : a = a') (h2 : b = b') : Ending.returned (.tuple #[.int .i64 a, .int .i64 b]) = .returned (.tuple #[.int .i64 a', .int .i64 b']) := by rw [h1, h2]
/-- A digit's number; -1: it is none. -/
def hexV (c : Int) : Int := if 48 ≤ c ∧ c ≤ 57 then c - 48 else if 97 ≤ c ∧ c ≤ 102 then c - 87 else -1
theorem hexV_bd (c : Int) : -1 ≤ hexV c ∧ hexV c ≤ 15 := by
  unfold hexV
  by_cases h1 : 48 ≤ c ∧ c ≤ 57
  · rw [if_pos h1]; omega
  · rw [if_neg h1]
    by_cases h2 : 97 ≤ c ∧ c ≤ 102
    · rw [if_pos h2]; omega
    · rw [if_neg h2]; omega
theorem hexV_index {c : Int} (h0 : 0 ≤ c) (h1 : c ≤ 255) : Lib.indexByte [48, 49, 50, 51, 52, 53, 54, 55, 56, 57, 97, 98, 99, 100, 101, 102] c.toNat.toUInt8 = hexV c :=
  byte_cases (P := fun c => Lib.indexByte [48, 49, 50, 51, 52, 53, 54, 55, 56, 57, 97, 98, 99, 100, 101, 102] c.toNat.toUInt8 = hexV c) (by decide +kernel) h0 h1
set_option maxHeartbeats 800000 in
theorem hex_any (c : Int) (hc0 : 0 ≤ c) (hc1 : c ≤ 255) (w : World) : Calls Try.prog 68 #[.int .u8 c] w fun e w' => e = .returned (.int .i64 (hexV c)) ∧ w' = w := by
  have HS := Lib.hid (show hexV c = if 48 ≤ c ∧ c ≤ 57 then c - 48 else if 97 ≤ c ∧ c ≤ 102 then c - 87 else -1 from rfl)
  by_cases g0 : 48 ≤ c <;> by_cases g1 : c ≤ 57 <;> by_cases g2 : 97 ≤ c <;> by_cases g3 : c ≤ 102
  all_goals first
    | (exfalso; omega)
    | (go_enter Try.func68, Try.ntmps68
       go_wp2
       go_ret
       exact ⟨ret_int (by rw [HS.out]; first | (rw [if_pos (by omega)]; done) | (rw [if_neg (by omega), if_pos (by omega)]; omega) | (rw [if_neg (by omega), if_neg (by omega)])), rfl⟩)
/-- How many digits stand from a on, m at most. -/
def hexN (s : ByteArray) (a : Nat) : Nat → Nat
  | 0 => 0
  | m + 1 => if hexN s a m = m ∧ a + m < s.size ∧ 0 ≤ hexV (byt s (a + m)) then m + 1 else hexN s a m
/-- The number that the first k bytes from a on are. -/
def valN (s : ByteArray) (a : Nat) : Nat → Int
  | 0 => 0
  | k + 1 => valN s a k * 16 + hexV (byt s (a + k))
theorem hexN_le (s : ByteArray) (a : Nat) : ∀ m, hexN s a m ≤ m
  | 0 => Nat.le_refl _
  | m + 1 => by unfold hexN; split; exact Nat.le_refl _; have := hexN_le s a m; omega
theorem hexN_stop {s : ByteArray} {a k : Nat} (hk : hexN s a k = k) (h : ¬ (a + k < s.size ∧ 0 ≤ hexV (byt s (a + k)))) : ∀ d, hexN s a (k + d) = k
  | 0 => hk
  | d + 1 => by
    show (if hexN s a (k + d) = k + d ∧ a + (k + d) < s.size ∧ 0 ≤ hexV (byt s (a + (k + d))) then k + d + 1 else hexN s a (k + d)) = k
    rw [if_neg]
    · exact hexN_stop hk h d
    · rintro ⟨h1, h2, h3⟩
      rw [hexN_stop hk h d] at h1
      obtain rfl : d = 0 := by omega
      exact h ⟨h2, h3⟩
theorem hexN_go {s : ByteArray} {a k : Nat} (hk : hexN s a k = k) (h1 : a + k < s.size) (h2 : 0 ≤ hexV (byt s (a + k))) : hexN s a (k + 1) = k + 1 := by
  show (if hexN s a k = k ∧ a + k < s.size ∧ 0 ≤ hexV (byt s (a + k)) then k + 1 else hexN s a k) = k + 1
  rw [if_pos ⟨hk, h1, h2⟩]
theorem hexN_pre {s : ByteArray} {a k : Nat} (h : hexN s a (k + 1) = k + 1) : hexN s a k = k ∧ a + k < s.size ∧ 0 ≤ hexV (byt s (a + k)) := by
  by_cases e : hexN s a k = k ∧ a + k < s.size ∧ 0 ≤ hexV (byt s (a + k))
  · exact e
  · have : hexN s a (k + 1) = hexN s a k := by
      show (if hexN s a k = k ∧ a + k < s.size ∧ 0 ≤ hexV (byt s (a + k)) then k + 1 else hexN s a k) = _
      rw [if_neg e]
    have h2 := hexN_le s a k
    omega
theorem valN_bd {s : ByteArray} {a : Nat} : ∀ {k : Nat}, hexN s a k = k → k ≤ 6 → 0 ≤ valN s a k ∧ valN s a k < 16777216 ∧ (k ≤ 5 → valN s a k < 1048576) ∧ (k ≤ 4 → valN s a k < 65536) ∧ (k ≤ 3 → valN s a k < 4096) ∧ (k ≤ 2 → valN s a k < 256) ∧ (k ≤ 1 → valN s a k < 16) ∧ (k = 0 → valN s a k = 0)
  | 0, _, _ => by unfold valN; omega
  | k + 1, h, hk => by
    have h1 := valN_bd (hexN_pre h).1 (by omega)
    have h2 := (hexN_pre h).2.2
    have h3 := hexV_bd (byt s (a + k))
    show 0 ≤ valN s a k * 16 + hexV (byt s (a + k)) ∧ _
    have e : valN s a (k + 1) = valN s a k * 16 + hexV (byt s (a + k)) := rfl
    rw [e]
    refine ⟨by omega, ?_, ?_, ?_, ?_, ?_, ?_, ?_⟩
    · have := h1.2.2.1 (by omega); omega
    · intro h5; have := h1.2.2.2.1 (by omega); omega
    · intro h5; have := h1.2.2.2.2.1 (by omega); omega
    · intro h5; have := h1.2.2.2.2.2.1 (by omega); omega
    · intro h5; have := h1.2.2.2.2.2.2.1 (by omega); omega
    · intro h5; have := h1.2.2.2.2.2.2.2 (by omega); omega
    · omega

end Go.Proofs.Ytnopnjleibbakab

namespace Go.Proofs.Ytnopnjleibbakab
set_option linter.unusedVariables false
open Go.RowKit

def dgv (d : Int) : Int := if d < 10 then 48 + d else 87 + d
/-- A byte as it is written. -/
def wrS (sp : ByteArray) (c : Int) : ByteArray :=
  if plainB sp c = true then strOfNums [c] else if c = 10 then ⟨#[92, 110]⟩ else if c = 9 then ⟨#[92, 116]⟩
  else if (c == 92 || isSp sp c) = true then strOfNums [92, c] else strOfNums [92, 120, dgv (c / 16), dgv (c % 16)]
theorem dg_at (d : Int) (h0 : 0 ≤ d) (h1 : d < 16) (hp : d.toNat < (⟨#[48, 49, 50, 51, 52, 53, 54, 55, 56, 57, 97, 98, 99, 100, 101, 102]⟩ : ByteArray).size) :
    (((⟨#[48, 49, 50, 51, 52, 53, 54, 55, 56, 57, 97, 98, 99, 100, 101, 102]⟩ : ByteArray)[d.toNat]'hp).toNat : Int) = dgv d := by
  have key : ∀ x : Fin 16, ∀ hx : x.val < (⟨#[48, 49, 50, 51, 52, 53, 54, 55, 56, 57, 97, 98, 99, 100, 101, 102]⟩ : ByteArray).size, (((⟨#[48, 49, 50, 51, 52, 53, 54, 55, 56, 57, 97, 98, 99, 100, 101, 102]⟩ : ByteArray)[x.val]'hx).toNat : Int) = dgv (x.val : Int) := by decide +kernel
  have h := key ⟨d.toNat, by omega⟩ hp
  rw [show ((d.toNat : Nat) : Int) = d by omega] at h
  exact h
theorem ret_str {a b : ByteArray} (h : a = b) : Ending.returned (.string a) = .returned (.string b) := by rw [h]

end Go.Proofs.Ytnopnjleibbakab

namespace Go.Proofs.Ytnopnjleibbakab
set_option linter.unusedVariables false
open Go.RowKit

def dgs : ByteArray := ⟨#[48, 49, 50, 51, 52, 53, 54, 55, 56, 57, 97, 98, 99, 100, 101, 102]⟩
theorem bytes_eq {s t : ByteArray} (h : s.data.toList = t.data.toList) : s = t := by
  apply ByteArray.ext
  apply Array.ext'
  exact h
theorem esc_join (c : Int) : (⟨#[92]⟩ : ByteArray) ++ strOfNums [c] = strOfNums [92, c] := by
  apply bytes_eq
  simp [strOfNums, ByteArray.data_append]
theorem hex_join {c : Int} (h0 : 0 ≤ c) (h1 : c ≤ 255) : (⟨#[92, 120]⟩ : ByteArray) ++ dgs.extract (c / 16).toNat (c / 16 + 1).toNat ++ dgs.extract (c % 16).toNat (c % 16 + 1).toNat = strOfNums [92, 120, dgv (c / 16), dgv (c % 16)] := by
  apply bytes_eq
  exact byte_cases (P := fun c => ((⟨#[92, 120]⟩ : ByteArray) ++ dgs.extract (c / 16).toNat (c / 16 + 1).toNat ++ dgs.extract (c % 16).toNat (c % 16 + 1).toNat).data.toList = (strOfNums [92, 120, dgv (c / 16), dgv (c % 16)]).data.toList) (by decide +kernel) h0 h1

end Go.Proofs.Ytnopnjleibbakab

namespace Go.Proofs.Ytnopnjleibbakab
set_option linter.unusedVariables false
open Go.RowKit

theorem own_below {w w' : World} {B n : Nat} {e : TypeId} {v : Value} {xs : List Value} (h : w.ownsRow B e 1 v n xs) (hb : Below w.heap.size w w') : w'.ownsRow B e 1 v n xs := by
  refine ⟨h.1, ?_⟩
  rcases h.2 with h0 | ⟨g, cap, cur, e1, hg, hh, r⟩
  · exact .inl h0
  · exact .inr ⟨g, cap, cur, e1, hg, (hb.block g (lt_of_block hh)).trans hh, r⟩
theorem ofL_app (l : List UInt8) (t : ByteArray) : ofL l ++ t = ofL (l ++ t.data.toList) := by
  apply bytes_eq
  rw [ByteArray.data_append]
  show (l.toArray ++ t.data).toList = (l ++ t.data.toList).toArray.toList
  simp
theorem ofL_size (l : List UInt8) : (ofL l).size = l.length := by show l.toArray.size = _; simp
theorem wrS_size (sp : ByteArray) (c : Int) : (wrS sp c).size ≤ 4 := by
  unfold wrS
  split
  · rw [strOfNums_size]; simp
  · split
    · decide
    · split
      · decide
      · split
        · rw [strOfNums_size]; simp
        · rw [strOfNums_size]; simp
/-- What is written of the first k bytes. -/
def wrT (s : ByteArray) : Nat → List UInt8
  | 0 => [34]
  | k + 1 => wrT s k ++ (wrS spT (byt s k)).data.toList
theorem wrT_len (s : ByteArray) : ∀ k, (wrT s k).length ≤ 4 * k + 1
  | 0 => Nat.le_refl _
  | k + 1 => by
    have h1 := wrT_len s k
    have h2 := wrS_size spT (byt s k)
    have h3 : (wrS spT (byt s k)).data.toList.length = (wrS spT (byt s k)).size := by simp
    unfold wrT; rw [List.length_append]; omega
def textS (s : ByteArray) : ByteArray := ofL (wrT s s.size ++ [34])
theorem spT_in {c : Int} (h0 : 0 ≤ c) (h1 : c ≤ 255) (h : isSp spT c = true) : 32 ≤ c ∧ c ≤ 126 := by
  rw [isSp_T h0 h1, beq_iff_eq] at h; omega

end Go.Proofs.Ytnopnjleibbakab

namespace Go.Proofs.Ytnopnjleibbakab
set_option linter.unusedVariables false
open Go.RowKit

/-- The row's end: as far as the next byte is in h. -/
def runTo (h : Nat → Bool) : Nat → Nat → Nat
  | 0, k => k
  | f + 1, k => if k < 255 ∧ h (k + 1) = true then runTo h f (k + 1) else k
theorem runTo_ge (h : Nat → Bool) : ∀ f k, k ≤ runTo h f k
  | 0, k => Nat.le_refl _
  | f + 1, k => by unfold runTo; split <;> (try have := runTo_ge h f (k + 1)) <;> omega
theorem runTo_le (h : Nat → Bool) : ∀ f k, k ≤ 255 → runTo h f k ≤ 255
  | 0, k => id
  | f + 1, k => fun hk => by
    unfold runTo; split
    · rename_i g; exact runTo_le h f (k + 1) (by omega)
    · exact hk
theorem runTo_step {h : Nat → Bool} {f k : Nat} (h1 : k < 255) (h2 : h (k + 1) = true) : runTo h (f + 1) k = runTo h f (k + 1) := by
  show (if k < 255 ∧ h (k + 1) = true then _ else _) = _; rw [if_pos ⟨h1, h2⟩]
theorem runTo_stop {h : Nat → Bool} {k : Nat} (f : Nat) (hk : ¬ (k < 255 ∧ h (k + 1) = true)) : runTo h f k = k := by
  cases f
  · rfl
  · show (if k < 255 ∧ h (k + 1) = true then _ else _) = _; rw [if_neg hk]
def rowS (lo hi : Nat) : List UInt8 := (wrS spC lo).data.toList ++ ((if lo + 1 < hi then [45] else []) ++ (if lo < hi then (wrS spC hi).data.toList else []))
theorem wr_len (sp : ByteArray) (c : Int) : (wrS sp c).data.toList.length ≤ 4 := by
  have h2 := wrS_size sp c
  have h3 : (wrS sp c).data.toList.length = (wrS sp c).size := by simp
  omega
theorem rowS_len (lo hi : Nat) : (rowS lo hi).length ≤ 9 := by
  have h1 := wr_len spC lo
  have h2 := wr_len spC hi
  unfold rowS
  rw [List.length_append, List.length_append]
  split <;> split <;> simp only [List.length_cons, List.length_nil] <;> omega
/-- The rows from a byte on. -/
def clsF (h : Nat → Bool) : Nat → Nat → List UInt8
  | 0, _ => []
  | f + 1, low => if low < 256 then (if h low = true then rowS low (runTo h 255 low) ++ clsF h f (runTo h 255 low + 1) else clsF h f (low + 1)) else []
theorem clsF_len (h : Nat → Bool) : ∀ f low, (clsF h f low).length ≤ 9 * f
  | 0, _ => Nat.le_refl _
  | f + 1, low => by
    unfold clsF
    split
    · split
      · have h1 := rowS_len low (runTo h 255 low)
        have h2 := clsF_len h f (runTo h 255 low + 1)
        rw [List.length_append]; omega
      · have h2 := clsF_len h f (low + 1); omega
    · simp
theorem clsF_in {h : Nat → Bool} {f low : Nat} (h1 : low < 256) (h2 : h low = true) : clsF h (f + 1) low = rowS low (runTo h 255 low) ++ clsF h f (runTo h 255 low + 1) := by
  show (if low < 256 then (if h low = true then _ else _) else _) = _; rw [if_pos h1, if_pos h2]
theorem clsF_out {h : Nat → Bool} {f low : Nat} (h1 : low < 256) (h2 : h low = false) : clsF h (f + 1) low = clsF h f (low + 1) := by
  show (if low < 256 then (if h low = true then _ else _) else _) = _; rw [if_pos h1, if_neg (by rw [h2]; decide)]
theorem clsF_end (h : Nat → Bool) (f : Nat) {low : Nat} (h1 : ¬ low < 256) : clsF h f low = [] := by
  cases f
  · rfl
  · show (if low < 256 then (if h low = true then _ else _) else _) = _; rw [if_neg h1]
def clsL (h : Nat → Bool) : List UInt8 := [91] ++ clsF h 257 0
theorem clsL_len (h : Nat → Bool) : (clsL h).length ≤ 2400 := by
  have := clsF_len h 257 0
  unfold clsL; rw [List.length_append]; simp only [List.length_cons, List.length_nil]; omega
def classS (h : Nat → Bool) : ByteArray := ofL (clsL h ++ [93])
theorem spC_in {c : Int} (h0 : 0 ≤ c) (h1 : c ≤ 255) (h : isSp spC c = true) : 32 ≤ c ∧ c ≤ 126 := by
  rw [isSp_C h0 h1] at h; simp at h; omega
/-- One row more. -/
theorem cls_step {h : Nat → Bool} {acc tot : List UInt8} {f low : Nat} (ht : acc ++ clsF h f low = tot) (hf : 256 < f + low) (h1 : low < 256) (h2 : h low = true) :
    (acc ++ rowS low (runTo h 255 low)) ++ clsF h (f - 1) (runTo h 255 low + 1) = tot := by
  obtain ⟨g, rfl⟩ : ∃ g, f = g + 1 := ⟨f - 1, by omega⟩
  rw [clsF_in h1 h2, ← List.append_assoc] at ht
  exact ht
theorem cls_skip {h : Nat → Bool} {acc tot : List UInt8} {f low : Nat} (ht : acc ++ clsF h f low = tot) (hf : 256 < f + low) (h1 : low < 256) (h2 : h low = false) :
    acc ++ clsF h (f - 1) (low + 1) = tot := by
  obtain ⟨g, rfl⟩ : ∃ g, f = g + 1 := ⟨f - 1, by omega⟩
  rw [clsF_out h1 h2] at ht
  exact ht
theorem cls_stop {h : Nat → Bool} {acc tot : List UInt8} {f low : Nat} (ht : acc ++ clsF h f low = tot) (h1 : ¬ low < 256) : acc = tot := by
  rw [clsF_end h f h1, List.append_nil] at ht; exact ht
theorem row3 (acc : List UInt8) {lo hi : Nat} (h : lo + 1 < hi) : ofL acc ++ wrS spC lo ++ ⟨#[45]⟩ ++ wrS spC hi = ofL (acc ++ rowS lo hi) := by
  rw [ofL_app, ofL_app, ofL_app]; unfold rowS; rw [if_pos h, if_pos (by omega)]; simp [List.append_assoc]
theorem row2 (acc : List UInt8) {lo hi : Nat} (h : ¬ lo + 1 < hi) (h2 : lo < hi) : ofL acc ++ wrS spC lo ++ wrS spC hi = ofL (acc ++ rowS lo hi) := by
  rw [ofL_app, ofL_app]; unfold rowS; rw [if_neg h, if_pos h2]; simp [List.append_assoc]
theorem row1 (acc : List UInt8) {lo hi : Nat} (h2 : ¬ lo < hi) : ofL acc ++ wrS spC lo = ofL (acc ++ rowS lo hi) := by
  rw [ofL_app]; unfold rowS; rw [if_neg (by omega), if_neg h2]; simp
theorem acc_le {h : Nat → Bool} {acc tot : List UInt8} {f low : Nat} (ht : acc ++ clsF h f low = tot) (hl : tot.length ≤ 2400) : acc.length ≤ 2400 := by
  rw [← ht, List.length_append] at hl; omega
end Go.Proofs.Ytnopnjleibbakab
