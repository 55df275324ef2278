/- What is written is read: one byte. Math alone. -/
import Derived.Test.YtialpofiagiclaaDoorQuoteO
namespace Go.Proofs.YtialpofiagiclaaDoor
set_option linter.unusedVariables false
set_option maxRecDepth 1000000
open Go.RowKit

/-- The bytes l stand in U from k on. -/
def At (U : ByteArray) (k : Nat) (l : List UInt8) : Prop := ∃ pre post, U.data.toList = pre ++ (l ++ post) ∧ pre.length = k
theorem At.app {U : ByteArray} {k : Nat} {l r : List UInt8} (h : At U k (l ++ r)) : At U k l ∧ At U (k + l.length) r := by
  obtain ⟨pre, post, h, hk⟩ := h
  refine ⟨⟨pre, r ++ post, by rw [h, List.append_assoc], hk⟩, ⟨pre ++ l, post, by rw [h]; simp, by rw [List.length_append, hk]⟩⟩
theorem At.cons {U : ByteArray} {k : Nat} {x : UInt8} {l : List UInt8} (h : At U k (x :: l)) : k < U.size ∧ byt U k = (x.toNat : Int) ∧ At U (k + 1) l := by
  obtain ⟨pre, post, h, hk⟩ := h
  refine ⟨?_, ?_, ⟨pre ++ [x], post, by rw [h]; simp, by rw [List.length_append, hk]; rfl⟩⟩
  · have h2 : U.data.toList.length = U.size := by simp
    rw [← h2, h, List.length_append, List.length_append, List.length_cons]; omega
  · unfold byt
    rw [h, List.getD_eq_getElem?_getD, List.getElem?_append_right (by omega)]
    simp [hk]
theorem At.le {U : ByteArray} {k : Nat} {l : List UInt8} (h : At U k l) : k + l.length ≤ U.size := by
  obtain ⟨pre, post, h, hk⟩ := h
  have h2 : U.data.toList.length = U.size := by simp
  rw [← h2, h, List.length_append, List.length_append]; omega
def nb (c : Int) : UInt8 := UInt8.ofNat c.toNat
theorem nb_of {c : Int} (h0 : 0 ≤ c) (h1 : c ≤ 255) : ((nb c).toNat : Int) = c := by
  unfold nb; rw [UInt8.toNat_ofNat']; omega
theorem nums1 (c : Int) : (strOfNums [c]).data.toList = [nb c] := rfl
theorem dgv_bd {d : Int} (h0 : 0 ≤ d) (h1 : d ≤ 15) : 48 ≤ dgv d ∧ dgv d ≤ 102 ∧ hexV (dgv d) = d := by
  unfold dgv hexV
  by_cases h : d < 10
  · rw [if_pos h, if_pos (by omega)]; omega
  · rw [if_neg h, if_neg (by omega), if_pos (by omega)]; omega
/-- Which bytes have a word of their own in a text or a class. -/
def Fair (sp : ByteArray) : Prop := isSp sp 110 = false ∧ isSp sp 116 = false ∧ isSp sp 120 = false ∧ isSp sp 92 = false
theorem fair_T : Fair spT := ⟨by decide +kernel, by decide +kernel, by decide +kernel, by decide +kernel⟩
theorem fair_C : Fair spC := ⟨by decide +kernel, by decide +kernel, by decide +kernel, by decide +kernel⟩
/-- How a byte is written, as a list: five ways. -/
theorem wr_ways (sp : ByteArray) {c : Int} (h0 : 0 ≤ c) (h1 : c ≤ 255) :
    (plainB sp c = true ∧ (wrS sp c).data.toList = [nb c]) ∨ (plainB sp c = false ∧ c = 10 ∧ (wrS sp c).data.toList = [92, 110]) ∨ (plainB sp c = false ∧ c = 9 ∧ (wrS sp c).data.toList = [92, 116]) ∨
    (plainB sp c = false ∧ (c == 92 || isSp sp c) = true ∧ (wrS sp c).data.toList = [92, nb c]) ∨ (plainB sp c = false ∧ (wrS sp c).data.toList = [92, 120, nb (dgv (c / 16)), nb (dgv (c % 16))]) := by
  unfold wrS
  cases hp : plainB sp c
  · rw [if_neg (by decide)]
    by_cases h2 : c = 10
    · rw [if_pos h2]; exact .inr (.inl ⟨rfl, h2, rfl⟩)
    · rw [if_neg h2]
      by_cases h3 : c = 9
      · rw [if_pos h3]; exact .inr (.inr (.inl ⟨rfl, h3, rfl⟩))
      · rw [if_neg h3]
        cases h4 : (c == 92 || isSp sp c)
        · rw [if_neg (by decide)]; exact .inr (.inr (.inr (.inr ⟨rfl, rfl⟩)))
        · rw [if_pos rfl]; exact .inr (.inr (.inr (.inl ⟨rfl, rfl, rfl⟩)))
  · rw [if_pos rfl]; exact .inl ⟨rfl, rfl⟩
theorem plain_nsp {sp : ByteArray} {c : Int} (h : plainB sp c = true) : isSp sp c = false ∧ 32 ≤ c ∧ c ≤ 126 ∧ c ≠ 92 := by
  unfold plainB at h
  simp at h
  exact ⟨h.2, h.1.1.1, h.1.1.2, h.1.2⟩
/-- With which byte it begins. -/
theorem wr_first (sp : ByteArray) (hf : Fair sp) {c : Int} (h0 : 0 ≤ c) (h1 : c ≤ 255) : ∃ x l, (wrS sp c).data.toList = x :: l ∧ isSp sp (x.toNat : Int) = false := by
  rcases wr_ways sp h0 h1 with ⟨hp, h⟩ | ⟨-, -, h⟩ | ⟨-, -, h⟩ | ⟨-, -, h⟩ | ⟨-, h⟩
  · refine ⟨_, _, h, ?_⟩
    rw [nb_of h0 h1]; exact (plain_nsp hp).1
  all_goals exact ⟨_, _, h, hf.2.2.2⟩
theorem wr_read {U : ByteArray} {sp : ByteArray} (hf : Fair sp) {k : Nat} {c : Int} (h0 : 0 ≤ c) (h1 : c ≤ 255) (hA : At U k (wrS sp c).data.toList) :
    readO U k sp = some (strOfNums [c], k + (wrS sp c).data.toList.length) := by
  obtain ⟨f1, f2, f3, f4⟩ := hf
  rcases wr_ways sp h0 h1 with ⟨hp, h⟩ | ⟨hp, hc, h⟩ | ⟨hp, hc, h⟩ | ⟨hp, hc, h⟩ | ⟨hp, h⟩
  · rw [h] at hA ⊢
    obtain ⟨a1, a2, -⟩ := hA.cons
    rw [nb_of h0 h1] at a2
    rw [readO_at a1 a2, if_pos hp]; rfl
  · subst hc
    rw [h] at hA ⊢
    obtain ⟨a1, a2, hA⟩ := hA.cons
    obtain ⟨b1, b2, -⟩ := hA.cons
    have b2 : byt U (k + 1) = 110 := b2
    have a2 : byt U k = 92 := a2
    rw [readO_at a1 a2, plain_92 sp, if_neg (by decide), if_pos rfl, escO_at b1 b2, if_pos rfl]; rfl
  · subst hc
    rw [h] at hA ⊢
    obtain ⟨a1, a2, hA⟩ := hA.cons
    obtain ⟨b1, b2, -⟩ := hA.cons
    have b2 : byt U (k + 1) = 116 := b2
    have a2 : byt U k = 92 := a2
    rw [readO_at a1 a2, plain_92 sp, if_neg (by decide), if_pos rfl, escO_at b1 b2, if_neg (by decide), if_pos rfl]; rfl
  · rw [h] at hA ⊢
    obtain ⟨a1, a2, hA⟩ := hA.cons
    obtain ⟨b1, b2, -⟩ := hA.cons
    have a2 : byt U k = 92 := a2
    rw [nb_of h0 h1] at b2
    have n1 : c ≠ 110 := by rintro rfl; rw [f1] at hc; cases hc
    have n2 : c ≠ 116 := by rintro rfl; rw [f2] at hc; cases hc
    rw [readO_at a1 a2, plain_92 sp, if_neg (by decide), if_pos rfl, escO_at b1 b2, if_neg n1, if_neg n2, if_pos hc]; rfl
  · rw [h] at hA ⊢
    obtain ⟨a1, a2, hA⟩ := hA.cons
    obtain ⟨b1, b2, hA⟩ := hA.cons
    have a2 : byt U k = 92 := a2
    have b2 : byt U (k + 1) = 120 := b2
    obtain ⟨c1, c2, hA⟩ := hA.cons
    obtain ⟨d1, d2, -⟩ := hA.cons
    obtain ⟨p1, p2, p3⟩ := dgv_bd (d := c / 16) (by omega) (by omega)
    obtain ⟨q1, q2, q3⟩ := dgv_bd (d := c % 16) (by omega) (by omega)
    rw [nb_of (by omega) (by omega)] at c2 d2
    have e1 : hexN U (k + 1 + 1) 1 = 1 := by
      show (if hexN U (k + 1 + 1) 0 = 0 ∧ k + 1 + 1 + 0 < U.size ∧ 0 ≤ hexV (byt U (k + 1 + 1 + 0)) then 0 + 1 else hexN U (k + 1 + 1) 0) = 1
      rw [if_pos ⟨rfl, c1, by rw [Nat.add_zero, c2, p3]; omega⟩]
    have e2 : hexN U (k + 1 + 1) 2 = 2 := by
      show (if hexN U (k + 1 + 1) 1 = 1 ∧ k + 1 + 1 + 1 < U.size ∧ 0 ≤ hexV (byt U (k + 1 + 1 + 1)) then 1 + 1 else hexN U (k + 1 + 1) 1) = 2
      rw [if_pos ⟨e1, d1, by rw [d2, q3]; omega⟩]
    have e3 : valN U (k + 1 + 1) 2 = c := by
      show (0 * 16 + hexV (byt U (k + 1 + 1 + 0))) * 16 + hexV (byt U (k + 1 + 1 + 1)) = c
      rw [Nat.add_zero, c2, d2, p3, q3]; omega
    rw [readO_at a1 a2, plain_92 sp, if_neg (by decide), if_pos rfl, escO_at b1 b2, if_neg (by decide), if_neg (by decide),
      if_neg (by rw [f3]; decide), if_pos rfl, if_pos e2, e3]; rfl
/-- What is written is of bytes from 32 to 126. -/
theorem wr_bytes {sp : ByteArray} (hs : ∀ c : Int, 0 ≤ c → c ≤ 255 → isSp sp c = true → 32 ≤ c ∧ c ≤ 126) {c : Int} (h0 : 0 ≤ c) (h1 : c ≤ 255) : ∀ x ∈ (wrS sp c).data.toList, 32 ≤ x.toNat ∧ x.toNat ≤ 126 := by
  intro x hx
  have key : ∀ d : Int, 32 ≤ d → d ≤ 126 → 32 ≤ (nb d).toNat ∧ (nb d).toNat ≤ 126 := fun d g0 g1 => by
    have := nb_of (c := d) (by omega) (by omega); omega
  rcases wr_ways sp h0 h1 with ⟨hp, h⟩ | ⟨hp, hc, h⟩ | ⟨hp, hc, h⟩ | ⟨hp, hc, h⟩ | ⟨hp, h⟩ <;> rw [h] at hx <;> simp only [List.mem_cons, List.not_mem_nil, or_false] at hx
  · subst hx; have := plain_nsp hp; exact key c this.2.1 this.2.2.1
  · rcases hx with rfl | rfl <;> decide
  · rcases hx with rfl | rfl <;> decide
  · rcases hx with rfl | rfl
    · decide
    · rw [Bool.or_eq_true] at hc
      rcases hc with e | e
      · rw [beq_iff_eq] at e; subst e; decide
      · have := hs c h0 h1 e; exact key c this.1 this.2
  · obtain ⟨p1, p2, p3⟩ := dgv_bd (d := c / 16) (by omega) (by omega)
    obtain ⟨q1, q2, q3⟩ := dgv_bd (d := c % 16) (by omega) (by omega)
    rcases hx with rfl | rfl | rfl | rfl
    · decide
    · decide
    · exact key _ (by omega) (by omega)
    · exact key _ (by omega) (by omega)
end Go.Proofs.YtialpofiagiclaaDoor
