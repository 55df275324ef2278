/- A set that comes in: four words. -/
import Derived.Test.YtinkgidncdjapaaRows
import Derived.Test.YtinkgidncdjapaaSet
import Derived.ProofKit
import Derived.OpenShut
namespace Go.Proofs.Ytinkgidncdjapaa
set_option linter.unusedVariables false
open Go.ChangeShapes Go.WideShapes Go.ChangeAt Go.RowKit

theorem open_word {H : Type} {enc : TypeId × Value → H} {W : World} {c : Value} {m : Nat} {sp : Nat → Bool} {held : Bool} {y : DataW H × List MemPlace}
    (h : DataW.trod enc Try.prog W 0 sp held m 22 [c] = some y) : ∃ a : Nat, c = .int .u64 (a : Int) ∧ a < P64 := by
  obtain ⟨a, e0, _, wa⟩ := DataW.trod_int Try.underlying22 h
  have hb := bounds_u64 wa
  simp at e0
  refine ⟨a.toNat, by rw [e0]; congr 1; omega, ?_⟩
  unfold P64; omega

theorem open_set {H : Type} {enc : TypeId × Value → H} {W : World} {base : Nat} {sp : Nat → Bool} {held : Bool} {v : Value} {d : DataW H} {p : List MemPlace}
    (hval : Value.okWide Try.prog W .any base 24 v) (h : DataW.Trod enc Try.prog W 0 sp held 24 v d p) :
    ∃ a b c e : Nat, v = .agg #[.int .u64 (a : Int), .int .u64 (b : Int), .int .u64 (c : Int), .int .u64 (e : Int)] ∧ a < P64 ∧ b < P64 ∧ c < P64 ∧ e < P64 := by
  unfold Value.okWide at hval
  rw [Try.underlying24] at hval
  obtain ⟨cs, rfl, hsz, _⟩ := hval
  rw [show Try.prog.cellsOf 24 = 4 from by kernel_rfl] at hsz
  obtain ⟨fuel, hf⟩ := h
  obtain ⟨xs, m, _, _, _, hl, hg⟩ := DataW.trod_array Try.underlying24 hf
  rw [show Try.prog.cellsOf 22 = 1 from by kernel_rfl] at hg
  obtain ⟨l⟩ := cs
  match l, hsz, xs, hl with
  | [c0, c1, c2, c3], _, [x0, x1, x2, x3], _ =>
    have g0 := hg 0 (by decide)
    have g1 := hg 1 (by decide)
    have g2 := hg 2 (by decide)
    have g3 := hg 3 (by decide)
    simp [Value.cells] at g0 g1 g2 g3
    obtain ⟨a, rfl, ha⟩ := open_word g0
    obtain ⟨b, rfl, hb⟩ := open_word g1
    obtain ⟨c, rfl, hc⟩ := open_word g2
    obtain ⟨e, rfl, he⟩ := open_word g3
    exact ⟨a, b, c, e, rfl, ha, hb, hc, he⟩
theorem open_byte {H : Type} {enc : TypeId × Value → H} {W : World} {base : Nat} {sp : Nat → Bool} {held : Bool} {v : Value} {d : DataW H} {p : List MemPlace}
    (hval : Value.okWide Try.prog W .any base 5 v) (h : DataW.Trod enc Try.prog W 0 sp held 5 v d p) : ∃ x : Nat, v = .int .u8 (x : Int) ∧ x < 256 := by
  obtain ⟨x, rfl, _, _, wx⟩ := open_int Try.underlying5 hval h
  have hb := bounds_u8 wx
  exact ⟨x.toNat, by congr 1; omega, by omega⟩
end Go.Proofs.Ytinkgidncdjapaa
