/- A strings.Builder that the call itself has made: the walks of its writers. -/
import Derived.Test.YtnopnjleibbakacShelf
import Derived.Test.YtnopnjleibbakacChecked
import Derived.Test.YtnopnjleibbakacBut
import Derived.Lib.Builder
import Derived.Lib.AppendStr
import Derived.Lib.UnsafeStr
import Derived.Laws.Externs
import Derived.Handy
import Derived.KernelRfl
namespace Go.Proofs.Ytnopnjleibbakac
set_option linter.unusedVariables false
open Go.RowKit

theorem info_bld : (Try.prog.info? 39).map (·.size) = some 2 := by kernel_rfl
theorem info_byte : (Try.prog.info? 5).map (fun i => (i.zero, i.size, i.bytes)) = some (some (.int .u8 0), 1, 1) := by kernel_rfl
theorem lies_bld : liesAt Try.prog Try.prog.depth 39 (2 / Try.prog.cellsOf 39) 0 39 1 = true := by kernel_rfl
/-- The builder at block b, of the call's own from B on, holds the bytes l. -/
def Bld (B b : Nat) (l : List UInt8) (w : World) : Prop := Lib.IsBuilder 39 5 B b (Lib.byteCells l) w

theorem fresh_cells (w : World) (t : TypeId) (cs : List Value) : ∀ j u, cs[j]? = some u → (w.alloc (.cells cs.toArray t)).cell? ((⟨w.heap.size, 0, none⟩ : Addr).add j) = some u := fun j u h => by
  rw [Addr.add_lit, Nat.zero_add, (Own.fresh w t cs).cell j]; exact h
set_option maxHeartbeats 1000000 in
set_option maxRecDepth 100000 in
theorem bcopy_any (B b : Nat) (l : List UInt8) (w : World) (h : Bld B b l w) :
    Calls Try.prog 24 #[.pointer (some ⟨b, 0, none⟩)] w
      fun e w' => e = .returned (.tuple #[]) ∧ Lib.BuilderAt 39 5 B b (.pointer (some ⟨b, 0, none⟩)) (Lib.byteCells l) w' ∧ Below B w w' := by
  obtain ⟨j, hj, hjs⟩ := Option.map_eq_some_iff.1 info_bld
  rcases h with h | h
  · have h0 := h.cell0
    have hf := h.frozen0
    have hsh := h.shape
    have H := Lib.hid h
    clear h
    go_enter Try.func24, Try.ntmps24
    go_wp2
    rw [Lib.run_to_unsafe w ⟨b, 0, none⟩ Try.underlying36 Try.underlying57 hj (by rw [hjs]; decide) hsh (Nat.zero_lt_succ 1)]
    simp only [Result.andThen]
    rw [Oper.upon_value]
    go_wp2
    rw [run_callFunc_extern Try.func30 (by kernel_rfl) (by kernel_rfl) (by kernel_rfl) (e := Extern.AbiNoEscape.same) (by kernel_rfl)]
    rw [Lib.run_noEscape]
    simp only [Result.andThen]
    rw [Oper.upon_value]
    go_wp2
    rw [Lib.run_from_unsafe w ⟨b, 0, none⟩ Try.underlying57 Try.underlying36 hj hsh lies_bld]
    simp only [Result.andThen]
    rw [Oper.upon_value]
    go_wp2
    go_end0
    exact ⟨rfl, H.out.used _, (Below.refl B w).setCell (p := ⟨b, 0, none⟩) H.out.1 _⟩
  · have h0 := h.cell0
    have H := Lib.hid h
    clear h
    go_enter Try.func24, Try.ntmps24
    go_wp2
    rw [Lib.run_neq_ptr_same w _ Try.underlying36 hj]
    go_wp2
    go_end0
    exact ⟨rfl, H.out, Below.refl _ _⟩

theorem byteCells_snoc (l : List UInt8) (c : UInt8) : Lib.byteCells (l ++ [c]) = Lib.byteCells l ++ [.int .u8 (c.toNat : Int)] := by simp [Lib.byteCells]
theorem byteCells_append (l : List UInt8) (s : ByteArray) : Lib.byteCells (l ++ s.data.toList) = Lib.byteCells l ++ Lib.strCells s := by simp [Lib.byteCells, Lib.strCells]
theorem own_ge {w : World} {B n : Nat} {e : TypeId} {v : Value} {xs : List Value} (h : w.ownsRow B e 1 v n xs) : ∀ k, v.ownBlock = some k → B ≤ k := fun k hk => by
  rcases h.2 with ⟨rfl, _⟩ | ⟨g, cap, cur, rfl, hg, _⟩
  · simp [Value.ownBlock] at hk
  · simp [Value.ownBlock] at hk; omega
theorem own_form {w : World} {B n : Nat} {e : TypeId} {v : Value} {xs : List Value} (h : w.ownsRow B e 1 v n xs) : ∃ ao m cap, v = .slice ao m cap := by
  rcases h.2 with ⟨rfl, _⟩ | ⟨g, cap, cur, rfl, _⟩ <;> exact ⟨_, _, _, rfl⟩
theorem byteCells_len (l : List UInt8) : (Lib.byteCells l).length = l.length := by simp [Lib.byteCells]

set_option maxHeartbeats 1000000 in
set_option maxRecDepth 100000 in
theorem bbyte_any (B b : Nat) (l : List UInt8) (c : UInt8) (w : World) (h : Bld B b l w) (hl : l.length ≤ 1000000) (hB : B ≤ w.heap.size) :
    Calls Try.prog 14 #[.pointer (some ⟨b, 0, none⟩), .int .u8 (c.toNat : Int)] w
      fun e w' => e = .returned .nilIface ∧ Bld B b (l ++ [c]) w' ∧ Below B w w' := by
  obtain ⟨i0, hi, hz0, hz1, hz2⟩ := info_parts info_byte
  have IL := Lib.hid (And.intro hi (And.intro hz0 (And.intro hz1 hz2)))
  have H := Lib.hid h
  clear hi hz0 hz1 hz2 h
  obtain ⟨k, hk⟩ : ∃ k : Int, (c.toNat : Int) = k := ⟨_, rfl⟩
  have HK := Lib.hid hk
  rw [hk]
  clear hk
  go_enter Try.func14, Try.ntmps14
  go_wp2_with fail
  refine (bcopy_any B b l _ H.out).mono ?_
  rintro e w1 ⟨rfl, ⟨hBb, v, hb, hown, hne⟩, hb1⟩
  have hs1 := hb1.size
  have c1 : w1.cell? ⟨b, 1, none⟩ = some v := by rw [Lib.cell_of_heap hb]; rfl
  have f1 : w1.frozen? ⟨b, 1, none⟩ = false := Lib.frozen_of_heap hb 1
  have hlt : b < w1.heap.size := Lib.BuilderAt.lt ⟨hBb, v, hb, hown, hne⟩
  have HB := Lib.hid hb
  have HO := Lib.hid (hown.alloc (.cells #[.int .u8 k] 5))
  have HNE := Lib.hid hne
  have HN := Lib.hid (fresh_cells w1 5 [.int .u8 k])
  have HL := Lib.hid (byteCells_len l)
  have hb1' := Lib.hid hb1
  clear hb hown hne hb1
  go_wp2_with (first
    | (at_builtin; refine wpList_append_own _ rfl _ _ 37 rfl B 5 i0 (.int .u8 0) 1 1 Try.underlying37 IL.out.1 IL.out.2.1 IL.out.2.2.1 IL.out.2.2.2 rfl (by decide) v (Lib.byteCells l).length (Lib.byteCells l) rfl HO.out ⟨w1.heap.size, 0, none⟩ 1 1 [.int .u8 k] rfl rfl HN.out (by intro u hu; simp at hu; subst hu; rfl) (by rw [HL.out]; unfold maxLen; omega) (by rw [HL.out]; omega) (by simp; omega) ?_))
  intro v' w2 hown2 hgrow _
  obtain ⟨ao', n', cap', rfl⟩ := own_form hown2
  have hb2 : w2.heap[b]? = some (.cells #[.pointer (some ⟨b, 0, none⟩), v] 39 (0, 0)) := by
    rw [hgrow.block b (by rw [World.size_alloc]; omega) (fun e => HNE.out e.symm)]
    exact (Below.heap_alloc w1 _ b hlt).trans HB.out
  have c2 : w2.cell? ⟨b, 1, none⟩ = some v := by rw [Lib.cell_of_heap hb2]; rfl
  have f2 : w2.frozen? ⟨b, 1, none⟩ = false := Lib.frozen_of_heap hb2 1
  have hlt2 : b < w2.heap.size := by have := hgrow.size; rw [World.size_alloc] at this; omega
  have hbel : Below B w w2 := hb1'.out.trans ((But.grown (S := fun g => B ≤ g) ((But.refl _ w1).alloc _) hgrow (fun k hk _ => own_ge HO.out k hk)).below (by omega) (fun _ h => h))
  have hlen : (Lib.byteCells l).length + 1 = (Lib.byteCells (l ++ [c])).length := by rw [byteCells_len, byteCells_len]; simp
  have hres : w2.ownsRow B 5 1 (.slice ao' n' cap') (Lib.byteCells (l ++ [c])).length (Lib.byteCells (l ++ [c])) := by
    rw [← hlen, byteCells_snoc, HK.out]; exact hown2
  have HR := Lib.hid (Lib.BuilderAt.put hBb hb2 hres (by decide))
  have HBL := Lib.hid hbel
  clear hown2 hgrow hb2 hbel hlen hres c1 f1
  go_wp2
  go_ret
  exact ⟨rfl, .inr HR.out, HBL.out.setCell (p := ⟨b, 1, none⟩) hBb _⟩

set_option maxHeartbeats 1000000 in
set_option maxRecDepth 100000 in
theorem bstr_any (B b : Nat) (l : List UInt8) (s : ByteArray) (w : World) (h : Bld B b l w) (hl : l.length ≤ 1000000) (hs : s.size ≤ 1000000) (hB : B ≤ w.heap.size) :
    Calls Try.prog 15 #[.pointer (some ⟨b, 0, none⟩), .string s] w
      fun e w' => e = .returned (.tuple #[.int .i64 (s.size : Int), .nilIface]) ∧ Bld B b (l ++ s.data.toList) w' ∧ Below B w w' := by
  obtain ⟨i0, hi, hz0, hz1, hz2⟩ := info_parts info_byte
  have IL := Lib.hid (And.intro hi (And.intro hz0 (And.intro hz1 hz2)))
  have H := Lib.hid h
  clear hi hz0 hz1 hz2 h
  go_enter Try.func15, Try.ntmps15
  go_wp2_with fail
  refine (bcopy_any B b l _ H.out).mono ?_
  rintro e w1 ⟨rfl, ⟨hBb, v, hb, hown, hne⟩, hb1⟩
  have hs1 := hb1.size
  have c1 : w1.cell? ⟨b, 1, none⟩ = some v := by rw [Lib.cell_of_heap hb]; rfl
  have f1 : w1.frozen? ⟨b, 1, none⟩ = false := Lib.frozen_of_heap hb 1
  have hlt : b < w1.heap.size := Lib.BuilderAt.lt ⟨hBb, v, hb, hown, hne⟩
  have HB := Lib.hid hb
  have HO := Lib.hid hown
  have HNE := Lib.hid hne
  have HL := Lib.hid (byteCells_len l)
  have hb1' := Lib.hid hb1
  clear hb hown hne hb1
  go_wp2_with (first
    | (at_builtin; refine Lib.wpList_append_own_string _ rfl _ _ 37 9 rfl B 5 i0 Try.underlying37 Try.underlying9 IL.out.1 IL.out.2.1 IL.out.2.2.1 IL.out.2.2.2 v (Lib.byteCells l).length (Lib.byteCells l) rfl HO.out s rfl (by rw [HL.out]; unfold maxLen; omega) (by rw [HL.out]; omega) (by omega) ?_))
  intro v' w2 hown2 hgrow _
  obtain ⟨ao', n', cap', rfl⟩ := own_form hown2
  have hb2 : w2.heap[b]? = some (.cells #[.pointer (some ⟨b, 0, none⟩), v] 39 (0, 0)) := by
    rw [hgrow.block b (by omega) (fun e => HNE.out e.symm)]
    exact HB.out
  have c2 : w2.cell? ⟨b, 1, none⟩ = some v := by rw [Lib.cell_of_heap hb2]; rfl
  have f2 : w2.frozen? ⟨b, 1, none⟩ = false := Lib.frozen_of_heap hb2 1
  have hlt2 : b < w2.heap.size := by have := hgrow.size; omega
  have hbel : Below B w w2 := hb1'.out.trans ((But.grown (S := fun g => B ≤ g) (But.refl _ w1) hgrow (fun k hk _ => own_ge HO.out k hk)).below (by omega) (fun _ h => h))
  have hlen : (Lib.byteCells l).length + s.size = (Lib.byteCells (l ++ s.data.toList)).length := by rw [byteCells_len, byteCells_len]; simp
  have hres : w2.ownsRow B 5 1 (.slice ao' n' cap') (Lib.byteCells (l ++ s.data.toList)).length (Lib.byteCells (l ++ s.data.toList)) := by
    rw [← hlen, byteCells_append]; exact hown2
  have HR := Lib.hid (Lib.BuilderAt.put hBb hb2 hres (by decide))
  have HBL := Lib.hid hbel
  clear hown2 hgrow hb2 hbel hlen hres c1 f1
  go_wp2
  go_ret2
  exact ⟨rfl, .inr HR.out, HBL.out.setCell (p := ⟨b, 1, none⟩) hBb _⟩
theorem bstring_any (B b : Nat) (l : List UInt8) (w : World) (h : Bld B b l w) (hB : B ≤ w.heap.size) :
    Calls Try.prog 17 #[.pointer (some ⟨b, 0, none⟩)] w fun e w' => e = .returned (.string ⟨l.toArray⟩) ∧ Below B w w' := Try.Builder_String_any B b l w h hB
theorem bld_new (w : World) : Bld w.heap.size w.heap.size [] (w.alloc (.cells #[.pointer none, .slice none 0 0] 39)) := Lib.fresh_isBuilder _ _ w
end Go.Proofs.Ytnopnjleibbakac
