/- A grammar that is put together: how a fault is told, walked. -/
import Derived.Test.YtbjgojdpfehnmaaJnB
namespace Go.Proofs.Ytbjgojdpfehnmaa
set_option linter.unusedVariables false
open Go.RowKit Go.Sort
@[go_sem 2000] theorem fbuild3 (k m n : Int) (w : World) : (Instr.build 57 #[(0, .int .i64 k), (2, .int .i64 m), (3, .int .i64 n)]).run Try.prog w = .ok (.agg #[.int .i64 k, .int .i64 0, .int .i64 m, .int .i64 n]) w := run_build w _ _ _ (by kernel_rfl)
@[go_sem 2000] theorem nbuild6 (o m r a b c d : Int) (t : ByteArray) (w : World) : (Instr.build 42 #[(0, .int .i64 o), (1, .string t), (2, .agg #[.int .u64 a, .int .u64 b, .int .u64 c, .int .u64 d]), (4, .int .i64 (-1)), (5, .int .i64 m), (6, .int .i64 r)]).run Try.prog w = .ok (.agg #[.int .i64 o, .string t, .int .u64 a, .int .u64 b, .int .u64 c, .int .u64 d, .slice none 0 0, .int .i64 (-1), .int .i64 m, .int .i64 r]) w := run_build w _ _ _ (by kernel_rfl)
@[go_sem 2000] theorem wbuild1 (ao : Option Addr) (n c : Nat) (w : World) : (Instr.build 87 #[(0, .slice ao n c)]).run Try.prog w = .ok (.agg #[.slice ao n c, .slice none 0 0, .slice none 0 0, .slice none 0 0, .slice none 0 0, .int .i64 0, .slice none 0 0, .int .i64 0, .int .i64 0, .int .i64 0, .int .i64 0]) w := run_build w _ _ _ (by kernel_rfl)
theorem info_node : (Try.prog.info? 42).map (fun i => (i.zero, i.size, i.bytes)) = some (some (.agg #[.int .i64 0, .string ⟨#[]⟩, .int .u64 0, .int .u64 0, .int .u64 0, .int .u64 0, .slice none 0 0, .int .i64 0, .int .i64 0, .int .i64 0]), 10, 104) := by kernel_rfl
theorem info_head : (Try.prog.info? 48).map (fun i => (i.zero, i.size, i.bytes)) = some (some (.agg #[.int .i64 0, .string ⟨#[]⟩, .int .i64 0]), 3, 32) := by kernel_rfl
set_option maxRecDepth 1000000 in
set_option maxHeartbeats 1600000 in
theorem jfail_any {w0 w : World} {g : Nat} {c : Nat → Nat} {rows : Rw} {v : Nat → Value} {lv : Value} {st : Int} {F : Option Ft3} (k m r : Int) (hk : k ≠ 0) (h : Wk w0 w g c rows v lv st F) :
  Calls Try.prog 69 #[.pointer (some ⟨g, 0, none⟩), .int .i64 k, .int .i64 m, .int .i64 r] w fun e w' => e = .returned (.tuple #[]) ∧ Wk w0 w' g c rows v lv st (orF F (some (k, m, r))) ∧ But (fun j => j = g) w w' := by
 have ho : Own w g 87 [lv, v 1, v 2, v 3, v 4, .int .i64 st, v 5, .int .i64 (e3 F), .int .i64 0, .int .i64 (m3 F), .int .i64 (r3 F)] := h.own
 obtain ⟨-, -, -, -, -, -, -, c7, c8, c9, cA⟩ := ho.elev
 obtain ⟨-, -, -, -, -, -, -, d7, d8, d9, dA⟩ := ho.elevf
 have hg := ho.lt
 cases F with
 | some f =>
  have c7' : w.cell? ⟨g, 7, none⟩ = some (.int .i64 f.1) := c7
  have ef : (f.1 == 0) = false := beq_eq_false_iff_ne.2 (h.nz f rfl)
  have HH := Lib.hid h
  clear c7 c8 c9 cA h ho
  go_enter Try.func69, Try.ntmps69
  go_wp2
  first
   | (refine bodyPost_ret (results_none rfl _ _ _) rfl ?_; exact ⟨rfl, HH.out, But.refl _ _⟩)
   | (go_end0; exact ⟨rfl, HH.out, But.refl _ _⟩)
 | none =>
  have c7' : w.cell? ⟨g, 7, none⟩ = some (.int .i64 0) := c7
  have c8' : w.cell? ⟨g, 8, none⟩ = some (.int .i64 0) := c8
  have c9' : w.cell? ⟨g, 9, none⟩ = some (.int .i64 0) := c9
  have cA' : w.cell? ⟨g, 10, none⟩ = some (.int .i64 0) := cA
  have HF := Lib.hid (h.fault (k, m, r) hk)
  clear c7 c8 c9 cA h ho
  go_enter Try.func69, Try.ntmps69
  go_wp2
  first
   | (refine bodyPost_ret (results_none rfl _ _ _) rfl ?_; exact ⟨rfl, HF.out.1, HF.out.2⟩)
   | (go_end0; exact ⟨rfl, HF.out.1, HF.out.2⟩)
end Go.Proofs.Ytbjgojdpfehnmaa
