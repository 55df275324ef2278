/- The law WriterTells, walked. -/
import Derived.Test.YtnopnjleibbakacAwake08
namespace Go.Proofs.Ytnopnjleibbakac
set_option linter.unusedVariables false
open Go.RowKit Go.Sort

set_option maxRecDepth 1000000 in
set_option maxHeartbeats 6400000 in
theorem tells_walk (A : Ex) (ko : Option Addr) (kc n1 : Nat) (w : World) (hA : HasK w n1 ko A.kids) (hs : ∀ n, SetsOk n A) (hb : ∀ n, wtX n A ≤ 1099511627776) :
    Calls Try.prog 3 #[exv A ko kc] w fun e w' => e = .returned (.bool true) ∧ Below w.heap.size w w' := by
  have HKA := Lib.hid hA
  have HS := Lib.hid hs
  have HW := Lib.hid hb
  clear hA hs hb
  have HB0 := Lib.hid (below_box w (.cells #[.int .i64 A.op, .string A.text, .int .u64 A.s0, .int .u64 A.s1, .int .u64 A.s2, .int .u64 A.s3, .slice ko A.kids.length kc] 27))
  have HO := Lib.hid (Own.fresh w 27 [.int .i64 A.op, .string A.text, .int .u64 A.s0, .int .u64 A.s1, .int .u64 A.s2, .int .u64 A.s3, .slice ko A.kids.length kc])
  obtain ⟨ga, hga⟩ : ∃ ga, grt 17 A = ga := ⟨_, rfl⟩
  have HGA := Lib.hid hga
  clear hga
  unfold exv
  go_enter Try.func3, Try.ntmps3
  go_wp2_with fail
  generalize World.alloc w _ = w1 at *
  refine (great_any 17 0 ⟨by omega, by omega⟩ n1 A ko kc _ (HasK.below HB0.out HKA.out)).mono ?_
  rintro e w2 ⟨rfl, hb2⟩
  rw [HGA.out]
  have HB2 := Lib.hid (keepb HB0.out hb2)
  have HO2 := Lib.hid (own_move HO.out hb2)
  clear hb2 HB0 HO
  cases ga
  · have HP := Lib.hid (show PrOk 17 A from ⟨HGA.out, HS.out 17, HW.out 17⟩)
    have KA := Lib.hid (HasK.cut HGA.out (HasK.below HB2.out HKA.out))
    obtain ⟨v, hv⟩ : ∃ v, ofL (prX 17 A) = v := ⟨_, rfl⟩
    have CW := Lib.hid (fun (dq : Nat) (os : Array Obj) => show Calls Try.prog 5 #[] (grow (redrawn w2 dq) os) fun e w' => e = .returned (.bool true) ∧ Below (grow (redrawn w2 dq) os).heap.size (grow (redrawn w2 dq) os) w' from awake_any _)
    have C1 := Lib.hid (fun (dq : Nat) (os : Array Obj) => show Calls Try.prog 6 #[.agg #[.int .i64 A.op, .string A.text, .int .u64 A.s0, .int .u64 A.s1, .int .u64 A.s2, .int .u64 A.s3, .slice ko A.kids.length kc]] (grow (redrawn w2 dq) os) fun e w' => e = .returned (.string v) ∧ Below (grow (redrawn w2 dq) os).heap.size (grow (redrawn w2 dq) os) w' from by have h := print_any 17 A ko kc _ HP.out (HasK.below (below_regrown w2 dq os) KA.out); rw [hv] at h; exact h)
    have C2 := Lib.hid (fun (dq : Nat) (os : Array Obj) => show Calls Try.prog 7 #[.agg #[.int .i64 A.op, .string A.text, .int .u64 A.s0, .int .u64 A.s1, .int .u64 A.s2, .int .u64 A.s3, .slice ko A.kids.length kc]] (grow (redrawn w2 dq) os) fun e w' => e = .returned (.string v) ∧ Below (grow (redrawn w2 dq) os).heap.size (grow (redrawn w2 dq) os) w' from by have h := rprint_any 17 A ko kc _ HP.out (HasK.below (below_regrown w2 dq os) KA.out); rw [hv] at h; exact h)
    clear hv KA HP HGA HKA HS HW
    obtain ⟨a0, a1, a2, a3, a4, a5, a6⟩ := HO2.out.seven
    have ho3 := HO2.out.lt
    have a0' := cell_regrown a0
    have a1' := cell_regrown a1
    have a2' := cell_regrown a2
    have a3' := cell_regrown a3
    have a4' := cell_regrown a4
    have a5' := cell_regrown a5
    have a6' := cell_regrown a6
    generalize A.op = xA_op at *
    generalize A.text = xA_text at *
    generalize A.s0 = xA_s0 at *
    generalize A.s1 = xA_s1 at *
    generalize A.s2 = xA_s2 at *
    generalize A.s3 = xA_s3 at *
    generalize A.kids.length = xA_kids_length at *
    go_upto_region 3 with (fail)
    refine wp_region_quiet_below (by kernel_rfl) (by kernel_rfl) ?_
    repeat (go_big_quiet_step (first
      | (go_at_call 5; with_reducible exact Calls.regrown_of (CW.out _ _))
      | (go_at_call 6; with_reducible exact Calls.regrown_of (C1.out _ _))
      | (go_at_call 7; with_reducible exact Calls.regrown_of (C2.out _ _))))
    refine wpQuiet_nil ?_
    intro _ hw'
    obtain ⟨⟨dq, osq⟩, hw''⟩ := hw'
    subst hw''
    go_wp2
    go_ret
    exact ⟨rfl, keepb HB2.out (below_regrown _ _ _)⟩
  · go_wp2_with fail
    refine (awake_any _).mono ?_
    rintro e w3 ⟨rfl, hb3⟩
    go_wp2
    go_ret
    exact ⟨rfl, keepb HB2.out hb3⟩
end Go.Proofs.Ytnopnjleibbakac
