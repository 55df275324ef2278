/- The document's examples of layer 15: the law's own, walked. -/
import Derived.Test.YtbjgojdpfehnmaaIg
import Derived.Test.YtbjgojdpfehnmaaFsC
import Derived.Test.YtbjgojdpfehnmaaMgd
import Derived.Test.YtbjgojdpfehnmaaHw
import Derived.Deep.RegionWith
namespace Go.Proofs.Ytbjgojdpfehnmaa
set_option linter.unusedVariables false
open Go.RowKit Go.Sort
def gstB (gr : Gj) : Bool := gr.ns.all (fun x => fitI x.s0 x.s1 x.s2 x.s3 && (x.op != 1 || decide (0 < x.tx.size)))
theorem mini_gst : Gst miniG := by
 have h : gstB miniG = true := by kernel_rfl
 unfold gstB at h
 rw [List.all_eq_true] at h
 refine ⟨mini_good, fun x hx => ?_, fun x hx h1 => ?_⟩
 ·
  have := h x hx
  rw [Bool.and_eq_true] at this
  exact this.1
 ·
  have := h x hx
  rw [Bool.and_eq_true, h1] at this
  exact of_decide_eq_true (by simpa using this.2)
theorem m15_0 : firG miniG 0 = (34359738368, 0, 0, 0) := by kernel_rfl
theorem m15_9 : firG miniG 9 = fullS := by kernel_rfl
theorem m15_4 : firG miniG 4 = set0 := by kernel_rfl
theorem m15_16 : firG miniG 16 = fullS := by kernel_rfl
theorem m15_11 : firG miniG 11 = (0, 576460743713488896, 0, 0) := by kernel_rfl
theorem ex15a : withW 0 35 0 = 34359738368 ∧ withW 0 35 1 = 0 ∧ withW 0 35 2 = 0 ∧ withW 0 35 3 = 0 := ⟨by kernel_rfl, by kernel_rfl, by kernel_rfl, by kernel_rfl⟩
theorem ex15b : notW 0 = 18446744073709551615 := by kernel_rfl
theorem ex15c : rowW 0 97 123 = 0 ∧ rowW 1 97 123 = 576460743713488896 ∧ rowW 2 97 123 = 0 ∧ rowW 3 97 123 = 0 := ⟨by kernel_rfl, by kernel_rfl, by kernel_rfl, by kernel_rfl⟩
theorem with15 (W : World) : Calls Try.prog 42 #[.agg #[.int .u64 0, .int .u64 0, .int .u64 0, .int .u64 0], .int .u8 35] W fun e w' => e = .returned (.agg #[.int .u64 34359738368, .int .u64 0, .int .u64 0, .int .u64 0]) ∧ Below W.heap.size W w' := by
 have h := rwith_any 0 0 0 0 35 (by decide) (by decide) (by decide) (by decide) (by decide) W
 rw [ex15a.1, ex15a.2.1, ex15a.2.2.1, ex15a.2.2.2] at h
 exact h
theorem not15 (W : World) : Calls Try.prog 43 #[.agg #[.int .u64 0, .int .u64 0, .int .u64 0, .int .u64 0]] W fun e w' => e = .returned (.agg #[.int .u64 18446744073709551615, .int .u64 18446744073709551615, .int .u64 18446744073709551615, .int .u64 18446744073709551615]) ∧ Below W.heap.size W w' := by
 have h := rnot_any 0 0 0 0 (by decide) (by decide) (by decide) (by decide) W
 rw [ex15b] at h
 exact h
theorem range15 (W : World) : Calls Try.prog 44 #[.int .u8 97, .int .u8 122] W fun e w' => e = .returned (.agg #[.int .u64 0, .int .u64 576460743713488896, .int .u64 0, .int .u64 0]) ∧ Below W.heap.size W w' := by
 have h := rrange_any 97 122 (by decide) (by decide) W
 rw [show (122 : Nat) + 1 = 123 from rfl, ex15c.1, ex15c.2.1, ex15c.2.2.1, ex15c.2.2.2] at h
 exact h
set_option maxRecDepth 1000000 in
set_option maxHeartbeats 800000 in
theorem mini15_any (w : World) : Calls Try.prog 41 #[] w fun e w' => (∃ b, e = .returned (.slice (some ⟨b, 0, none⟩) 2 2) ∧ HasN w' (some ⟨b, 0, none⟩) miniL) ∧ Below w.heap.size w w' := by
 have HO := Lib.hid (Own.fresh w 9 (miniL.map Value.string))
 have HB := Lib.hid (show Below w.heap.size w (w.alloc (.cells (miniL.map Value.string).toArray 9)) from (Below.refl _ _).alloc (Nat.le_refl _) _)
 go_enter Try.func41, Try.ntmps41
 go_wp2
 go_ret
 refine ⟨⟨w.heap.size, rfl, ?_⟩, HB.out⟩
 exact hasN_of (S := fun b => b = w.heap.size) (n := 2) (c := 2) (l := miniL) ⟨rfl, .inr ⟨w.heap.size, 0, 2, _, rfl, rfl, HO.out, Nat.le_refl _, by unfold maxLen; omega, by simp [miniL], by simp [miniL]⟩⟩
set_option maxRecDepth 1000000 in
set_option maxHeartbeats 3200000 in
theorem awake15_any (w : World) : Calls Try.prog 25 #[] w fun e w' => e = .returned (.bool true) ∧ Below w.heap.size w w' := by
 have HMI := Lib.hid (mini15_any w)
 have HJD := Lib.hid (fun (bb : Nat) W (hW : HasN W (some ⟨bb, 0, none⟩) miniL) => show Calls Try.prog 24 #[.slice (some ⟨bb, 0, none⟩) 2 2, .string ⟨#[109, 97, 105, 110]⟩] W fun e w' => (∃ a, e = .returned (.tuple #[grv miniG a, .bool true]) ∧ HasG w' miniG a) ∧ Below W.heap.size W w' from by
  have q := joined15_any miniL (some ⟨bb, 0, none⟩) 2 ⟨#[109, 97, 105, 110]⟩ W hW
  rw [mini_jnd] at q
  exact q)
 go_enter Try.func25, Try.ntmps25
 go_wp2_with fail
 refine HMI.out.mono ?_
 rintro e w1 ⟨⟨bb, rfl, hn⟩, hb1⟩
 have HB1 := Lib.hid hb1
 clear hb1
 go_wp2_with fail
 refine (HJD.out bb w1 hn).mono ?_
 rintro e w2 ⟨⟨a, he, hG⟩, hb2⟩
 have HB2 := Lib.hid (HB1.out.trans (hb2.mono HB1.out.size))
 have HG2 := Lib.hid hG
 subst he
 clear hn hb2 hG HMI HJD HB1
 have HN := Lib.hid (fun W (h : HasG W miniG a) => ffirst_any miniG a mini_gst W h)
 unfold FsE at HN
 unfold grv
 unfold grv at HN
 obtain ⟨nh, hnh⟩ : ∃ z, miniG.hs.length = z := ⟨_, rfl⟩
 obtain ⟨nms, hnms⟩ : ∃ z, miniG.ms.length = z := ⟨_, rfl⟩
 obtain ⟨nw, hnw⟩ : ∃ z, miniG.ws.length = z := ⟨_, rfl⟩
 obtain ⟨st, hst⟩ : ∃ z, miniG.st = z := ⟨_, rfl⟩
 rw [miniG_len, hnh, hnms, hnw, hst]
 rw [miniG_len, hnh, hnms, hnw, hst] at HN
 clear hnh hnms hnw hst
 have hbl : Below w2.heap.size w2 (w2.alloc (.cells #[.slice a.mo nms a.mc, .slice a.no 23 a.nc, .slice a.ho nh a.hc, .slice a.wo nw a.wc, .int .i64 st] 27)) := (Below.refl _ _).alloc (Nat.le_refl _) _
 have HB3 := Lib.hid (HB2.out.trans (hbl.mono HB2.out.size))
 have HG3 := Lib.hid (HG2.out.below hbl)
 have HO3 := Lib.hid (Own.fresh w2 27 [.slice a.mo nms a.mc, .slice a.no 23 a.nc, .slice a.ho nh a.hc, .slice a.wo nw a.wc, .int .i64 st])
 clear hbl
 go_upto_region 2 with fail
 obtain ⟨B, hB⟩ : ∃ B, w2.heap.size = B := ⟨_, rfl⟩
 rw [hB] at HO3
 generalize w2.alloc (.cells #[.slice a.mo nms a.mc, .slice a.no 23 a.nc, .slice a.ho nh a.hc, .slice a.wo nw a.wc, .int .i64 st] 27) = w3 at *
 try rw [hB]
 clear hB HB2 HG2
 have g0 : w3.cell? ⟨B, 0, none⟩ = some (.slice a.mo nms a.mc) := HO3.out.cell 0
 have g1 : w3.cell? ⟨B, 1, none⟩ = some (.slice a.no 23 a.nc) := HO3.out.cell 1
 have g2 : w3.cell? ⟨B, 2, none⟩ = some (.slice a.ho nh a.hc) := HO3.out.cell 2
 have g3 : w3.cell? ⟨B, 3, none⟩ = some (.slice a.wo nw a.wc) := HO3.out.cell 3
 have g4 : w3.cell? ⟨B, 4, none⟩ = some (.int .i64 st) := HO3.out.cell 4
 have gl := HO3.out.lt
 go_wp2_with fail
 refine (HN.out w3 HG3.out).mono ?_
 rintro e w4 ⟨g, rfl, hO, hg, hb4⟩
 have HB4 := Lib.hid (HB3.out.trans (hb4.mono HB3.out.size))
 clear hb4 hg g0 g1 g2 g3 g4 gl HN HG3 HO3 HB3
 have m0 : ∀ (k : Nat) (s : Set4), k < 23 → firG miniG k = s → w4.cell? ⟨g, k * 4, none⟩ = some (.int .u64 (s.1 : Int)) ∧ w4.cell? ⟨g, k * 4 + 1, none⟩ = some (.int .u64 (s.2.1 : Int)) ∧ w4.cell? ⟨g, k * 4 + 2, none⟩ = some (.int .u64 (s.2.2.1 : Int)) ∧ w4.cell? ⟨g, k * 4 + 3, none⟩ = some (.int .u64 (s.2.2.2 : Int)) := fun k s hk e => by
  subst e
  exact ⟨by rw [hO.cell]; exact rowS_at _ 23 k 0 hk (by decide), by rw [hO.cell]; exact rowS_at _ 23 k 1 hk (by decide), by rw [hO.cell]; exact rowS_at _ 23 k 2 hk (by decide), by rw [hO.cell]; exact rowS_at _ 23 k 3 hk (by decide)⟩
 have hgl := hO.lt
 obtain ⟨x0_0, x0_1, x0_2, x0_3⟩ : w4.cell? ⟨g, 0, none⟩ = some (.int .u64 34359738368) ∧ w4.cell? ⟨g, 1, none⟩ = some (.int .u64 0) ∧ w4.cell? ⟨g, 2, none⟩ = some (.int .u64 0) ∧ w4.cell? ⟨g, 3, none⟩ = some (.int .u64 0) := m0 0 _ (by decide) m15_0
 obtain ⟨x9_0, x9_1, x9_2, x9_3⟩ : w4.cell? ⟨g, 36, none⟩ = some (.int .u64 18446744073709551615) ∧ w4.cell? ⟨g, 37, none⟩ = some (.int .u64 18446744073709551615) ∧ w4.cell? ⟨g, 38, none⟩ = some (.int .u64 18446744073709551615) ∧ w4.cell? ⟨g, 39, none⟩ = some (.int .u64 18446744073709551615) := m0 9 _ (by decide) m15_9
 obtain ⟨x11_0, x11_1, x11_2, x11_3⟩ : w4.cell? ⟨g, 44, none⟩ = some (.int .u64 0) ∧ w4.cell? ⟨g, 45, none⟩ = some (.int .u64 576460743713488896) ∧ w4.cell? ⟨g, 46, none⟩ = some (.int .u64 0) ∧ w4.cell? ⟨g, 47, none⟩ = some (.int .u64 0) := m0 11 _ (by decide) m15_11
 obtain ⟨x4_0, x4_1, x4_2, x4_3⟩ : w4.cell? ⟨g, 16, none⟩ = some (.int .u64 0) ∧ w4.cell? ⟨g, 17, none⟩ = some (.int .u64 0) ∧ w4.cell? ⟨g, 18, none⟩ = some (.int .u64 0) ∧ w4.cell? ⟨g, 19, none⟩ = some (.int .u64 0) := m0 4 _ (by decide) m15_4
 obtain ⟨x16_0, x16_1, x16_2, x16_3⟩ : w4.cell? ⟨g, 64, none⟩ = some (.int .u64 18446744073709551615) ∧ w4.cell? ⟨g, 65, none⟩ = some (.int .u64 18446744073709551615) ∧ w4.cell? ⟨g, 66, none⟩ = some (.int .u64 18446744073709551615) ∧ w4.cell? ⟨g, 67, none⟩ = some (.int .u64 18446744073709551615) := m0 16 _ (by decide) m15_16
 have y0_0 := cell_regrown x0_0
 have y0_1 := cell_regrown x0_1
 have y0_2 := cell_regrown x0_2
 have y0_3 := cell_regrown x0_3
 have y9_0 := cell_regrown x9_0
 have y9_1 := cell_regrown x9_1
 have y9_2 := cell_regrown x9_2
 have y9_3 := cell_regrown x9_3
 have y11_0 := cell_regrown x11_0
 have y11_1 := cell_regrown x11_1
 have y11_2 := cell_regrown x11_2
 have y11_3 := cell_regrown x11_3
 have y4_0 := cell_regrown x4_0
 have y4_1 := cell_regrown x4_1
 have y4_2 := cell_regrown x4_2
 have y4_3 := cell_regrown x4_3
 have y16_0 := cell_regrown x16_0
 have y16_1 := cell_regrown x16_1
 have y16_2 := cell_regrown x16_2
 have y16_3 := cell_regrown x16_3
 clear m0 hO
 have C1 := Lib.hid (fun (dq : Nat) (os : Array Obj) => with15 (grow (redrawn w4 dq) os))
 have C2 := Lib.hid (fun (dq : Nat) (os : Array Obj) => not15 (grow (redrawn w4 dq) os))
 have C3 := Lib.hid (fun (dq : Nat) (os : Array Obj) => range15 (grow (redrawn w4 dq) os))
 have hz0 : zB 0 0 0 0 = true := by rfl
 go_wp2_with fail
 refine wp_region_quiet_below (by kernel_rfl) (by kernel_rfl) ?_
 repeat (go_big_quiet_step (first
  | (go_at_call 42; with_reducible exact Calls.regrown_of (C1.out _ _))
  | (go_at_call 43; with_reducible exact Calls.regrown_of (C2.out _ _))
  | (go_at_call 44; with_reducible exact Calls.regrown_of (C3.out _ _))))
 refine wpQuiet_nil ?_
 intro _ hw'
 obtain ⟨⟨dq, osq⟩, hw''⟩ := hw'
 subst hw''
 go_wp2
 go_ret
 exact ⟨rfl, keepb HB4.out (below_regrown _ _ _)⟩
end Go.Proofs.Ytbjgojdpfehnmaa
