/- May it be a module: the reference's answer, walked over what was parsed. -/
import Derived.Test.YtbjgojdpfehnmaaJnA
import Derived.Test.YtbjgojdpfehnmaaHv
namespace Go.Proofs.Ytbjgojdpfehnmaa
set_option linter.unusedVariables false
open Go.RowKit Go.Sort
abbrev ExZ : Obj := .cells #[.int .i64 0, .string ⟨#[]⟩, .int .u64 0, .int .u64 0, .int .u64 0, .int .u64 0, .slice none 0 0] 79
set_option maxRecDepth 1000000 in
set_option maxHeartbeats 1600000 in
theorem rsame0_any (ko : Option Addr) (kc : Nat) (w : World) : Calls Try.prog 88 #[.agg #[.int .i64 0, .string ⟨#[]⟩, .int .u64 0, .int .u64 0, .int .u64 0, .int .u64 0, .slice ko 0 kc], .agg #[.int .i64 0, .string ⟨#[]⟩, .int .u64 0, .int .u64 0, .int .u64 0, .int .u64 0, .slice none 0 0]] w fun e w' => e = .returned (.bool true) ∧ Below w.heap.size w w' := by
 have HB0 := Lib.hid (show Below w.heap.size w ((w.alloc (.cells #[.int .i64 0, .string ⟨#[]⟩, .int .u64 0, .int .u64 0, .int .u64 0, .int .u64 0, .slice ko 0 kc] 79)).alloc (.cells #[.int .i64 0, .string ⟨#[]⟩, .int .u64 0, .int .u64 0, .int .u64 0, .int .u64 0, .slice none 0 0] 79)) from ((Below.refl _ _).alloc (Nat.le_refl _) _).alloc (by simp) _)
 have HO0 := Lib.hid ((Own.fresh w 79 [.int .i64 0, .string ⟨#[]⟩, .int .u64 0, .int .u64 0, .int .u64 0, .int .u64 0, .slice ko 0 kc]).on_alloc (.cells #[.int .i64 0, .string ⟨#[]⟩, .int .u64 0, .int .u64 0, .int .u64 0, .int .u64 0, .slice none 0 0] 79))
 go_enter Try.func88, Try.ntmps88
 go_wp2_with fail
 go_loopw [5] (fun b5 wr => b5 = .int .i64 0 ∧ Hid (Below w.heap.size w wr) ∧ Hid (Own wr w.heap.size 79 [.int .i64 0, .string ⟨#[]⟩, .int .u64 0, .int .u64 0, .int .u64 0, .int .u64 0, .slice ko 0 kc])) (fun _ _ => 0)
 case atStart => exact ⟨rfl, HB0, HO0⟩
 case round =>
  obtain ⟨rfl, HB, HO⟩ := hrel
  have c6 : wr.cell? ⟨w.heap.size, 6, none⟩ = some (.slice ko 0 kc) := HO.out.cell 6
  go_wp2
  go_ret
  exact ⟨rfl, HB.out⟩
theorem apartB_cons (no : ByteArray) (B : List ByteArray) (x : ByteArray) (r : List ByteArray) : apartB no B (x :: r) = (wordB x && !(x.toList == no.toList) && !(hasB B x) && apartB no (B ++ [x]) r) := rfl
set_option maxRecDepth 1000000 in
set_option maxHeartbeats 1600000 in
theorem rapart_any (l : List ByteArray) (ao : Option Addr) (cap : Nat) (no : ByteArray) (hn : (l.length : Int) ≤ 90000) (hcap : l.length ≤ cap) (hsz : ∀ x ∈ l, x.size ≤ 100000) (w : World) (hl : HasN w ao l) :
  Calls Try.prog 86 #[.slice ao l.length cap, .string no] w fun e w' => e = .returned (.bool (apartB no [] l)) ∧ Below w.heap.size w w' := by
 have HL := Lib.hid hl
 have HSZ := Lib.hid hsz
 have HHS := Lib.hid (fun (k : Nat) (hk : k ≤ l.length) (s : ByteArray) W (hW : HasN W ao l) => show Calls Try.prog 84 #[.slice ao k cap, .string s] W fun e w' => e = .returned (.bool (hasB (l.take k) s)) ∧ w' = W from by
  have q := has_any (l.take k) ao cap s (by rw [List.length_take]; omega) W (fun j x hx => hW j x (by rw [List.getElem?_take] at hx; split at hx; exact hx; cases hx))
  rw [List.length_take, Nat.min_eq_left hk] at q
  exact q.mono fun e w' h => ⟨h.1, h.2.symm⟩)
 obtain ⟨n, hnn⟩ : ∃ n, l.length = n := ⟨_, rfl⟩
 have HN := Lib.hid hnn
 obtain ⟨RES, hres⟩ : ∃ r, apartB no [] l = r := ⟨_, rfl⟩
 have HR0 := Lib.hid (show RES = apartB no (l.take 0) (l.drop 0) from by rw [← hres]; rfl)
 rw [hres]
 rw [hnn] at hn hcap HHS ⊢
 have HB0 := Lib.hid (Below.refl w.heap.size w)
 have HCAP := Lib.hid hcap
 clear hl hnn hres hsz
 go_enter Try.func86, Try.ntmps86
 go_wp2_with fail
 go_loopw [5] (fun b5 wr => ∃ k : Nat, b5 = .int .i64 (k : Int) ∧ (k : Int) ≤ n ∧ Hid (RES = apartB no (l.take k) (l.drop k)) ∧ Hid (Below w.heap.size w wr)) (fun b5 _ => n - (intOf b5).toNat)
 case atStart => exact ⟨0, rfl, by omega, HR0, HB0⟩
 case round =>
  obtain ⟨k, rfl, hk, HR, HB⟩ := hrel
  clear HR0 HB0
  by_cases hlt : (k : Int) < n
  ·
   have hlt' : decide ((k : Int) < n) = true := decide_eq_true hlt
   obtain ⟨x, hx⟩ : ∃ x, l[k]? = some x := ⟨_, List.getElem?_eq_getElem (by have := HN.out; omega)⟩
   have HD := Lib.hid (show l.drop k = x :: l.drop (k + 1) from by
    obtain ⟨h1, h2⟩ := List.getElem?_eq_some_iff.1 hx
    rw [List.drop_eq_getElem_cons h1, h2])
   have HT := Lib.hid (show l.take (k + 1) = l.take k ++ [x] from by
    obtain ⟨h1, h2⟩ := List.getElem?_eq_some_iff.1 hx
    rw [List.take_succ_eq_append_getElem h1, h2])
   have HLW := Lib.hid (HL.out.below HB.out)
   obtain ⟨b, off, hao, hb, c0⟩ := HLW.out k x hx
   obtain ⟨zw, hzw⟩ : ∃ z, wordB x = z := ⟨_, rfl⟩
   obtain ⟨zn, hzn⟩ : ∃ z, (x.toList == no.toList) = z := ⟨_, rfl⟩
   obtain ⟨zh, hzh⟩ : ∃ z, hasB (l.take k) x = z := ⟨_, rfl⟩
   have HST := Lib.hid (show RES = (zw && !zn && !zh && apartB no (l.take (k + 1)) (l.drop (k + 1))) from by rw [HR.out, HD.out, apartB_cons, HT.out, hzw, hzn, hzh])
   have HWC := Lib.hid (fun W => rword_is x (by have := HSZ.out x (List.mem_of_getElem? hx); unfold maxLen; omega) zw hzw W)
   have HHC := Lib.hid (fun W (hW : HasN W ao l) => show Calls Try.prog 84 #[.slice ao k cap, .string x] W fun e w' => e = .returned (.bool zh) ∧ w' = W from by have q := HHS.out k (by omega) x W hW; rw [hzh] at q; exact q)
   have hw1 : IntKind.i64.wrap ((k : Int) + 1) = (k : Int) + 1 := by rw [IntKind.wrap_i64]; omega
   have hkc : (k : Int) ≤ cap := by have := HCAP.out; omega
   have hkc2 : k ≤ cap := by have := HCAP.out; omega
   rw [hao] at HHC HHS HLW HL
   subst hao
   clear hx hzw hzh HR HD HT
   cases zw with
   | false =>
    go_wp2_with fail
    go_quiet (first | (go_at_call 83; with_reducible exact Calls.quiet_of_same (HWC.out _)) | (go_at_call 84; with_reducible exact Calls.quiet_of_same (HHC.out _ (HLW.out.below (below_drewN (Below.refl _ _) _)))))
    have HB1 := Lib.hid (below_drewN HB.out nq)
    have HE := Lib.hid (show RES = false from by rw [HST.out]; rfl)
    go_wp2
    go_ret
    rw [HE.out]
    exact ⟨rfl, HB1.out⟩
   | true =>
    cases zn with
    | true =>
     go_wp2_with fail
     go_quiet (first | (go_at_call 83; with_reducible exact Calls.quiet_of_same (HWC.out _)) | (go_at_call 84; with_reducible exact Calls.quiet_of_same (HHC.out _ (HLW.out.below (below_drewN (Below.refl _ _) _)))))
     have HB1 := Lib.hid (below_drewN HB.out nq)
     have HE := Lib.hid (show RES = false from by rw [HST.out]; rfl)
     go_wp2
     go_ret
     rw [HE.out]
     exact ⟨rfl, HB1.out⟩
    | false =>
     cases zh with
     | true =>
      go_wp2_with fail
      go_quiet (first | (go_at_call 83; with_reducible exact Calls.quiet_of_same (HWC.out _)) | (go_at_call 84; with_reducible exact Calls.quiet_of_same (HHC.out _ (HLW.out.below (below_drewN (Below.refl _ _) _)))))
      have HB1 := Lib.hid (below_drewN HB.out nq)
      have HE := Lib.hid (show RES = false from by rw [HST.out]; rfl)
      go_wp2
      go_ret
      rw [HE.out]
      exact ⟨rfl, HB1.out⟩
     | false =>
      go_wp2_with fail
      go_quiet (first | (go_at_call 83; with_reducible exact Calls.quiet_of_same (HWC.out _)) | (go_at_call 84; with_reducible exact Calls.quiet_of_same (HHC.out _ (HLW.out.below (below_drewN (Below.refl _ _) _)))))
      have HB1 := Lib.hid (below_drewN HB.out nq)
      have HE := Lib.hid (show RES = apartB no (l.take (k + 1)) (l.drop (k + 1)) from by rw [HST.out]; rfl)
      go_wp2
      go_roundw
      case rel => exact ⟨k + 1, by go_num, by omega, HE, HB1⟩
      case measure => simp [intOf]; omega
  ·
   have hlt' : decide ((k : Int) < n) = false := decide_eq_false hlt
   have HE := Lib.hid (show RES = true from by rw [HR.out, List.drop_eq_nil_of_le (by have := HN.out; omega)]; rfl)
   go_wp2
   go_ret
   rw [HE.out]
   exact ⟨rfl, HB.out⟩
end Go.Proofs.Ytbjgojdpfehnmaa
