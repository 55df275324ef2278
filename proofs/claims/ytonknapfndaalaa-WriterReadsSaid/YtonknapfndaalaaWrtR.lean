/- Expressions as they are written: the walk of the program's Print. -/
import Derived.Test.YtonknapfndaalaaWrtP
namespace Go.Proofs.Ytonknapfndaalaa
set_option linter.unusedVariables false
set_option maxRecDepth 1000000
open Go.RowKit Go.Sort
theorem set_fact {x : Ex} {n : Nat} (h : SetsOk (n + 1) x) (w : World) (F : FuncId) (r : (Nat → Bool) → ByteArray)
  (HC : ∀ (a b c d : Nat), a < P64 → b < P64 → c < P64 → d < P64 → ∀ w : World, Calls Try.prog F #[.agg #[.int .u64 (a : Int), .int .u64 (b : Int), .int .u64 (c : Int), .int .u64 (d : Int)]] w fun e w' => e = .returned (.string (r (inSet a b c d))) ∧ Below w.heap.size w w') :
  Calls Try.prog F #[.agg #[.int .u64 x.s0, .int .u64 x.s1, .int .u64 x.s2, .int .u64 x.s3]] w fun e w' => e = .returned (.string (r (inX x))) ∧ Below w.heap.size w w' := by
 obtain ⟨⟨⟨a0, a1⟩, ⟨b0, b1⟩, ⟨c0, c1⟩, ⟨d0, d1⟩⟩, -⟩ := h
 have k := HC x.s0.toNat x.s1.toNat x.s2.toNat x.s3.toNat (by omega) (by omega) (by omega) (by omega) w
 rw [Int.toNat_of_nonneg a0, Int.toNat_of_nonneg b0, Int.toNat_of_nonneg c0, Int.toNat_of_nonneg d0] at k
 exact k
theorem bytes_cons (c : UInt8) (l : List UInt8) : (⟨#[c]⟩ : ByteArray) ++ ofL l = ofL (c :: l) := by
 show ofL [c] ++ ofL l = _
 rw [ofL_app, ofL_data]; rfl
theorem bytes_snoc (c : UInt8) (l : List UInt8) : ofL l ++ (⟨#[c]⟩ : ByteArray) = ofL (l ++ [c]) := by rw [ofL_app]
theorem bytes_two (t : ByteArray) (c : UInt8) (l : List UInt8) : t ++ (⟨#[c]⟩ : ByteArray) ++ ofL l = ofL (t.data.toList ++ c :: l) := by
 have h : t = ofL t.data.toList := (ofL_self t).symm
 conv => lhs; rw [h]
 rw [bytes_snoc, ofL_app, ofL_data]
 congr 1
 simp
theorem prX_case (n : Nat) (x : Ex) (o : Int) (ho : x.op = o) : prX (n + 1) x = if o = 1 then (textS x.text).data.toList else if o = 2 then (classS (inX x)).data.toList else if o = 3 then [46] else if o = 11 then x.text.data.toList
  else if o = 4 then rowX (prX n) x else if o = 5 then rowX (prX n) x
  else if o = 6 then rowX (prX n) x ++ [42] else if o = 7 then rowX (prX n) x ++ [43] else if o = 8 then rowX (prX n) x ++ [63]
  else if o = 9 then 38 :: rowX (prX n) x else if o = 10 then 33 :: rowX (prX n) x
  else if o = 12 then x.text.data.toList ++ (58 :: rowX (prX n) x) else if o = 13 then 126 :: (rowX (prX n) x ++ [126]) else [] := by subst ho; rfl
theorem rowX_room {n : Nat} {x : Ex} (hx : PrOk (n + 1) x) : (rowX (prX n) x).length ≤ 70368744177664 := hx.room.1
set_option maxRecDepth 100000 in
set_option maxHeartbeats 3200000 in
theorem print_any : ∀ n, Prints n
 | 0, x, ko, kc, w, hx, hK => by exact hx.small.elim
 | n + 1, x, ko, kc, w, hx, hK => by
  obtain ⟨m, hm⟩ : ∃ m, x.kids.length = m := ⟨_, rfl⟩
  obtain ⟨o, ho⟩ : ∃ o, x.op = o := ⟨_, rfl⟩
  have HPX := Lib.hid (prX_case n x o ho)
  have HLR := Lib.hid (rowX_room hx)
  have HT := Lib.hid (tame_len hx.small).2
  have HTX := Lib.hid (fun W => text_any x.text (by have := HT.out; omega) W)
  have HCL := Lib.hid (fun W => set_fact hx.sets W 23 classS class_any)
  have IHK := Lib.hid (fun (sp : ByteArray) (hs : sp = ofL (sepX o)) (W : World) (hb : Below w.heap.size w W) => show Calls Try.prog 24 #[.agg #[.int .i64 o, .string x.text, .int .u64 x.s0, .int .u64 x.s1, .int .u64 x.s2, .int .u64 x.s3, .slice ko m kc], .string sp] W fun e w' => e = .returned (.string (ofL (rowX (prX n) x))) ∧ Below W.heap.size W w' from by
   have h := kids_any n (print_any n) x ko kc sp (by rw [ho]; exact hs) W hx (HasK.below hb hK)
   unfold exv at h
   rw [hm, ho] at h
   exact h)
  have HB0 := Lib.hid (below_box w (.cells #[.int .i64 o, .string x.text, .int .u64 x.s0, .int .u64 x.s1, .int .u64 x.s2, .int .u64 x.s3, .slice ko m kc] 28))
  have HO := Lib.hid (Own.fresh w 28 [.int .i64 o, .string x.text, .int .u64 x.s0, .int .u64 x.s1, .int .u64 x.s2, .int .u64 x.s3, .slice ko m kc])
  have HTS := Lib.hid (show (ofL x.text.data.toList) = x.text from ofL_self _)
  have ts : x.text.size ≤ 60 := HT.out
  unfold exv
  rw [hm, ho]
  generalize rowX (prX n) x = l at *
  clear hm ho hx hK
  obtain ⟨R, hR⟩ : ∃ R, ofL l = R := ⟨_, rfl⟩
  have HR := Lib.hid hR
  rw [hR] at IHK
  have rs : R.size ≤ 70368744177664 := by rw [← hR, ofL_size]; exact HLR.out
  clear hR
  by_cases h1 : o = 1
  ·
   subst h1
   go_enter Try.func16, Try.ntmps16
   go_wp2_with fail
   refine (HTX.out _).mono ?_
   rintro e w1 ⟨rfl, hb1⟩
   have HB1 := Lib.hid (keepb HB0.out hb1)
   clear hb1
   have HE := Lib.hid (show textS x.text = ofL (prX (n + 1) x) by rw [HPX.out]; exact (ofL_self _).symm)
   generalize textS x.text = q at *
   go_wp2
   go_ret
   exact ⟨ret_str (HE.out), HB1.out⟩
  by_cases h2 : o = 2
  ·
   subst h2
   go_enter Try.func16, Try.ntmps16
   go_wp2_with fail
   refine (HCL.out _).mono ?_
   rintro e w1 ⟨rfl, hb1⟩
   have HB1 := Lib.hid (keepb HB0.out hb1)
   clear hb1
   have HE := Lib.hid (show classS (inX x) = ofL (prX (n + 1) x) by rw [HPX.out]; exact (ofL_self _).symm)
   generalize classS (inX x) = q at *
   go_wp2
   go_ret
   exact ⟨ret_str (HE.out), HB1.out⟩
  by_cases h3 : o = 3
  ·
   subst h3
   go_enter Try.func16, Try.ntmps16
   go_wp2
   go_ret
   exact ⟨ret_str (by rw [HPX.out]; rfl), HB0.out⟩
  by_cases h11 : o = 11
  ·
   subst h11
   go_enter Try.func16, Try.ntmps16
   go_wp2
   go_ret
   exact ⟨ret_str (by rw [HPX.out]; exact HTS.out.symm), HB0.out⟩
  by_cases h4 : o = 4
  ·
   subst h4
   go_enter Try.func16, Try.ntmps16
   go_wp2_with fail
   refine (IHK.out _ (by decide) _ HB0.out).mono ?_
   rintro e w1 ⟨rfl, hb1⟩
   have HB1 := Lib.hid (keepb HB0.out hb1)
   clear hb1
   go_wp2
   go_ret
   exact ⟨ret_str (by rw [HPX.out]; exact HR.out.symm), HB1.out⟩
  by_cases h5 : o = 5
  ·
   subst h5
   go_enter Try.func16, Try.ntmps16
   go_wp2_with fail
   refine (IHK.out _ (by decide) _ HB0.out).mono ?_
   rintro e w1 ⟨rfl, hb1⟩
   have HB1 := Lib.hid (keepb HB0.out hb1)
   clear hb1
   go_wp2
   go_ret
   exact ⟨ret_str (by rw [HPX.out]; exact HR.out.symm), HB1.out⟩
  by_cases h6 : o = 6
  ·
   subst h6
   go_enter Try.func16, Try.ntmps16
   go_wp2_with fail
   refine (IHK.out _ (by decide) _ HB0.out).mono ?_
   rintro e w1 ⟨rfl, hb1⟩
   have HB1 := Lib.hid (keepb HB0.out hb1)
   clear hb1
   go_wp2
   go_ret
   exact ⟨ret_str (by rw [HPX.out, ← HR.out]; exact bytes_snoc _ _), HB1.out⟩
  by_cases h7 : o = 7
  ·
   subst h7
   go_enter Try.func16, Try.ntmps16
   go_wp2_with fail
   refine (IHK.out _ (by decide) _ HB0.out).mono ?_
   rintro e w1 ⟨rfl, hb1⟩
   have HB1 := Lib.hid (keepb HB0.out hb1)
   clear hb1
   go_wp2
   go_ret
   exact ⟨ret_str (by rw [HPX.out, ← HR.out]; exact bytes_snoc _ _), HB1.out⟩
  by_cases h8 : o = 8
  ·
   subst h8
   go_enter Try.func16, Try.ntmps16
   go_wp2_with fail
   refine (IHK.out _ (by decide) _ HB0.out).mono ?_
   rintro e w1 ⟨rfl, hb1⟩
   have HB1 := Lib.hid (keepb HB0.out hb1)
   clear hb1
   go_wp2
   go_ret
   exact ⟨ret_str (by rw [HPX.out, ← HR.out]; exact bytes_snoc _ _), HB1.out⟩
  by_cases h9 : o = 9
  ·
   subst h9
   go_enter Try.func16, Try.ntmps16
   go_wp2_with fail
   refine (IHK.out _ (by decide) _ HB0.out).mono ?_
   rintro e w1 ⟨rfl, hb1⟩
   have HB1 := Lib.hid (keepb HB0.out hb1)
   clear hb1
   go_wp2
   go_ret
   exact ⟨ret_str (by rw [HPX.out, ← HR.out]; exact bytes_cons _ _), HB1.out⟩
  by_cases h10 : o = 10
  ·
   subst h10
   go_enter Try.func16, Try.ntmps16
   go_wp2_with fail
   refine (IHK.out _ (by decide) _ HB0.out).mono ?_
   rintro e w1 ⟨rfl, hb1⟩
   have HB1 := Lib.hid (keepb HB0.out hb1)
   clear hb1
   go_wp2
   go_ret
   exact ⟨ret_str (by rw [HPX.out, ← HR.out]; exact bytes_cons _ _), HB1.out⟩
  by_cases h12 : o = 12
  ·
   subst h12
   go_enter Try.func16, Try.ntmps16
   go_upto_region 25 with (fail)
   generalize hW : w.alloc _ = W1 at *
   obtain ⟨c0, c1, c2, c3, c4, c5, c6⟩ := HO.out.seven
   have hlt := HO.out.lt
   have d1 := cell_regrown c1
   have d0 := cell_regrown c0
   have d2 := cell_regrown c2
   have d3 := cell_regrown c3
   have d4 := cell_regrown c4
   have d5 := cell_regrown c5
   have d6 := cell_regrown c6
   have CK := Lib.hid (fun (dq : Nat) (os : Array Obj) => IHK.out ⟨#[]⟩ (by decide) (grow (redrawn W1 dq) os) (keepb HB0.out (below_regrown W1 dq os)))
   refine wp_region_quiet_below (by kernel_rfl) (by kernel_rfl) ?_
   repeat (go_big_quiet_step (first | (go_at_call 24; with_reducible exact Calls.regrown_of (CK.out _ _))))
   refine wpQuiet_nil ?_
   intro _ hw'
   obtain ⟨⟨dq, osq⟩, hw''⟩ := hw'
   subst hw''
   go_wp2
   go_ret
   exact ⟨ret_str (by rw [HPX.out, ← HR.out]; exact bytes_two _ _ _), keepb HB0.out (below_regrown _ _ _)⟩
  by_cases h13 : o = 13
  ·
   subst h13
   go_enter Try.func16, Try.ntmps16
   go_wp2_with fail
   refine (IHK.out _ (by decide) _ HB0.out).mono ?_
   rintro e w1 ⟨rfl, hb1⟩
   have HB1 := Lib.hid (keepb HB0.out hb1)
   clear hb1
   go_wp2
   go_ret
   exact ⟨ret_str (by rw [HPX.out, ← HR.out]; exact (congrArg (· ++ (⟨#[126]⟩ : ByteArray)) (bytes_cons 126 l)).trans (bytes_snoc 126 _)), HB1.out⟩
  have e1 : (o == 1) = false := beq_eq_false_iff_ne.2 h1
  have e2 : (o == 2) = false := beq_eq_false_iff_ne.2 h2
  have e3 : (o == 3) = false := beq_eq_false_iff_ne.2 h3
  have e11 : (o == 11) = false := beq_eq_false_iff_ne.2 h11
  have e4 : (o == 4) = false := beq_eq_false_iff_ne.2 h4
  have e5 : (o == 5) = false := beq_eq_false_iff_ne.2 h5
  have e6 : (o == 6) = false := beq_eq_false_iff_ne.2 h6
  have e7 : (o == 7) = false := beq_eq_false_iff_ne.2 h7
  have e8 : (o == 8) = false := beq_eq_false_iff_ne.2 h8
  have e9 : (o == 9) = false := beq_eq_false_iff_ne.2 h9
  have e10 : (o == 10) = false := beq_eq_false_iff_ne.2 h10
  have e12 : (o == 12) = false := beq_eq_false_iff_ne.2 h12
  have e13 : (o == 13) = false := beq_eq_false_iff_ne.2 h13
  have HE := Lib.hid (show prX (n + 1) x = [] by rw [HPX.out, if_neg h1, if_neg h2, if_neg h3, if_neg h11, if_neg h4, if_neg h5, if_neg h6, if_neg h7, if_neg h8, if_neg h9, if_neg h10, if_neg h12, if_neg h13])
  clear h1 h2 h3 h11 h4 h5 h6 h7 h8 h9 h10 h12 h13
  go_enter Try.func16, Try.ntmps16
  go_wp2
  go_ret
  exact ⟨ret_str (by rw [HE.out]; rfl), HB0.out⟩
end Go.Proofs.Ytonknapfndaalaa
