/- The program's query parser: a literal, a number. -/
import Derived.Test.YtialpofiagiclaaDoorQpC
namespace Go.Proofs.YtialpofiagiclaaDoor
set_option linter.unusedVariables false
set_option maxRecDepth 1000000
open Go.RowKit Go.Sort

/-- Where a literal leaves the parser, and the row of the step's block. -/
def LiQ (w : World) (g h : Nat) (s : ByteArray) (cs : List Value) (i : Nat) (R : Except Nat (ByteArray × Nat)) (e : Ending) (w' : World) : Prop :=
  (match R with
    | .ok p => e = .returned (.bool true) ∧ Pq w' g s p.2 none ∧ Own w' h 38 (cs.set i (.string p.1))
    | .error a => e = .returned (.bool false) ∧ Pq w' g s a (some (2, a)) ∧ Own w' h 38 cs) ∧ But (fun j => j = g ∨ j = h) w w'
theorem set_id {α : Type} {l : List α} {i : Nat} {v : α} (h : l[i]? = some v) : l.set i v = l := by
  apply List.ext_getElem?
  intro j
  rw [List.getElem?_set]
  by_cases e : i = j
  · subst e
    rw [if_pos rfl, h]
    have := (List.getElem?_eq_some_iff.1 h).1
    rw [if_pos this]
  · rw [if_neg e]
set_option maxRecDepth 1000000 in
set_option maxHeartbeats 3200000 in
theorem plit_any (c : UInt8) (s : ByteArray) (hs : s.size ≤ 1000000) (g h k i : Nat) (hgh : g ≠ h) (hk : k ≤ s.size) (cs : List Value) (hi : cs[i]? = some (.string ⟨#[]⟩)) (w : World) (hc : Pq w g s k none) (hx : Own w h 38 cs) :
    Calls Tryd.prog 34 #[.pointer (some ⟨g, 0, none⟩), .string ⟨#[c]⟩, .pointer (some ⟨h, i, none⟩)] w (LiQ w g h s cs i (litR c s k)) := by
  have HGH := Lib.hid hgh
  have HC0 := Lib.hid hc
  have HX0 := Lib.hid hx
  have HI := Lib.hid hi
  have HLR := Lib.hid (show litR c s k = if tk s k [c] = true then (match txtO s ((k + 1 : Nat) : Int) with | some p => .ok p | none => .error (k + 1)) else .ok (⟨#[]⟩, k) from rfl)
  obtain ⟨RES, hRES⟩ : ∃ r, litR c s k = r := ⟨_, rfl⟩
  rw [hRES] at HLR ⊢
  clear hRES hc hx hi
  obtain ⟨ts, hts⟩ : ∃ b, tk s k [c] = b := ⟨_, rfl⟩
  go_enter Tryd.func34, Tryd.ntmps34
  go_wp2_with fail
  refine (ptake_any s ⟨#[c]⟩ hs (by show 1 ≤ 100; decide) g k hk none w HC0.out).mono ?_
  rintro e w1 ⟨he, hp, hb⟩
  have he : e = .returned (.bool (tk s k [c])) := he
  rw [hts] at he
  subst he
  have hp : Pq w1 g s (tkN s k [c]) none := hp
  have HX1 := Lib.hid (HX0.out.but hb (fun e => HGH.out e.symm))
  have HB1 := Lib.hid (hb.mono (T := fun j => j = g ∨ j = h) (fun j _ e => .inl e))
  clear hb HC0 HX0
  cases ts with
  | false =>
    rw [tk_not hts] at hp
    have HE := Lib.hid (show RES = .ok (⟨#[]⟩, k) from by rw [HLR.out, if_neg (by rw [hts]; decide)])
    have HP := Lib.hid hp
    clear hp hts
    go_wp2
    first | go_ret | (refine bodyPost_ret rfl rfl ?_)
    have he := HE.out
    subst he
    refine ⟨⟨rfl, HP.out, ?_⟩, HB1.out⟩
    show Own w1 h 38 (cs.set i (.string ⟨#[]⟩))
    rw [set_id HI.out]
    exact HX1.out
  | true =>
    rw [tk_yes hts] at hp
    have hk1 := tk_size hts hk
    have hp : Pq w1 g s (k + 1) none := hp
    have hk1 : k + 1 ≤ s.size := hk1
    rw [if_pos hts] at HLR
    clear hts
    obtain ⟨j, hj⟩ : ∃ j, k + 1 = j := ⟨_, rfl⟩
    rw [hj] at HLR hp hk1
    clear hj
    have HP1 := Lib.hid hp
    obtain ⟨o, ho⟩ : ∃ o, txtO s ((j : Nat) : Int) = o := ⟨_, rfl⟩
    have HO := Lib.hid ho
    rw [ho] at HLR
    have HRT := Lib.hid (fun W => readtext_any s hs (j : Int) W)
    rw [ho] at HRT
    obtain ⟨c0, c1, hg, -⟩ := HP1.out.at_
    clear ho hp
    go_upto_region 3 with fail
    have cr0 := cell_regrown c0
    have cr1 := cell_regrown c1
    have HRT := Lib.hid (fun (d : Nat) (os : Array Obj) => show Calls Tryd.prog 50 #[.string s, .int .i64 (j : Int)] (grow (redrawn w1 d) os) (fun e w' => e = .returned (txtT o) ∧ Below (grow (redrawn w1 d) os).heap.size (grow (redrawn w1 d) os) w') from HRT.out _)
    refine wp_region_quiet_below (by kernel_rfl) (by kernel_rfl) ?_
    cases o with
    | none =>
      have HRT := Lib.hid (fun (d : Nat) (os : Array Obj) => show Calls Tryd.prog 50 #[.string s, .int .i64 (j : Int)] (grow (redrawn w1 d) os) (fun e w' => e = .returned (.tuple #[.string ⟨#[]⟩, .int .i64 0, .bool false]) ∧ Below (grow (redrawn w1 d) os).heap.size (grow (redrawn w1 d) os) w') from HRT.out d os)
      have HE := Lib.hid (show RES = .error j from HLR.out)
      repeat (go_big_quiet_step (first | (go_at_call 50; with_reducible exact Calls.regrown_of (HRT.out _ _))))
      refine wpQuiet_nil ?_
      intro _ hw'
      obtain ⟨⟨dq, osq⟩, hw''⟩ := hw'
      subst hw''
      have hbl := below_regrown w1 dq osq
      have HP2 := Lib.hid (show Pq (grow (redrawn w1 dq) osq) g s j none from HP1.out.under hbl HP1.out.lt)
      have HX2 := Lib.hid (HX1.out.under hbl HX1.out.lt)
      have HB2 := Lib.hid (HB1.out.then_below hbl)
      clear hbl cr0 cr1 c0 c1 hg HP1 HX1 HB1 HRT
      generalize grow (redrawn w1 dq) osq = w2 at *
      go_wp2_with fail
      refine (qstop_any s 2 g j none w2 HP2.out).mono ?_
      rintro e w7 ⟨rfl, hp, hb⟩
      have HX7 := Lib.hid (HX2.out.but hb (fun e => HGH.out e.symm))
      have HP7 := Lib.hid hp
      have HB7 := Lib.hid (HB2.out.trans hb (fun j _ e => .inl e))
      clear hp hb
      go_wp2
      first | go_ret | (refine bodyPost_ret rfl rfl ?_)
      have he := HE.out
      subst he
      exact ⟨⟨rfl, HP7.out, HX7.out⟩, HB7.out⟩
    | some p =>
      obtain ⟨u, m⟩ := p
      have HRT := Lib.hid (fun (d : Nat) (os : Array Obj) => show Calls Tryd.prog 50 #[.string s, .int .i64 (j : Int)] (grow (redrawn w1 d) os) (fun e w' => e = .returned (.tuple #[.string u, .int .i64 (m : Int), .bool true]) ∧ Below (grow (redrawn w1 d) os).heap.size (grow (redrawn w1 d) os) w') from HRT.out d os)
      have HE := Lib.hid (show RES = .ok (u, m) from HLR.out)
      repeat (go_big_quiet_step (first | (go_at_call 50; with_reducible exact Calls.regrown_of (HRT.out _ _))))
      refine wpQuiet_nil ?_
      intro _ hw'
      obtain ⟨⟨dq, osq⟩, hw''⟩ := hw'
      subst hw''
      have hbl := below_regrown w1 dq osq
      have HP2 := Lib.hid (show Pq (grow (redrawn w1 dq) osq) g s j none from HP1.out.under hbl HP1.out.lt)
      have HX2 := Lib.hid (HX1.out.under hbl HX1.out.lt)
      have HB2 := Lib.hid (HB1.out.then_below hbl)
      clear hbl cr0 cr1 c0 c1 hg HP1 HX1 HB1 HRT
      generalize grow (redrawn w1 dq) osq = w2 at *
      have xi : w2.cell? ⟨h, i, none⟩ = some (.string ⟨#[]⟩) := (HX2.out.cell i).trans HI.out
      have xf : w2.frozen? ⟨h, i, none⟩ = false := HX2.out.thaw i
      have xl := HX2.out.lt
      have hb1 := But.put w2 h i (.string u)
      have hp1 := HP2.out.but hb1 (fun e => HGH.out e)
      obtain ⟨-, c1, hg, f1, -⟩ := HP2.out.at_
      obtain ⟨-, c1', hg', f1', -⟩ := hp1.at_
      go_wp2
      first | go_ret | (refine bodyPost_ret rfl rfl ?_)
      have he := HE.out
      subst he
      have hb2 := But.put (w2.setCell ⟨h, i, none⟩ (.string u)) g 1 (.int .i64 (m : Int))
      exact ⟨⟨rfl, hp1.go m, (HX2.out.put i (.string u)).but hb2 (fun e => HGH.out e.symm)⟩, (HB2.out.trans hb1 (fun j _ e => .inr e)).trans hb2 (fun j _ e => .inl e)⟩
end Go.Proofs.YtialpofiagiclaaDoor
