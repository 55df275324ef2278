/- The program's query parser: a path. -/
import Derived.Test.YtialpofiagiclaaDoorQpE
import Derived.Test.YtialpofiagiclaaDoorQryP
namespace Go.Proofs.YtialpofiagiclaaDoor
set_option linter.unusedVariables false
set_option maxRecDepth 1000000
open Go.RowKit Go.Sort

/-- A path from k on, behind the steps L. -/
def pthF (s : ByteArray) : Nat → Nat → List Hp → Except (Int × Nat) (List Hp × Nat)
  | 0, _, _ => .error (0, 0)
  | f + 1, k, L => if L.length = 12 then .error (3, k) else match hopR s k with
    | .error e => .error (2, e)
    | .ok (x, m) => if m = s.size ∨ tk s m [124] = true then .ok (L ++ [x], m) else pthF s f m (L ++ [x])
def goP (s : ByteArray) (k : Nat) : Bool := decide (k < s.size) && !(byt s k == 124)
theorem tk_one (s : ByteArray) (k : Nat) (c : UInt8) : tk s k [c] = (decide (k < s.size) && byt s k == (c.toNat : Int)) := by
  unfold tk
  by_cases hk : k < s.size
  · have hk' : k < s.data.toList.length := by simpa using hk
    have hb : byt s k = ((s.data.toList[k]).toNat : Int) := by
      unfold byt
      rw [List.getD_eq_getElem?_getD, List.getElem?_eq_getElem hk']; rfl
    rw [List.drop_eq_getElem_cons hk', decide_eq_true hk, Bool.true_and, hb]
    show (c == s.data.toList[k] && true) = _
    rw [Bool.and_true]
    apply Bool.eq_iff_iff.2
    rw [beq_iff_eq, beq_iff_eq]
    constructor
    · rintro rfl; rfl
    · intro h
      have h : (s.data.toList[k]).toNat = c.toNat := by omega
      exact (UInt8.toNat_inj.1 h).symm
  · rw [decide_eq_false hk, Bool.false_and, List.drop_of_length_le (by simpa using hk)]
    rfl
theorem goP_not {s : ByteArray} {k : Nat} (hk : k ≤ s.size) : goP s k = false ↔ (k = s.size ∨ tk s k [124] = true) := by
  rw [tk_one]
  unfold goP
  by_cases h : k < s.size
  · rw [decide_eq_true h, Bool.true_and, Bool.true_and]
    have : ((124 : UInt8).toNat : Int) = 124 := rfl
    rw [this]
    constructor
    · intro h2; exact .inr (by simpa using h2)
    · rintro (h2 | h2)
      · omega
      · simpa using h2
  · rw [decide_eq_false h, Bool.false_and, Bool.false_and]
    constructor
    · intro _; exact .inl (by omega)
    · intro _; rfl
/-- How the path stands at the loop's head. -/
def PtS (s : ByteArray) (RES : Except (Int × Nat) (List Hp × Nat)) (f k : Nat) (L : List Hp) : Prop := if (L.isEmpty || goP s k) = true then RES = pthF s f k L else RES = .ok (L, k)
theorem PtS.step {s : ByteArray} {RES : Except (Int × Nat) (List Hp × Nat)} {f k m : Nat} {L : List Hp} {x : Hp} (hm : m ≤ s.size) (h : RES = pthF s (f + 1) k L) (hL : L.length ≠ 12) (hh : hopR s k = .ok (x, m)) : PtS s RES f m (L ++ [x]) := by
  have h1 : pthF s (f + 1) k L = if m = s.size ∨ tk s m [124] = true then .ok (L ++ [x], m) else pthF s f m (L ++ [x]) := by
    conv => lhs; unfold pthF
    rw [if_neg hL, hh]
  unfold PtS
  have h2 : (L ++ [x]).isEmpty = false := by simp
  rw [h2, Bool.false_or]
  cases hg : goP s m with
  | true =>
    rw [if_pos rfl, h, h1, if_neg]
    intro h3
    rw [(goP_not hm).2 h3] at hg
    cases hg
  | false =>
    rw [if_neg (by decide), h, h1, if_pos ((goP_not hm).1 hg)]
/-- What a path leaves. -/
def PaQ (w : World) (g : Nat) (s : ByteArray) (R : Except (Int × Nat) (List Hp × Nat)) (e : Ending) (w' : World) : Prop :=
  (match R with
    | .ok p => ∃ (po : Option Addr) (pc : Nat) (T : Nat → Prop), e = .returned (.tuple #[.slice po p.1.length pc, .bool true]) ∧ Pq w' g s p.2 none ∧ Win T 38 6 w' (.slice po p.1.length pc) p.1.length (p.1.flatMap hprow) ∧ ∀ b, T b → w.heap.size ≤ b ∧ b < w'.heap.size
    | .error c => e = .returned (.tuple #[.slice none 0 0, .bool false]) ∧ Pq w' g s c.2 (some c)) ∧ But (fun j => j = g) w w'
theorem hop_err1 {s : ByteArray} {k : Nat} (h : (axR s k).1 = 0) : hopR s k = .error k := by unfold hopR; rw [if_pos h]
theorem hop_q {s : ByteArray} {k : Nat} (h : ¬ (axR s k).1 = 0) : hopR s k = match whR s (axR s k).2 with
  | none => .error (axR s k).2
  | some (kd, nm, k2) => match litR 61 s k2 with
    | .error e => .error e
    | .ok (is, k3) => match litR 126 s k3 with
      | .error e => .error e
      | .ok (has, k4) => match nthR s k4 with
        | .error e => .error e
        | .ok (n, k5) => .ok (⟨(axR s k).1, kd, nm, is, has, n⟩, k5) := by
  conv => lhs; unfold hopR
  rw [if_neg h]
  rfl
theorem But.gh {g h : Nat} {w wr w' : World} (h1 : But (fun j => j = g) w wr) (h2 : But (fun j => j = g ∨ j = h) wr w') (hh : w.heap.size ≤ h) : But (fun j => j = g) w w' :=
  h1.trans h2 (fun j hj e => by rcases e with e | e; exact e; omega)
set_option maxRecDepth 1000000 in
set_option maxHeartbeats 6400000 in
theorem ppath_any (s : ByteArray) (hs : s.size ≤ 1000000) (g k f : Nat) (hk : k ≤ s.size) (hf : s.size < f + k) (w : World) (hc : Pq w g s k none) :
    Calls Tryd.prog 17 #[.pointer (some ⟨g, 0, none⟩)] w (PaQ w g s (pthF s f k [])) := by
  have HC0 := Lib.hid hc
  obtain ⟨RES, hRES⟩ : ∃ r, pthF s f k [] = r := ⟨_, rfl⟩
  have HRS := Lib.hid (show PtS s RES f k [] from by unfold PtS; rw [if_pos (show (([] : List Hp).isEmpty || goP s k) = true from rfl)]; exact hRES.symm)
  rw [hRES]
  obtain ⟨B0, hB0⟩ : ∃ B, w.heap.size = B := ⟨_, rfl⟩
  have HB0 := Lib.hid hB0
  have HGL := Lib.hid hc.lt
  clear hRES hc hB0
  go_enter Tryd.func17, Tryd.ntmps17
  go_wp2_with fail
  go_loopw [4, 5] (fun v4 v5 wr => ∃ (L : List Hp) (k f : Nat) (po : Option Addr) (pc : Nat) (T : Nat → Prop) (vv : Value), v4 = .slice po L.length pc ∧ vv = v5 ∧ k ≤ s.size ∧ s.size < f + k ∧ L.length ≤ 12 ∧ Hid (PtS s RES f k L) ∧ Hid (Pq wr g s k none) ∧ Hid (Win T 38 6 wr (.slice po L.length pc) L.length (L.flatMap hprow)) ∧ Hid (∀ b, T b → w.heap.size ≤ b ∧ b < wr.heap.size) ∧ Hid (But (fun j => j = g) w wr))
    (fun _ _ wr => s.size + 1 - (intOf ((wr.cell? ⟨g, 1, none⟩).getD (.bool false))).toNat)
  case atStart => exact ⟨[], k, f, none, 0, fun _ => False, _, rfl, rfl, hk, hf, by simp, HRS, HC0, Lib.hid (Win.nil _ _ _ _), Lib.hid (fun b h => h.elim), Lib.hid (But.refl _ _)⟩
  case round =>
    clear HRS HC0 hk hf k f
    obtain ⟨L, k, f, po, pc, T, vv, rfl, hvv, hk, hf, hL, HRS, HP, HW, HT, HB⟩ := hrel
    subst hvv
    have HQ1 := Lib.hid HP.out.at_.2.1
    obtain ⟨l, hl⟩ : ∃ l, L.length = l := ⟨_, rfl⟩
    have HL := Lib.hid hl
    rw [hl] at hL HW ⊢
    obtain ⟨B, hB⟩ : ∃ B, (L.isEmpty || goP s k) = B := ⟨_, rfl⟩
    have HBV := Lib.hid hB
    have hle : L.isEmpty = decide (l = 0) := by rw [← hl]; cases L <;> simp
    rw [hle] at HBV
    clear hB hl hle
    obtain ⟨c0, c1, hg, -⟩ := HP.out.at_
    go_upto_region 2 with fail
    go_cut [32] (fun c wx => c = .bool B ∧ ∃ n, wx = wr.drewN n)
    case first =>
      by_cases a0 : l = 0
      · subst a0
        have hbv : true = B := by rw [← HBV.out]; rfl
        subst hbv
        go_quiet (fail)
        go_wp2_with fail
        go_meet
        exact ⟨rfl, nq, rfl⟩
      · have d0 : ((l : Int) == 0) = false := by simp; omega
        have d0' : decide ((l : Int) = 0) = false := decide_eq_false (by omega)
        have hbv := HBV.out
        rw [decide_eq_false a0, Bool.false_or] at hbv
        unfold goP at hbv
        by_cases a1 : k < s.size
        · have d1 : decide ((k : Int) < (s.size : Int)) = true := decide_eq_true (by omega)
          have d1' : decide (k < s.size) = true := decide_eq_true a1
          rw [d1', Bool.true_and, byt_get a1] at hbv
          obtain ⟨z, hz⟩ : ∃ z, ((s[k].toNat : Int) == 124) = z := ⟨_, rfl⟩
          rw [hz] at hbv
          have HZ := Lib.hid hz
          cases z with
          | true =>
            have hbv : false = B := hbv
            subst hbv
            have e9 : (s[k].toNat : Int) = 124 := by simpa using HZ.out
            have e8 : decide ((s[k].toNat : Int) = 124) = true := decide_eq_true e9
            have e7 : ((s[k].toNat : Int) != 124) = false := by rw [e9]; rfl
            clear hz e9
            go_quiet (fail)
            go_wp2_with fail
            go_meet
            exact ⟨by first | rfl | rw [e7], nq, rfl⟩
          | false =>
            have hbv : true = B := hbv
            subst hbv
            have e9 : ¬ (s[k].toNat : Int) = 124 := by simpa using HZ.out
            have e8 : decide ((s[k].toNat : Int) = 124) = false := decide_eq_false e9
            have e7 : ((s[k].toNat : Int) != 124) = true := by simpa using e9
            clear hz
            go_quiet (fail)
            go_wp2_with fail
            go_meet
            exact ⟨by first | rfl | rw [e7], nq, rfl⟩
        · have d1 : decide ((k : Int) < (s.size : Int)) = false := decide_eq_false (by omega)
          have d1' : decide (k < s.size) = false := decide_eq_false a1
          rw [d1', Bool.false_and] at hbv
          subst hbv
          go_quiet (fail)
          go_wp2_with fail
          go_meet
          exact ⟨rfl, nq, rfl⟩
    case rest =>
      obtain ⟨rfl, nr, rfl⟩ := hcut
      have HP5 := Lib.hid (show Pq (wr.drewN nr) g s k none from HP.out.on_drewN nr)
      have HW5 := Lib.hid (HW.out.below (below_drewN (Below.refl _ _) nr))
      have HB5 := Lib.hid (HB.out.drewN nr)
      have HT5 := Lib.hid (show ∀ b, T b → w.heap.size ≤ b ∧ b < (wr.drewN nr).heap.size from HT.out)
      have HRS5 := Lib.hid (show if (L.isEmpty || goP s k) = true then RES = pthF s f k L else RES = .ok (L, k) from HRS.out)
      have hle : (L.isEmpty || goP s k) = B := by rw [← HBV.out]; congr 1; rw [← HL.out]; cases L <;> simp
      rw [hle] at HRS5
      clear HP HW HB HT HRS c0 c1 hg hle
      generalize wr.drewN nr = w5 at *
      cases B with
      | false =>
        have HE := Lib.hid (show RES = .ok (L, k) from by have := HRS5.out; rwa [if_neg (by decide)] at this)
        go_wp2
        first | go_ret2 | go_ret | (refine bodyPost_ret rfl rfl ?_)
        have he := HE.out
        subst he
        refine ⟨⟨po, pc, T, ?_, HP5.out, ?_, HT5.out⟩, HB5.out⟩
        · show _ = Ending.returned (.tuple #[.slice po L.length pc, .bool true])
          rw [HL.out]
          rfl
        · show Win T 38 6 w5 (.slice po L.length pc) L.length (L.flatMap hprow)
          rw [HL.out]; exact HW5.out
      | true =>
        obtain ⟨f, rfl⟩ : ∃ q, f = q + 1 := ⟨f - 1, by omega⟩
        have HE := Lib.hid (show RES = pthF s (f + 1) k L from by have := HRS5.out; rwa [if_pos rfl] at this)
        have HE1 := Lib.hid (show RES = if l = 12 then .error (3, k) else match hopR s k with
          | .error e => .error (2, e)
          | .ok (x, m) => if m = s.size ∨ tk s m [124] = true then .ok (L ++ [x], m) else pthF s f m (L ++ [x]) from by rw [HE.out, ← HL.out]; rfl)
        by_cases h12 : l = 12
        · subst h12
          have HE2 := Lib.hid (show RES = .error (3, k) from by rw [HE1.out, if_pos rfl])
          go_wp2_with fail
          refine (qstop_any s 3 g k none w5 HP5.out).mono ?_
          rintro e w7 ⟨rfl, hp, hb⟩
          have HP7 := Lib.hid hp
          have HB7 := Lib.hid (HB5.out.trans hb (fun j _ e => e))
          clear hp hb
          go_wp2
          first | go_ret2 | go_ret | (refine bodyPost_ret rfl rfl ?_)
          have he := HE2.out
          subst he
          exact ⟨⟨rfl, HP7.out⟩, HB7.out⟩
        · have d12 : ((l : Int) == 12) = false := by simp; omega
          have d12' : decide ((l : Int) = 12) = false := decide_eq_false (by omega)
          have HL12 := Lib.hid h12
          rw [if_neg h12] at HE1
          have hbx : Below w5.heap.size w5 (w5.alloc (.cells #[.int .i64 0, .int .i64 0, .string ⟨#[]⟩, .string ⟨#[]⟩, .string ⟨#[]⟩, .int .i64 0] 38)) := (Below.refl _ _).alloc (Nat.le_refl _) _
          have HX0 := Lib.hid (show Hq (w5.alloc (.cells #[.int .i64 0, .int .i64 0, .string ⟨#[]⟩, .string ⟨#[]⟩, .string ⟨#[]⟩, .int .i64 0] 38)) w5.heap.size ⟨0, 0, ⟨#[]⟩, ⟨#[]⟩, ⟨#[]⟩, 0⟩ from Own.fresh w5 38 [.int .i64 0, .int .i64 0, .string ⟨#[]⟩, .string ⟨#[]⟩, .string ⟨#[]⟩, .int .i64 0])
          have HP6 := Lib.hid (show Pq (w5.alloc (.cells #[.int .i64 0, .int .i64 0, .string ⟨#[]⟩, .string ⟨#[]⟩, .string ⟨#[]⟩, .int .i64 0] 38)) g s k none from HP5.out.under hbx HP5.out.lt)
          have HW6 := Lib.hid (HW5.out.below hbx)
          have HB6 := Lib.hid (HB5.out.then_below hbx)
          have HT6 := Lib.hid (show ∀ b, T b → w.heap.size ≤ b ∧ b < w5.heap.size from HT5.out)
          obtain ⟨h, hh⟩ : ∃ h, w5.heap.size = h := ⟨_, rfl⟩
          have HH := Lib.hid (show w.heap.size ≤ h from by rw [← hh]; exact HB5.out.size)
          have HGH := Lib.hid (show g ≠ h from by rw [← hh]; have := HP5.out.lt; omega)
          rw [hh] at HX0 HT6
          go_upto_region 6 with fail
          clear hbx HP5 HW5 HB5 HT5
          generalize w5.alloc (.cells #[.int .i64 0, .int .i64 0, .string ⟨#[]⟩, .string ⟨#[]⟩, .string ⟨#[]⟩, .int .i64 0] 38) = w6 at *
          try rw [hh]
          clear hh
          go_wp2_with fail
          refine (paxis_any s hs g h k HGH.out hk _ w6 HP6.out HX0.out).mono ?_
          rintro e w7 ⟨hq, hb7⟩
          have HB7 := Lib.hid (HB6.out.gh hb7 HH.out)
          have HW7 := Lib.hid (HW6.out.keep hb7 (fun b _ hb e => by have h1 := HT6.out b hb; rcases e with e | e; (have := HGL.out; have := HB0.out; omega); omega))
          by_cases hax : (axR s k).1 = 0
          · rw [if_pos hax] at hq
            obtain ⟨rfl, hp, hx⟩ := hq
            have HE2 := Lib.hid (show RES = .error (2, k) from by rw [HE1.out, hop_err1 hax])
            have HP7 := Lib.hid hp
            clear hp hx hb7
            go_wp2
            first | go_ret2 | go_ret | (refine bodyPost_ret rfl rfl ?_)
            have he := HE2.out
            subst he
            exact ⟨⟨rfl, HP7.out⟩, HB7.out⟩
          · rw [if_neg hax] at hq
            obtain ⟨rfl, hp, hx⟩ := hq
            have hE := HE1.out
            have hax2 := axR_bd s k hk
            rw [hop_q hax] at hE
            have hhk := hop_q hax
            obtain ⟨ax, hax1⟩ : ∃ z, (axR s k).1 = z := ⟨_, rfl⟩
            obtain ⟨k1, hk1⟩ : ∃ z, (axR s k).2 = z := ⟨_, rfl⟩
            rw [hax1, hk1] at hE hhk
            have HHK := Lib.hid hhk
            rw [hk1] at hp hax2
            rw [hax1] at hx
            have hkk1 : k1 ≤ s.size := hax2.2.1
            have HE2 := Lib.hid hE
            have HP7 := Lib.hid hp
            have HX7 := Lib.hid hx
            clear hE hp hx hb7 hax hax2 hax1 hk1 HE1 HP6 HX0 HW6 HB6 hhk
            go_wp2_with fail
            refine (pwhat_any s hs g h k1 HGH.out hkk1 ax w7 HP7.out HX7.out).mono ?_
            rintro e w8 ⟨hq, hb8⟩
            have HB8 := Lib.hid (HB7.out.gh hb8 HH.out)
            have HW8 := Lib.hid (HW7.out.keep hb8 (fun b _ hb e => by have h1 := HT6.out b hb; rcases e with e | e; (have := HGL.out; have := HB0.out; omega); omega))
            cases hwh : whR s k1 with
            | none =>
              rw [hwh] at hq
              obtain ⟨rfl, hp, -⟩ := hq
              have HE3 := Lib.hid (show RES = .error (2, k1) from by have := HE2.out; rw [hwh] at this; exact this)
              have HP8 := Lib.hid hp
              clear hp hb8
              go_wp2
              first | go_ret2 | go_ret | (refine bodyPost_ret rfl rfl ?_)
              have he := HE3.out
              subst he
              exact ⟨⟨rfl, HP8.out⟩, HB8.out⟩
            | some p =>
              obtain ⟨kd, nm, k2⟩ := p
              rw [hwh] at hq
              obtain ⟨rfl, hp, hx⟩ := hq
              have hE := HE2.out
              rw [hwh] at hE
              have hkk2 : k2 ≤ s.size := (whR_bd hkk1 hwh).2.1
              have hp : Pq w8 g s k2 none := hp
              have hx : Own w8 h 38 (hprow ⟨ax, kd, nm, ⟨#[]⟩, ⟨#[]⟩, 0⟩) := hx
              have HE3 := Lib.hid (show RES = match (match litR 61 s k2 with
                | .error e => .error e
                | .ok (is, k3) => match litR 126 s k3 with
                  | .error e => .error e
                  | .ok (has, k4) => match nthR s k4 with
                    | .error e => .error e
                    | .ok (n, k5) => .ok (⟨ax, kd, nm, is, has, n⟩, k5) : Except Nat (Hp × Nat)) with
                | .error e => .error (2, e)
                | .ok (x, m) => if m = s.size ∨ tk s m [124] = true then .ok (L ++ [x], m) else pthF s f m (L ++ [x]) from hE)
              have HP8 := Lib.hid hp
              have HX8 := Lib.hid hx
              have HWH := Lib.hid hwh
              clear hE hp hx hb8 hwh HE2 HP7 HX7 HW7 HB7
              go_wp2_with fail
              refine (plit_any 61 s hs g h k2 3 HGH.out hkk2 _ rfl w8 HP8.out HX8.out).mono ?_
              rintro e w9 ⟨hq, hb9⟩
              have HB9 := Lib.hid (HB8.out.gh hb9 HH.out)
              have HW9 := Lib.hid (HW8.out.keep hb9 (fun b _ hb e => by have h1 := HT6.out b hb; rcases e with e | e; (have := HGL.out; have := HB0.out; omega); omega))
              have hlb := litR_bd (c := 61) hkk2
              cases hl1 : litR 61 s k2 with
              | error a =>
                rw [hl1] at hq
                obtain ⟨rfl, hp, -⟩ := hq
                have HE4 := Lib.hid (show RES = .error (2, a) from by have := HE3.out; rw [hl1] at this; exact this)
                have HP9 := Lib.hid hp
                clear hp hb9
                go_wp2
                first | go_ret2 | go_ret | (refine bodyPost_ret rfl rfl ?_)
                have he := HE4.out
                subst he
                exact ⟨⟨rfl, HP9.out⟩, HB9.out⟩
              | ok p =>
                obtain ⟨is, k3⟩ := p
                rw [hl1] at hq
                obtain ⟨rfl, hp, hx⟩ := hq
                have hE := HE3.out
                rw [hl1] at hE
                have hkk3 : k3 ≤ s.size := (hlb.1 is k3 hl1).2.1
                have hp : Pq w9 g s k3 none := hp
                have hx : Own w9 h 38 (hprow ⟨ax, kd, nm, is, ⟨#[]⟩, 0⟩) := hx
                have HE4 := Lib.hid (show RES = match (match litR 126 s k3 with
                  | .error e => .error e
                  | .ok (has, k4) => match nthR s k4 with
                    | .error e => .error e
                    | .ok (n, k5) => .ok (⟨ax, kd, nm, is, has, n⟩, k5) : Except Nat (Hp × Nat)) with
                  | .error e => .error (2, e)
                  | .ok (x, m) => if m = s.size ∨ tk s m [124] = true then .ok (L ++ [x], m) else pthF s f m (L ++ [x]) from hE)
                have HP9 := Lib.hid hp
                have HX9 := Lib.hid hx
                have HL61 := Lib.hid hl1
                clear hE hp hx hb9 hl1 hlb HE3 HP8 HX8 HW8 HB8
                go_wp2_with fail
                refine (plit_any 126 s hs g h k3 4 HGH.out hkk3 _ rfl w9 HP9.out HX9.out).mono ?_
                rintro e wA ⟨hq, hbA⟩
                have HBA := Lib.hid (HB9.out.gh hbA HH.out)
                have HWA := Lib.hid (HW9.out.keep hbA (fun b _ hb e => by have h1 := HT6.out b hb; rcases e with e | e; (have := HGL.out; have := HB0.out; omega); omega))
                have hlb := litR_bd (c := 126) hkk3
                cases hl1 : litR 126 s k3 with
                | error a =>
                  rw [hl1] at hq
                  obtain ⟨rfl, hp, -⟩ := hq
                  have HE5 := Lib.hid (show RES = .error (2, a) from by have := HE4.out; rw [hl1] at this; exact this)
                  have HPA := Lib.hid hp
                  clear hp hbA
                  go_wp2
                  first | go_ret2 | go_ret | (refine bodyPost_ret rfl rfl ?_)
                  have he := HE5.out
                  subst he
                  exact ⟨⟨rfl, HPA.out⟩, HBA.out⟩
                | ok p =>
                  obtain ⟨has, k4⟩ := p
                  rw [hl1] at hq
                  obtain ⟨rfl, hp, hx⟩ := hq
                  have hE := HE4.out
                  rw [hl1] at hE
                  have hkk4 : k4 ≤ s.size := (hlb.1 has k4 hl1).2.1
                  have hp : Pq wA g s k4 none := hp
                  have hx : Own wA h 38 (hprow ⟨ax, kd, nm, is, has, 0⟩) := hx
                  have HE5 := Lib.hid (show RES = match (match nthR s k4 with
                      | .error e => .error e
                      | .ok (n, k5) => .ok (⟨ax, kd, nm, is, has, n⟩, k5) : Except Nat (Hp × Nat)) with
                    | .error e => .error (2, e)
                    | .ok (x, m) => if m = s.size ∨ tk s m [124] = true then .ok (L ++ [x], m) else pthF s f m (L ++ [x]) from hE)
                  have HPA := Lib.hid hp
                  have HXA := Lib.hid hx
                  have HL126 := Lib.hid hl1
                  clear hE hp hx hbA hl1 hlb HE4 HP9 HX9 HW9 HB9
                  go_wp2_with fail
                  refine (pnth_any s hs g h k4 HGH.out hkk4 ⟨ax, kd, nm, is, has, 0⟩ rfl wA HPA.out HXA.out).mono ?_
                  rintro e wB ⟨hq, hbB⟩
                  have HBB := Lib.hid (HBA.out.gh hbB HH.out)
                  have HWB := Lib.hid (HWA.out.keep hbB (fun b _ hb e => by have h1 := HT6.out b hb; rcases e with e | e; (have := HGL.out; have := HB0.out; omega); omega))
                  have hnb := nthR_bd hkk4
                  cases hl1 : nthR s k4 with
                  | error a =>
                    rw [hl1] at hq
                    obtain ⟨rfl, hp, -⟩ := hq
                    have HE6 := Lib.hid (show RES = .error (2, a) from by have := HE5.out; rw [hl1] at this; exact this)
                    have HPB := Lib.hid hp
                    clear hp hbB
                    go_wp2
                    first | go_ret2 | go_ret | (refine bodyPost_ret rfl rfl ?_)
                    have he := HE6.out
                    subst he
                    exact ⟨⟨rfl, HPB.out⟩, HBB.out⟩
                  | ok p =>
                    obtain ⟨n, m⟩ := p
                    rw [hl1] at hq
                    obtain ⟨rfl, hp, hx⟩ := hq
                    have hmm : m ≤ s.size := (hnb.1 n m hl1).2.1
                    have hp : Pq wB g s m none := hp
                    have hx : Own wB h 38 (hprow ⟨ax, kd, nm, is, has, n⟩) := hx
                    have hhop : hopR s k = .ok (⟨ax, kd, nm, is, has, n⟩, m) := by
                      have q := HHK.out
                      rw [HWH.out] at q
                      simp only [HL61.out, HL126.out, hl1] at q
                      exact q
                    have hkm := (hopR_bd hk).1 _ m hhop
                    have HKM := Lib.hid hkm.1
                    have HST := Lib.hid (PtS.step hmm HE.out (by rw [HL.out]; exact HL12.out) hhop)
                    have HPB := Lib.hid hp
                    have HXB := Lib.hid hx
                    clear hp hx hbB hl1 hnb HE5 HPA HXA HWA HBA hhop hkm
                    have x0 := HXB.out.cell 0
                    have x1 := HXB.out.cell 1
                    have x2 := HXB.out.cell 2
                    have x3 := HXB.out.cell 3
                    have x4 := HXB.out.cell 4
                    have x5 := HXB.out.cell 5
                    simp only [hprow, List.getElem?_cons_succ, List.getElem?_cons_zero] at x0 x1 x2 x3 x4 x5
                    have xl := HXB.out.lt
                    obtain ⟨i0, hi0, hi1, hi2, hi3⟩ := info_parts9 info_hop
                    have hbl : Below wB.heap.size wB (wB.alloc (.cells #[.int .i64 ax, .int .i64 kd, .string nm, .string is, .string has, .int .i64 n] 38)) := (Below.refl _ _).alloc (Nat.le_refl _) _
                    have HWC := Lib.hid (HWB.out.below hbl)
                    have HFN := Lib.hid (fresh_news wB 38 [.int .i64 ax, .int .i64 kd, .string nm, .string is, .string has, .int .i64 n])
                    have HCE := Lib.hid (show ∀ u ∈ ([.int .i64 ax, .int .i64 kd, .string nm, .string is, .string has, .int .i64 n] : List Value), u.oneCell' = true by intro u hu; simp at hu; rcases hu with rfl | rfl | rfl | rfl | rfl | rfl <;> rfl)
                    have HBL := Lib.hid hbl
                    clear hbl
                    go_wp2_with (first
                      | (at_builtin; refine wpList_append_win _ rfl _ _ 36 rfl T 38 i0 _ 6 72 Tryd.underlying36 hi0 hi1 hi2 hi3 rfl (by decide) _ l (L.flatMap hprow) rfl HWC.out ⟨wB.heap.size, 0, none⟩ 1 1 [.int .i64 ax, .int .i64 kd, .string nm, .string is, .string has, .int .i64 n] rfl rfl HFN.out HCE.out (by unfold maxLen; omega) (by omega) ?_))
                    intro vC wC hwC hbC
                    obtain ⟨po', pc', hvC, -, -, -⟩ := hwC.form
                    subst hvC
                    have hs1 := HBL.out.size
                    have hs2 := hbC.size
                    have HP9 := Lib.hid ((show Pq (wB.alloc (.cells #[.int .i64 ax, .int .i64 kd, .string nm, .string is, .string has, .int .i64 n] 38)) g s m none from HPB.out.under HBL.out HPB.out.lt).but hbC (fun hs => by have := (HT6.out g hs).1; have := HGL.out; have := HB0.out; omega))
                    have HB9 := Lib.hid ((HBB.out.then_below HBL.out).trans hbC (fun j hj hs => by have := (HT6.out j hs).1; omega))
                    have HW9 := Lib.hid (show Win (fun b => (T b ∨ wB.heap.size ≤ b) ∧ b < wC.heap.size) 38 6 wC (.slice po' (L ++ [(⟨ax, kd, nm, is, has, n⟩ : Hp)]).length pc') (L ++ [(⟨ax, kd, nm, is, has, n⟩ : Hp)]).length ((L ++ [(⟨ax, kd, nm, is, has, n⟩ : Hp)]).flatMap hprow) from by
                      have e1 : (L ++ [(⟨ax, kd, nm, is, has, n⟩ : Hp)]).length = l + 1 := by rw [List.length_append, HL.out]; rfl
                      have e2 : (L ++ [(⟨ax, kd, nm, is, has, n⟩ : Hp)]).flatMap hprow = L.flatMap hprow ++ [.int .i64 ax, .int .i64 kd, .string nm, .string is, .string has, .int .i64 n] := by rw [List.flatMap_append]; rfl
                      rw [e1, e2]
                      exact hwC.mono fun b hb hs => ⟨by rcases hs with hs | hs; exact .inl hs; exact .inr (by omega), hb⟩)
                    have HT9 := Lib.hid (show ∀ b, ((T b ∨ wB.heap.size ≤ b) ∧ b < wC.heap.size) → w.heap.size ≤ b ∧ b < wC.heap.size from fun b hb => ⟨by
                      rcases hb.1 with h1 | h1
                      · exact (HT6.out b h1).1
                      · have := HBB.out.size; omega, hb.2⟩)
                    have HLE := Lib.hid (show (L ++ [(⟨ax, kd, nm, is, has, n⟩ : Hp)]).length = l + 1 from by rw [List.length_append, HL.out]; rfl)
                    have HQ9 := Lib.hid HP9.out.at_.2.1
                    clear hwC hbC hs1 hs2 x0 x1 x2 x3 x4 x5 xl HWC HFN HCE HBL hi0 hi1 hi2 hi3
                    go_wp2
                    go_roundw
                    case rel => exact ⟨_, m, f, po', pc', _, _, by rw [HLE.out], rfl, hmm, by have := HKM.out; omega, by rw [HLE.out]; have := HL12.out; omega, HST, HP9, HW9, HT9, HB9⟩
                    case measure => rw [HQ9.out, HQ1.out]; simp [intOf]; have := HKM.out; omega
end Go.Proofs.YtialpofiagiclaaDoor
