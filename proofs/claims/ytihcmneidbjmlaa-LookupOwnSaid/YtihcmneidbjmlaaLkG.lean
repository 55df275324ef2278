/- The document's examples: what they are, and that they hold of the program. -/
import Derived.Test.YtihcmneidbjmlaaLkF
namespace Go.Proofs.Ytihcmneidbjmlaa
set_option linter.unusedVariables false
open Go.RowKit Go.Sort

theorem impL_len {L : List Tok} {nm : ByteArray} : ∀ (f : Nat) (im : List ByteArray) (k : Nat) (im' : List ByteArray) (k' : Nat), im.length ≤ 4 → impL L nm f im k = .ok (im', k') → im'.length ≤ 4
  | 0, im, k, im', k', h, e => by
    unfold impL at e
    injection e with e; injection e with e1 e2; subst e1; exact h
  | f + 1, im, k, im', k', h, e => by
    unfold impL at e
    split at e
    · split at e
      · cases e
      · rename_i h4
        cases hq : nmeO L (nm :: im) (k + 1) with
        | error x => simp [hq] at e
        | ok p =>
          obtain ⟨x, k1⟩ := p
          simp only [hq] at e
          cases hs : sgnO L [59] k1 with
          | error x => simp [hs] at e
          | ok k2 =>
            simp only [hs] at e
            exact impL_len f _ k2 im' k' (by rw [List.length_append]; show im.length + 1 ≤ 4; omega) e
    · injection e with e; injection e with e1 e2; subst e1; exact h
theorem rulL_len {L : List Tok} : ∀ (f : Nat) (R : List (ByteArray × Ex)) (k : Nat) (R' : List (ByteArray × Ex)), R.length ≤ 24 → rulL L f R k = .ok R' → R'.length ≤ 24
  | 0, R, k, R', h, e => by
    unfold rulL at e
    injection e with e; subst e; exact h
  | f + 1, R, k, R', h, e => by
    unfold rulL at e
    split at e
    · injection e with e; subst e; exact h
    · cases hq : nmeO L (R.map (·.1)) k with
      | error x => simp [hq] at e
      | ok p =>
        obtain ⟨x, k1⟩ := p
        simp only [hq] at e
        split at e
        · cases e
        · rename_i h24
          cases hb : bodO L k1 with
          | error x => simp [hb] at e
          | ok p =>
            obtain ⟨y, k2⟩ := p
            simp only [hb] at e
            exact rulL_len f _ k2 R' (by rw [List.length_append]; show R.length + 1 ≤ 24; omega) e
theorem hedO_len {L : List Tok} {m : Md} {k : Nat} (h : hedO L = .ok (m, k)) : m.im.length ≤ 4 := by
  rw [hedO_q] at h
  split at h
  · unfold thenQ at h
    split at h
    · cases h
    · rename_i x k1 hx
      split at h
      · cases h
      · rename_i k2 _
        have h : hdT L x (impL L x (L.length + 1) [] k2) = .ok (m, k) := h
        cases hi : impL L x (L.length + 1) [] k2 with
        | error e => rw [hi] at h; cases h
        | ok p =>
          obtain ⟨im, k3⟩ := p
          rw [hi] at h
          have hl := impL_len _ _ _ _ _ (by simp) hi
          have h : watO L x im k3 = .ok (m, k) := h
          rw [watO_q] at h
          split at h
          · cases hb : bodO L (k3 + 1) with
            | error e => rw [hb] at h; cases h
            | ok p =>
              obtain ⟨y, k4⟩ := p
              rw [hb] at h
              injection h with h; injection h with h1 h2; subst h1; exact hl
          · injection h with h; injection h with h1 h2; subst h1; exact hl
  · cases h
theorem modO_len {s : ByteArray} {m : Md} (h : modO s = .ok m) : m.im.length ≤ 4 ∧ m.ru.length ≤ 24 := by
  unfold modO at h
  split at h
  · cases h
  · rename_i L _
    rw [modL_q] at h
    cases hh : hedO L with
    | error e => rw [hh] at h; cases h
    | ok p =>
      obtain ⟨m0, k⟩ := p
      rw [hh] at h
      have h : mdT m0 (rulL L (L.length + 1) [] k) = .ok m := h
      cases hr : rulL L (L.length + 1) [] k with
      | error e => rw [hr] at h; cases h
      | ok R =>
        rw [hr] at h
        injection h with h
        subst h
        have h1 := hedO_len hh
        have h2 := rulL_len _ _ _ _ (by simp) hr
        exact ⟨h1, h2⟩
theorem prsF_few {big : Bool} : ∀ {l : List ByteArray} {ML : List Md}, prsF big l = some ML → ML.length = l.length ∧ (big = true → l = []) ∧ ∀ m ∈ ML, m.im.length ≤ 4 ∧ m.ru.length ≤ 24
  | [], ML, h => by
    unfold prsF at h
    injection h with h; subst h
    exact ⟨rfl, fun _ => rfl, fun m hm => absurd hm List.not_mem_nil⟩
  | t :: r, ML, h => by
    unfold prsF at h
    split at h
    · cases h
    · rename_i hb
      cases hm : modO t with
      | error e => simp [hm] at h
      | ok m =>
        simp only [hm] at h
        cases hr : prsF big r with
        | none => simp [hr] at h
        | some MR =>
          simp [hr] at h
          subst h
          obtain ⟨h1, h2, h3⟩ := prsF_few hr
          refine ⟨by simp [h1], fun hbig => by simp [hbig] at hb, fun y hy => ?_⟩
          rcases List.mem_cons.1 hy with rfl | hy
          · exact modO_len hm
          · exact h3 y hy
theorem prsO_few {l : List ByteArray} {ML : List Md} (h : prsO l = some ML) : Few ML ∧ ML.length ≤ 5 := by
  obtain ⟨h1, h2, h3⟩ := prsF_few h
  have h5 : ML.length ≤ 5 := by
    by_cases hb : 5 < l.length
    · have := h2 (decide_eq_true hb); rw [this] at hb; simp at hb
    · omega
  exact ⟨⟨by omega, fun m hm => by have := h3 m hm; omega⟩, h5⟩
def miniL : List ByteArray := [⟨#[109, 111, 100, 117, 108, 101, 32, 109, 59, 10, 105, 109, 112, 111, 114, 116, 32, 110, 59, 10, 119, 97, 116, 101, 114, 32, 61, 32, 34, 35, 34, 32, 40, 33, 34, 35, 34, 32, 46, 41, 42, 32, 34, 35, 34, 59, 10, 109, 97, 105, 110, 32, 61, 32, 40, 126, 99, 97, 108, 108, 126, 41, 42, 59, 10, 99, 97, 108, 108, 32, 61, 32, 110, 97, 109, 101, 58, 110, 58, 58, 105, 100, 32, 34, 40, 34, 32, 40, 33, 34, 41, 34, 32, 46, 41, 42, 32, 34, 41, 34, 59, 10]⟩, ⟨#[109, 111, 100, 117, 108, 101, 32, 110, 59, 10, 105, 100, 32, 61, 32, 91, 97, 45, 122, 93, 43, 59, 10]⟩]
def miniM : List Md := (prsO miniL).getD []
theorem mini_ok : prsO miniL = some miniM := by kernel_rfl
theorem mini_len : miniM.length = 2 := by kernel_rfl
def mini0 : Md := miniM.getD 0 md0
theorem mini_0 : miniM[0]? = some mini0 := by kernel_rfl
theorem mini_r1 : resO miniM 0 ⟨#[99, 97, 108, 108]⟩ = (0, 1, true) := by kernel_rfl
theorem mini_r2 : resO miniM 0 ⟨#[110, 58, 58, 105, 100]⟩ = (1, 0, true) := by kernel_rfl
theorem mini_r3 : resO miniM 0 ⟨#[105, 100]⟩ = (1, 0, true) := by kernel_rfl
theorem mini_r4 : resO miniM 1 ⟨#[109, 58, 58, 99, 97, 108, 108]⟩ = (0, 0, false) := by kernel_rfl
theorem mini_r5 : resO miniM 1 ⟨#[110, 58, 58, 105, 100]⟩ = (1, 0, true) := by kernel_rfl
theorem mini_r6 : resO miniM 2 ⟨#[105, 100]⟩ = (0, 0, false) := by kernel_rfl
theorem mini_f1 : findN miniM ⟨#[110]⟩ = 1 := by kernel_rfl
theorem mini_f2 : findN miniM ⟨#[120]⟩ = -1 := by kernel_rfl
theorem mini_q1 : ruleN mini0 ⟨#[99, 97, 108, 108]⟩ = 1 := by kernel_rfl
theorem mini_q2 : ruleN mini0 ⟨#[105, 100]⟩ = -1 := by kernel_rfl

set_option maxRecDepth 1000000 in
set_option maxHeartbeats 800000 in
theorem mini_any (w : World) : Calls Try.prog 16 #[] w fun e w' => (∃ b, e = .returned (.slice (some ⟨b, 0, none⟩) 2 2) ∧ HasN w' (some ⟨b, 0, none⟩) miniL) ∧ Below w.heap.size w w' := by
  have HO := Lib.hid (Own.fresh w 9 (miniL.map Value.string))
  have HB := Lib.hid (show Below w.heap.size w (w.alloc (.cells (miniL.map Value.string).toArray 9)) from (Below.refl _ _).alloc (Nat.le_refl _) _)
  go_enter Try.func16, Try.ntmps16
  go_wp2
  go_ret
  refine ⟨⟨w.heap.size, rfl, ?_⟩, HB.out⟩
  exact hasN_of (S := fun b => b = w.heap.size) (n := 2) (c := 2) (l := miniL) ⟨rfl, .inr ⟨w.heap.size, 0, 2, _, rfl, rfl, HO.out, Nat.le_refl _, by unfold maxLen; omega, by simp [miniL], by simp [miniL]⟩⟩

set_option maxRecDepth 1000000 in
set_option maxHeartbeats 1600000 in
theorem awake_any (w : World) (hx : Mx w) : Calls Try.prog 7 #[] w fun e w' => e = .returned (.bool true) ∧ Below w.heap.size w w' := by
  have HX := Lib.hid hx
  have HMI := Lib.hid (mini_any w)
  have HPA := Lib.hid (fun (bb : Nat) W (hW : HasN W (some ⟨bb, 0, none⟩) miniL) => show Calls Try.prog 6 #[.slice (some ⟨bb, 0, none⟩) 2 2] W fun e w' => (∃ mo mc, e = .returned (.tuple #[.slice mo 2 mc, .bool true]) ∧ HasMs w' W.heap.size mo miniM) ∧ Below W.heap.size W w' from by
    have q := parsed_any miniL (some ⟨bb, 0, none⟩) 2 W hW
    rw [mini_ok] at q
    refine Calls.mono q fun e w' ⟨h1, h2⟩ => ⟨?_, h2⟩
    obtain ⟨mo, mc, h3, h4⟩ := h1
    exact ⟨mo, mc, by rw [h3, mini_len], h4⟩)
  have hFew : Few miniM := (prsO_few mini_ok).1
  have HFEW := Lib.hid hFew
  clear hx hFew
  go_enter Try.func7, Try.ntmps7
  go_wp2_with fail
  refine HMI.out.mono ?_
  rintro e w1 ⟨⟨bb, rfl, hn⟩, hb1⟩
  have HB1 := Lib.hid hb1
  go_wp2_with fail
  refine (HPA.out bb w1 hn).mono ?_
  rintro e w2 ⟨⟨mo, mc, rfl, hM⟩, hb2⟩
  have HB2 := Lib.hid (hb1.trans (hb2.mono hb1.size))
  have HM2 := Lib.hid hM
  obtain ⟨D, hD⟩ : ∃ D, w1.heap.size = D := ⟨_, rfl⟩
  rw [hD] at HM2
  have HX2 := Lib.hid (HX.out.below HB2.out)
  have hFew := HFEW.out
  clear hn hb1 hb2 hM hD HPA HMI HB1
  have H1 := Lib.hid (fun W (hW : HasMs W D mo miniM) (hX : Mx W) => show Calls Try.prog 8 #[.slice mo 2 mc, .int .i64 0, .string ⟨#[99, 97, 108, 108]⟩] W fun e w' => e = .returned (.tuple #[.int .i64 0, .int .i64 1, .bool true]) ∧ Below W.heap.size W w' from by have q := resolve_any miniM D mo mc 0 ⟨#[99, 97, 108, 108]⟩ (by decide) hFew W hW hX; rw [mini_r1, mini_len] at q; exact q)
  have H2 := Lib.hid (fun W (hW : HasMs W D mo miniM) (hX : Mx W) => show Calls Try.prog 8 #[.slice mo 2 mc, .int .i64 0, .string ⟨#[110, 58, 58, 105, 100]⟩] W fun e w' => e = .returned (.tuple #[.int .i64 1, .int .i64 0, .bool true]) ∧ Below W.heap.size W w' from by have q := resolve_any miniM D mo mc 0 ⟨#[110, 58, 58, 105, 100]⟩ (by decide) hFew W hW hX; rw [mini_r2, mini_len] at q; exact q)
  have H3 := Lib.hid (fun W (hW : HasMs W D mo miniM) (hX : Mx W) => show Calls Try.prog 8 #[.slice mo 2 mc, .int .i64 0, .string ⟨#[105, 100]⟩] W fun e w' => e = .returned (.tuple #[.int .i64 1, .int .i64 0, .bool true]) ∧ Below W.heap.size W w' from by have q := resolve_any miniM D mo mc 0 ⟨#[105, 100]⟩ (by decide) hFew W hW hX; rw [mini_r3, mini_len] at q; exact q)
  have H4 := Lib.hid (fun W (hW : HasMs W D mo miniM) (hX : Mx W) => show Calls Try.prog 8 #[.slice mo 2 mc, .int .i64 1, .string ⟨#[109, 58, 58, 99, 97, 108, 108]⟩] W fun e w' => e = .returned (.tuple #[.int .i64 0, .int .i64 0, .bool false]) ∧ Below W.heap.size W w' from by have q := resolve_any miniM D mo mc 1 ⟨#[109, 58, 58, 99, 97, 108, 108]⟩ (by decide) hFew W hW hX; rw [mini_r4, mini_len] at q; exact q)
  have H5 := Lib.hid (fun W (hW : HasMs W D mo miniM) (hX : Mx W) => show Calls Try.prog 8 #[.slice mo 2 mc, .int .i64 1, .string ⟨#[110, 58, 58, 105, 100]⟩] W fun e w' => e = .returned (.tuple #[.int .i64 1, .int .i64 0, .bool true]) ∧ Below W.heap.size W w' from by have q := resolve_any miniM D mo mc 1 ⟨#[110, 58, 58, 105, 100]⟩ (by decide) hFew W hW hX; rw [mini_r5, mini_len] at q; exact q)
  have H6 := Lib.hid (fun W (hW : HasMs W D mo miniM) (hX : Mx W) => show Calls Try.prog 8 #[.slice mo 2 mc, .int .i64 2, .string ⟨#[105, 100]⟩] W fun e w' => e = .returned (.tuple #[.int .i64 0, .int .i64 0, .bool false]) ∧ Below W.heap.size W w' from by have q := resolve_any miniM D mo mc 2 ⟨#[105, 100]⟩ (by decide) hFew W hW hX; rw [mini_r6, mini_len] at q; exact q)
  have HF1 := Lib.hid (fun W (hW : HasMs W D mo miniM) => show Calls Try.prog 10 #[.slice mo 2 mc, .string ⟨#[110]⟩] W fun e w' => e = .returned (.int .i64 (1)) ∧ Below W.heap.size W w' from by have q := find_any miniM D mo mc ⟨#[110]⟩ hFew.1 W hW; rw [mini_f1, mini_len] at q; exact q)
  have HF2 := Lib.hid (fun W (hW : HasMs W D mo miniM) => show Calls Try.prog 10 #[.slice mo 2 mc, .string ⟨#[120]⟩] W fun e w' => e = .returned (.int .i64 (-1)) ∧ Below W.heap.size W w' from by have q := find_any miniM D mo mc ⟨#[120]⟩ hFew.1 W hW; rw [mini_f2, mini_len] at q; exact q)
  clear hFew
  go_wp2_with fail
  refine (H1.out _ HM2.out HX2.out).mono ?_
  rintro e w3 ⟨rfl, hb⟩
  have HB3 := Lib.hid (HB2.out.trans (hb.mono HB2.out.size))
  have HM3 := Lib.hid (HM2.out.below hb)
  have HX3 := Lib.hid (HX2.out.below hb)
  clear hb HB2 HM2 HX2 H1
  go_wp2_with fail
  refine (H2.out _ HM3.out HX3.out).mono ?_
  rintro e w4 ⟨rfl, hb⟩
  have HB4 := Lib.hid (HB3.out.trans (hb.mono HB3.out.size))
  have HM4 := Lib.hid (HM3.out.below hb)
  have HX4 := Lib.hid (HX3.out.below hb)
  clear hb HB3 HM3 HX3 H2
  go_wp2_with fail
  refine (H3.out _ HM4.out HX4.out).mono ?_
  rintro e w5 ⟨rfl, hb⟩
  have HB5 := Lib.hid (HB4.out.trans (hb.mono HB4.out.size))
  have HM5 := Lib.hid (HM4.out.below hb)
  have HX5 := Lib.hid (HX4.out.below hb)
  clear hb HB4 HM4 HX4 H3
  go_wp2_with fail
  refine (H4.out _ HM5.out HX5.out).mono ?_
  rintro e w6 ⟨rfl, hb⟩
  have HB6 := Lib.hid (HB5.out.trans (hb.mono HB5.out.size))
  have HM6 := Lib.hid (HM5.out.below hb)
  have HX6 := Lib.hid (HX5.out.below hb)
  clear hb HB5 HM5 HX5 H4
  go_wp2_with fail
  refine (H5.out _ HM6.out HX6.out).mono ?_
  rintro e w7 ⟨rfl, hb⟩
  have HB7 := Lib.hid (HB6.out.trans (hb.mono HB6.out.size))
  have HM7 := Lib.hid (HM6.out.below hb)
  have HX7 := Lib.hid (HX6.out.below hb)
  clear hb HB6 HM6 HX6 H5
  go_wp2_with fail
  refine (H6.out _ HM7.out HX7.out).mono ?_
  rintro e w8 ⟨rfl, hb⟩
  have HB8 := Lib.hid (HB7.out.trans (hb.mono HB7.out.size))
  have HM8 := Lib.hid (HM7.out.below hb)
  have HX8 := Lib.hid (HX7.out.below hb)
  clear hb HB7 HM7 HX7 H6
  go_wp2_with fail
  refine (HF1.out _ HM8.out).mono ?_
  rintro e w9 ⟨rfl, hb⟩
  have HB9 := Lib.hid (HB8.out.trans (hb.mono HB8.out.size))
  have HM9 := Lib.hid (HM8.out.below hb)
  clear hb HB8 HM8 HF1
  go_wp2_with fail
  refine (HF2.out _ HM9.out).mono ?_
  rintro e w10 ⟨rfl, hb⟩
  have HB10 := Lib.hid (HB9.out.trans (hb.mono HB9.out.size))
  have HM10 := Lib.hid (HM9.out.below hb)
  clear hb HB9 HM9 HF2
  obtain ⟨nn, hMr⟩ := HM10.out
  obtain ⟨b0, off, io, ic, ko, kc, ro, rc, rfl, hbl, _, c0, c1, c2, c3, c4, c5, c6, c7, c8, c9, cA, -, -, hru⟩ := hMr 0 mini0 mini_0
  rw [Nat.zero_mul, Nat.add_zero] at c0 c1 c2 c3 c4 c5 c6 c7 c8 c9 cA
  have HRU := Lib.hid hru
  have hrl := (HFEW.out.2 mini0 (List.mem_of_getElem? mini_0)).2
  have HQ1 := Lib.hid (fun W (hW : HasRu W D nn ro mini0.ru) => show Calls Try.prog 12 #[.agg #[.string mini0.nm, .slice io mini0.im.length ic, .bool mini0.wet, .int .i64 mini0.wa.op, .string mini0.wa.text, .int .u64 mini0.wa.s0, .int .u64 mini0.wa.s1, .int .u64 mini0.wa.s2, .int .u64 mini0.wa.s3, .slice ko mini0.wa.kids.length kc, .slice ro mini0.ru.length rc], .string ⟨#[99, 97, 108, 108]⟩] W fun e w' => e = .returned (.int .i64 1) ∧ Below W.heap.size W w' from by have q := rule_any mini0 D nn io ic ko kc ro rc ⟨#[99, 97, 108, 108]⟩ hrl W hW; rw [mini_q1] at q; exact q)
  have HQ2 := Lib.hid (fun W (hW : HasRu W D nn ro mini0.ru) => show Calls Try.prog 12 #[.agg #[.string mini0.nm, .slice io mini0.im.length ic, .bool mini0.wet, .int .i64 mini0.wa.op, .string mini0.wa.text, .int .u64 mini0.wa.s0, .int .u64 mini0.wa.s1, .int .u64 mini0.wa.s2, .int .u64 mini0.wa.s3, .slice ko mini0.wa.kids.length kc, .slice ro mini0.ru.length rc], .string ⟨#[105, 100]⟩] W fun e w' => e = .returned (.int .i64 (-1)) ∧ Below W.heap.size W w' from by have q := rule_any mini0 D nn io ic ko kc ro rc ⟨#[105, 100]⟩ hrl W hW; rw [mini_q2] at q; exact q)
  clear hMr hru hrl
  go_wp2_with fail
  refine (HQ1.out _ HRU.out).mono ?_
  rintro e w11 ⟨rfl, hb⟩
  have HB11 := Lib.hid (HB10.out.trans (hb.mono HB10.out.size))
  have HRU11 := Lib.hid (HRU.out.but (But.of_below (S := fun _ => False) hb) (fun _ h => h.elim))
  have hbl' := Nat.lt_of_lt_of_le hbl hb.size
  have d0 := keepc c0 hb
  have d1 := keepc c1 hb
  have d2 := keepc c2 hb
  have d3 := keepc c3 hb
  have d4 := keepc c4 hb
  have d5 := keepc c5 hb
  have d6 := keepc c6 hb
  have d7 := keepc c7 hb
  have d8 := keepc c8 hb
  have d9 := keepc c9 hb
  have dA := keepc cA hb
  clear hb c0 c1 c2 c3 c4 c5 c6 c7 c8 c9 cA hbl HRU HB10
  go_wp2_with fail
  refine (HQ2.out _ HRU11.out).mono ?_
  rintro e w12 ⟨rfl, hb⟩
  have HB12 := Lib.hid (HB11.out.trans (hb.mono HB11.out.size))
  go_wp2
  go_ret
  exact ⟨rfl, HB12.out⟩
end Go.Proofs.Ytihcmneidbjmlaa
