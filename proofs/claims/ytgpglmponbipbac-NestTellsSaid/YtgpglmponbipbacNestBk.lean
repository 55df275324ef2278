/- Behind a mark: what comes, what is taken back, what is added again. -/
import Derived.Test.YtgpglmponbipbacAwake21
namespace Go.Proofs.Ytgpglmponbipbac
set_option linter.unusedVariables false
open Go.RowKit Go.Sort

/-- n nodes opened since the mark are open, the last of them at top; behind them t0. -/
def Ch (L : List Nd) (l0 : Nat) (t0 : Int) : Nat → Int → Prop
  | 0, top => top = t0
  | n + 1, top => ∃ t : Nat, top = (t : Int) ∧ l0 ≤ t ∧ ∃ x, L[t]? = some x ∧ Ch L l0 t0 n x.up
structure Since (L0 : List Nd) (t0 : Int) (L : List Nd) (top : Int) (n : Nat) : Prop where
  len : L0.length ≤ L.length
  pre : L.take L0.length = L0
  ups : ∀ (i : Nat) (x : Nd), L0.length ≤ i → L[i]? = some x → x.up = t0 ∨ (L0.length : Int) ≤ x.up
  chain : Ch L L0.length t0 n top
  top : top = t0 ∨ (L0.length : Int) ≤ top
theorem Ch.snoc {L : List Nd} {l0 : Nat} {t0 : Int} {y : Nd} : ∀ {n : Nat} {top : Int}, Ch L l0 t0 n top → Ch (L ++ [y]) l0 t0 n top
  | 0, _, h => h
  | n + 1, _, ⟨t, h1, h2, x, h3, h4⟩ => ⟨t, h1, h2, x, by rw [List.getElem?_append_left (List.getElem?_eq_some_iff.1 h3).1]; exact h3, h4.snoc⟩
theorem Ch.set {L : List Nd} {l0 s : Nat} {t0 to' : Int} {y : Nd} (hs : L[s]? = some y) : ∀ {n : Nat} {top : Int}, Ch L l0 t0 n top → Ch (L.set s ⟨y.kd, y.nm, y.fr, to', y.up⟩) l0 t0 n top
  | 0, _, h => h
  | n + 1, _, ⟨t, h1, h2, x, h3, h4⟩ => by
    by_cases e : s = t
    · subst e
      rw [hs] at h3
      cases h3
      exact ⟨s, h1, h2, _, List.getElem?_set_self (List.getElem?_eq_some_iff.1 hs).1, h4.set hs⟩
    · exact ⟨t, h1, h2, x, by rw [List.getElem?_set_ne e]; exact h3, h4.set hs⟩
theorem Since.start (L0 : List Nd) (t0 : Int) : Since L0 t0 L0 t0 0 :=
  ⟨Nat.le_refl _, List.take_length, fun i x hi hx => by have := (List.getElem?_eq_some_iff.1 hx).1; omega, rfl, .inl rfl⟩
theorem Since.snoc {L0 L : List Nd} {t0 top : Int} {n : Nat} {y : Nd} (h : Since L0 t0 L top n) (hy : y.up = top) : Since L0 t0 (L ++ [y]) top n := by
  refine ⟨by simp; have := h.len; omega, by rw [List.take_append_of_le_length h.len]; exact h.pre, fun i x hi hx => ?_, h.chain.snoc, h.top⟩
  by_cases c : i < L.length
  · rw [List.getElem?_append_left c] at hx; exact h.ups i x hi hx
  · have h2 := (List.getElem?_eq_some_iff.1 hx).1
    simp at h2
    obtain rfl : i = L.length := by omega
    rw [List.getElem?_append_right (Nat.le_refl _)] at hx
    simp at hx
    subst hx
    rw [hy]
    exact h.top
theorem Since.opened {L0 L : List Nd} {t0 top : Int} {n : Nat} {y : Nd} (h : Since L0 t0 L top n) (hy : y.up = top) : Since L0 t0 (L ++ [y]) (L.length : Int) (n + 1) := by
  have s := h.snoc hy
  refine ⟨s.len, s.pre, s.ups, ⟨L.length, rfl, h.len, y, ?_, ?_⟩, .inr (by have := h.len; omega)⟩
  · rw [List.getElem?_append_right (Nat.le_refl _)]; simp
  · rw [hy]; exact h.chain.snoc
theorem Since.closed {L0 L : List Nd} {t0 top to' : Int} {n : Nat} (h : Since L0 t0 L top (n + 1)) : ∃ (t : Nat) (x : Nd), top = (t : Int) ∧ L[t]? = some x ∧ Since L0 t0 (L.set t ⟨x.kd, x.nm, x.fr, to', x.up⟩) x.up n := by
  obtain ⟨t, h1, h2, x, h3, h4⟩ := h.chain
  refine ⟨t, x, h1, h3, by rw [List.length_set]; exact h.len, ?_, fun i y hi hy => ?_, h4.set h3, h.ups t x h2 h3⟩
  · rw [List.take_set_of_le h2]; exact h.pre
  · rw [List.getElem?_set] at hy
    split at hy
    · rename_i e
      subst e
      split at hy
      · simp at hy; subst hy; exact h.ups t x h2 h3
      · cases hy
    · exact h.ups i y hi hy
theorem Since.part_len {L0 L : List Nd} {t0 top : Int} {n : Nat} (h : Since L0 t0 L top n) : ((partL L L0.length).length : Int) = (L.length : Int) - (L0.length : Int) := by
  unfold partL; simp; have := h.len; omega
/-- What was taken back, added, is as it was. -/
theorem Since.again {L0 L : List Nd} {t0 top : Int} {n : Nat} (h : Since L0 t0 L top n) (hu : Ups L top) (ht : -1 ≤ t0 ∧ t0 < (L0.length : Int)) : addL L0 t0 (partL L L0.length) = L := by
  have key : ∀ i, i ≤ L.length - L0.length → addTo L0 t0 (partL L L0.length) i = L.take (L0.length + i) := by
    intro i
    induction i with
    | zero => intro _; show L0 = _; rw [Nat.add_zero, h.pre]
    | succ i ih =>
      intro hi
      have hi2 : L0.length + i < L.length := by omega
      have hx : L[L0.length + i]? = some L[L0.length + i] := List.getElem?_eq_getElem hi2
      have hp : (partL L L0.length)[i]? = some (lessU (L0.length : Int) L[L0.length + i]) := by
        unfold partL
        rw [List.getElem?_map, List.getElem?_drop, hx]; rfl
      rw [addTo_succ hp, ih (by omega), ← Nat.add_assoc, List.take_succ_eq_append_getElem hi2]
      congr 1
      have h1 := hu.1 _ _ hx
      have h2 := h.ups _ _ (by omega) hx
      generalize L[L0.length + i] = x at *
      unfold addF lessU
      have e : (if 0 ≤ max (x.up - (L0.length : Int)) (-1) ∧ max (x.up - (L0.length : Int)) (-1) < (i : Int) then max (x.up - (L0.length : Int)) (-1) + (L0.length : Int) else t0) = x.up := by
        split <;> omega
      simp only [e]
  unfold addL
  have hl : (partL L L0.length).length = L.length - L0.length := by unfold partL; simp
  rw [hl, key _ (Nat.le_refl _), List.take_of_length_le (by have := h.len; omega)]

theorem cells_u8 : Try.prog.cellsOf 5 = 1 := by kernel_rfl
/-- Bytes that come in. -/
def HasB (N : Nat) (w : World) (ao : Option Addr) (B : List Nat) : Prop := ∀ (k x : Nat), B[k]? = some x → x < 256 ∧ ∃ g off, ao = some ⟨g, off, none⟩ ∧ g < N ∧ w.cell? ⟨g, off + k, none⟩ = some (.int .u8 (x : Int))
theorem HasB.keep {N : Nat} {w w' : World} {ao : Option Addr} {B : List Nat} (h : HasB N w ao B) (hb : Below N w w') : HasB N w' ao B := fun k x hk => by
  obtain ⟨hx, g, off, rfl, hg, hc⟩ := h k x hk
  exact ⟨hx, g, off, rfl, hg, (hb.cell (p := ⟨g, off + k, none⟩) hg).trans hc⟩

set_option maxHeartbeats 6400000 in
theorem grow_any (N : Nat) (X : Nat → Prop) (w : World) (p : Nat) (B : List Nat) (ao : Option Addr) (cap : Nat) (hn : (B.length : Int) ≤ 100) (hl : HasB N w ao B) (h : Ns N X w p [] (-1)) :
    Calls Try.prog 26 #[.pointer (some ⟨p, 0, none⟩), .slice ao B.length cap] w
      fun e w' => e = .returned (.tuple #[]) ∧ Below N w w' ∧ ∃ L : List Nd, (L.length : Int) ≤ 100 ∧ ∃ top, Ns N X w' p L top := by
  obtain ⟨n, hnn⟩ : ∃ n, B.length = n := ⟨_, rfl⟩
  have HN := Lib.hid hnn
  have HL := Lib.hid hl
  have H0 := Lib.hid h
  rw [hnn] at hn ⊢
  clear hnn hl h
  go_enter Try.func26, Try.ntmps26
  go_wp2_with fail
  go_loopw [4] (fun b4 wr => ∃ k : Nat, b4 = .int .i64 (k : Int) ∧ (k : Int) ≤ n ∧ ∃ L top, L.length ≤ k ∧ Hid (Ns N X wr p L top) ∧ Hid (Below N w wr)) (fun b4 _ => n - (intOf b4).toNat)
  case atStart => exact ⟨0, rfl, by omega, [], -1, by simp, H0, Lib.hid (Below.refl _ _)⟩
  case round =>
    obtain ⟨k, rfl, hk2, L, top, hlk, H, hb⟩ := hrel
    clear H0
    by_cases h2 : (k : Int) < n
    · obtain ⟨c, hc⟩ : ∃ c, B[k]? = some c := ⟨_, List.getElem?_eq_getElem (by have := HN.out; omega)⟩
      obtain ⟨hc256, g, off, rfl, hg, cc⟩ := (HL.out.keep hb.out) k c hc
      clear hc
      have h3 : c % 3 = 0 ∨ c % 3 = 1 ∨ c % 3 = 2 := by omega
      rcases h3 with h3 | h3 | h3
      · have h4 : (((c : Int) % 3) == 0) = true := by rw [beq_iff_eq]; omega
        go_wp2_with fail
        refine (ns_leaf H.out 5 k ((k : Int) + 1) (by omega)).mono ?_
        rintro e w2 ⟨rfl, hb2, _, hs⟩
        have HS := Lib.hid hs
        have HB := Lib.hid (hb.out.trans hb2)
        clear hs hb2 cc
        go_wp2
        go_roundw
        case rel => exact ⟨k + 1, by go_num, by omega, _, _, by simp; omega, HS, HB⟩
        case measure => simp [intOf]; omega
      · have h4 : (((c : Int) % 3) == 0) = false := by rw [beq_eq_false_iff_ne]; omega
        have h5 : (((c : Int) % 3) == 1) = true := by rw [beq_iff_eq]; omega
        go_wp2_with fail
        refine (ns_open H.out 1 ⟨#[114]⟩ k (by omega)).mono ?_
        rintro e w2 ⟨rfl, hb2, _, hs⟩
        have HS := Lib.hid hs
        have HB := Lib.hid (hb.out.trans hb2)
        clear hs hb2 cc
        go_wp2
        go_roundw
        case rel => exact ⟨k + 1, by go_num, by omega, _, _, by simp; omega, HS, HB⟩
        case measure => simp [intOf]; omega
      · have h4 : (((c : Int) % 3) == 0) = false := by rw [beq_eq_false_iff_ne]; omega
        have h5 : (((c : Int) % 3) == 1) = false := by rw [beq_eq_false_iff_ne]; omega
        by_cases ht : top < 0
        · go_wp2_with fail
          refine (ns_close_no H.out k ht).mono ?_
          rintro e w2 ⟨rfl, rfl⟩
          clear cc
          go_wp2
          go_roundw
          case rel => exact ⟨k + 1, by go_num, by omega, _, _, by omega, H, hb⟩
          case measure => simp [intOf]; omega
        · obtain ⟨t, rfl⟩ : ∃ t : Nat, top = (t : Int) := ⟨top.toNat, by omega⟩
          obtain ⟨x, hx⟩ : ∃ x, L[t]? = some x := ⟨_, List.getElem?_eq_getElem (by have := H.out.ups.2.2; omega)⟩
          have HX := Lib.hid hx
          clear hx
          go_wp2_with fail
          refine (ns_close H.out k x (by omega) HX.out).mono ?_
          rintro e w2 ⟨rfl, hb2, _, hs⟩
          have HS := Lib.hid hs
          have HB := Lib.hid (hb.out.trans hb2)
          clear hs hb2 cc
          go_wp2
          go_roundw
          case rel => exact ⟨k + 1, by go_num, by omega, _, _, by rw [List.length_set]; omega, HS, HB⟩
          case measure => simp [intOf]; omega
    · go_wp2
      go_end0
      exact ⟨rfl, hb.out, L, by omega, top, H.out⟩
end Go.Proofs.Ytgpglmponbipbac
