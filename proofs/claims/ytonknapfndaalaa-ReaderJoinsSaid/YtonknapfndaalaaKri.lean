/- The tokens of a text within parentheses, with a note behind. Math alone. What a text is, it is within parentheses as well, or there are too many. Math alone. -/
import Derived.Test.YtonknapfndaalaaKrh
namespace Go.Proofs.Ytonknapfndaalaa
set_option linter.unusedVariables false
set_option maxRecDepth 1000000
open Go.RowKit Ex
theorem allF_nz {s : ByteArray} : ∀ (f k : Nat) (L : List Tok), allF s f k = .ok L → ∃ L' t, L = L' ++ [t] ∧ t.kd = 0 ∧ ∀ u ∈ L', u.kd ≠ 0
 | 0, k, L, h => by cases h
 | f + 1, k, L, h => by
  unfold allF at h
  split at h
  ·
   cases h
  ·
   rename_i t m _
   split at h
   ·
    rename_i g
    injection h with h
    exact ⟨[], t, h.symm, g, fun u hu => absurd hu List.not_mem_nil⟩
   ·
    rename_i g
    split at h
    ·
     rename_i M hM
     injection h with h
     obtain ⟨L', t', e, h0, hn⟩ := allF_nz f m M hM
     refine ⟨t :: L', t', by rw [← h, e]; rfl, h0, fun u hu => ?_⟩
     rcases List.mem_cons.1 hu with rfl | hu
     ·
      exact g
     ·
      exact hn u hu
    ·
     cases h
theorem Lx.inv1 {U : ByteArray} {p m : Nat} {u : Tkn} (h : Lx U p [u] m) : ∃ t, nextO U p = some (t, m) ∧ t.kd ≠ 0 ∧ t.k = u := by
 generalize hl : [u] = l at h
 cases h with
 | nil => cases hl
 | cons h1 h2 h3 =>
  injection hl with e1 e2
  subst e2
  cases h3
  exact ⟨_, h1, h2, e1.symm⟩
def wrapW (l : List UInt8) : List UInt8 := 32 :: 40 :: 32 :: (l ++ [10, 41, 32, 35, 32, 97, 32, 41])
theorem wrap_toks {s : ByteArray} (hn : ∀ k, k < s.size → byt s k ≠ 35) {L : List Tok} (hL : allO s = .ok L) :
  ∃ t0 t1 te, allO (ofL (wrapW s.data.toList)) = .ok ([t0] ++ (L.dropLast.map (sh 3) ++ ([t1] ++ [te]))) ∧ t0.k = sgT [40] ∧ t1.k = sgT [41] ∧ te.kd = 0 := by
 obtain ⟨U, hU⟩ : ∃ U, ofL (wrapW s.data.toList) = U := ⟨_, rfl⟩
 have hd : U.data.toList = 32 :: 40 :: 32 :: (s.data.toList ++ [10, 41, 32, 35, 32, 97, 32, 41]) := by rw [← hU, ofL_list]; rfl
 have hz : U.size = s.size + 11 := by
  rw [← size_list, hd]
  simp only [List.length_cons, List.length_append, size_list, List.length_nil]
 have hA : At U 0 (32 :: 40 :: 32 :: (s.data.toList ++ 10 :: 41 :: 32 :: 35 :: [32, 97, 32, 41])) := ⟨[], [], by rw [hd]; simp, rfl⟩
 rw [hU]
 obtain ⟨k0, b0, A1⟩ := hA.cons
 obtain ⟨k1, b1, A2⟩ := A1.cons
 obtain ⟨k2, b2, A3⟩ := A2.cons
 obtain ⟨A4, A5⟩ := A3.app
 rw [size_list] at A5
 obtain ⟨k5, b5, A6⟩ := A5.cons
 obtain ⟨k6, b6, A7⟩ := A6.cons
 obtain ⟨k7, b7, A8⟩ := A7.cons
 obtain ⟨k8, b8, A9⟩ := A8.cons
 obtain ⟨t0, n0, z0, e0⟩ := (Lx.sign A1 (by decide)).inv1
 obtain ⟨t1, n1, z1, e1⟩ := (Lx.sign A6 (by decide)).inv1
 have g0 : allA U 0 = allA U (0 + 1) := allA_same (skO_blank k0 (by rw [b0]; rfl))
 have g1 := allA_go (by omega) n0 z0
 have g2 : allA U (0 + 1 + 1) = allA U (0 + 1 + 1 + 1) := allA_same (skO_blank k2 (by rw [b2]; rfl))
 have g3 : allA U (0 + 1 + 1 + 1) = addA (L.dropLast.map (sh 3)) (allA U (0 + 1 + 1 + 1 + s.size)) := mid_all (U := U) (p := [32, 40, 32]) (c := 10) (r := [41, 32, 35, 32, 97, 32, 41]) hd (.inr (.inl rfl)) hn hL
 have g4 : allA U (0 + 1 + 1 + 1 + s.size) = allA U (0 + 1 + 1 + 1 + s.size + 1) := allA_same (skO_blank k5 (by rw [b5]; rfl))
 have g5 := allA_go (by omega) n1 z1
 have hq : U.size ≤ skO U (0 + 1 + 1 + 1 + s.size + 1 + 1) := by
  rw [skO_blank k7 (by rw [b7]; rfl)]
  refine skO_note k8 (by rw [b8]; rfl) fun j hj hj2 => ?_
  obtain ⟨i, hi⟩ : ∃ i, j = 0 + 1 + 1 + 1 + s.size + 1 + 1 + 1 + i := ⟨j - (0 + 1 + 1 + 1 + s.size + 1 + 1 + 1), by omega⟩
  have hlt : i < ([35, 32, 97, 32, 41] : List UInt8).length := by show i < 5; omega
  have := (A8.get (j := i) (List.getElem?_eq_getElem hlt)).2
  rw [hi, this]
  have hh : ∀ c ∈ ([35, 32, 97, 32, 41] : List UInt8), (c.toNat : Int) ≠ 10 := by decide
  exact hh _ (List.getElem_mem hlt)
 have n2 : nextO U (0 + 1 + 1 + 1 + s.size + 1 + 1) = some (⟨0, ⟨#[]⟩, set0, U.size⟩, U.size) := if_pos hq
 have g6 : allA U (0 + 1 + 1 + 1 + s.size + 1 + 1) = .ok [⟨0, ⟨#[]⟩, set0, U.size⟩] := allF_end (by omega) (by omega) n2 rfl
 refine ⟨t0, t1, ⟨0, ⟨#[]⟩, set0, U.size⟩, ?_, e0, e1, rfl⟩
 show allA U 0 = _
 rw [g0, g1, g2, g3, g4, g5, g6]
 rfl
end Go.Proofs.Ytonknapfndaalaa

namespace Go.Proofs.Ytonknapfndaalaa
set_option linter.unusedVariables false
set_option maxRecDepth 1000000
open Go.RowKit Ex
/-- What is read of a text that is an expression: the tokens, and the end. -/
theorem psO_parts {s : ByteArray} {x : Ex} (h : psO s = .ok x) : ∃ L' t, allO s = .ok (L' ++ [t]) ∧ t.kd = 0 ∧ exO (L' ++ [t]) 12 0 = .ok (x, L'.length) ∧ ¬ 12 < deepX 60 x := by
 unfold psO at h
 cases hL : allO s with
 | error k => rw [hL] at h; cases h
 | ok L =>
  rw [hL] at h
  simp only at h
  cases hr : rdO L 0 with
  | error f => rw [hr] at h; cases h
  | ok p =>
   obtain ⟨y, m⟩ := p
   rw [hr] at h
   unfold psL at h
   simp only at h
   split at h
   ·
    rename_i hm
    obtain rfl : y = x := by simpa using h
    unfold rdO at hr
    cases hq : exO L 12 0 with
    | error e => simp [hq] at hr
    | ok p =>
     obtain ⟨y', m'⟩ := p
     simp only [hq] at hr
     split at hr
     ·
      cases hr
     ·
      rename_i hd
      obtain ⟨rfl, rfl⟩ : y' = y ∧ m' = m := by simpa using hr
      obtain ⟨L', t, rfl, h0, hnz⟩ := allF_nz _ _ _ hL
      have hb := exO_be (tkA_end h0) 12 0 _ _ hq
      have e : m' = L'.length := by
       rcases Nat.lt_or_ge m' L'.length with g | g
       ·
        exfalso
        have e1 : tkA (L' ++ [t]) m' = L'[m'] := tkA_in (by rw [List.getElem?_append_left g, List.getElem?_eq_getElem g])
        rw [e1] at hm
        exact hnz _ (List.getElem_mem g) hm
       ·
        omega
      exact ⟨L', t, rfl, h0, by rw [← e]; exact hq, hd⟩
   ·
    cases h
def parV (M : List Tok) : Rs → Rs
 | .ok (e, m) => if isS M m [41] = true then .ok (e, m + 1) else badF M 2 m
 | .error e => .error e
section
variable {M : List Tok}
theorem par_prim {r : Rs} (h0 : (tkA M 0).k = sgT [40]) (hx : exO M 11 1 = r) : primO M (subX M 12) (big 12) 0 = parV M r := by
 obtain ⟨p1, p2, p3⟩ := tk_parts (show (tkA M 0).k = (4, ofL [40], set0) from h0)
 unfold primO
 rw [p1, if_neg (by decide), if_neg (by decide), if_neg (by decide), show isS M 0 [46] = false by rw [isS_is h0]; decide, if_neg (by decide), show isS M 0 [40] = true by rw [isS_is h0]; decide, if_pos rfl, if_neg (by decide)]
 subst hx
 show (match exO M 11 (0 + 1) with | .ok (e, m) => if isS M m [41] = true then Except.ok (e, m + 1) else badF M 2 m | .error e => .error e) = parV M (exO M 11 (0 + 1))
 cases exO M 11 (0 + 1) <;> rfl
theorem par_err {e : Int × Int} (h0 : (tkA M 0).k = sgT [40]) (hx : exO M 11 1 = .error e) : exO M 12 0 = .error e := by
 have h1 : primO M (subX M 12) (big 12) 0 = .error e := par_prim h0 hx
 obtain ⟨p1, p2, p3⟩ := tk_parts (show (tkA M 0).k = (4, ofL [40], set0) from h0)
 have h2 : preO M (subX M 12) (big 12) 0 = .error e := by
  unfold preO sufO
  rw [h1, show isS M 0 [38] = false by rw [isS_is h0]; decide, show isS M 0 [33] = false by rw [isS_is h0]; decide, show isS M 0 [126] = false by rw [isS_is h0]; decide, p1]
  rfl
 rw [exO_eq]
 unfold chO seqO
 rw [h2]
end
/-- What a text is, it is within parentheses and with a note behind as well; or there are too many. -/
theorem psO_wrap {s : ByteArray} {x : Ex} (hn : ∀ k, k < s.size → byt s k ≠ 35) (h : psO s = .ok x) : psO (ofL (wrapW s.data.toList)) = .ok x ∨ ∃ p, psO (ofL (wrapW s.data.toList)) = .error (3, p) := by
 obtain ⟨L', t, hL, ht, hq, hd⟩ := psO_parts h
 obtain ⟨t0, t1, te, hM, e0, e1, e2⟩ := wrap_toks hn hL
 rw [List.dropLast_concat] at hM
 obtain ⟨M, hMM⟩ : ∃ M, [t0] ++ (L'.map (sh 3) ++ ([t1] ++ [te])) = M := ⟨_, rfl⟩
 rw [hMM] at hM
 have m0 : (tkA M 0).k = sgT [40] := by rw [tkA_in (t := t0) (by rw [← hMM]; rfl)]; exact e0
 have m1 : (tkA M (1 + L'.length)).k = sgT [41] := by rw [tkA_in (t := t1) (by rw [← hMM, Nat.add_comm]; show (L'.map (sh 3) ++ ([t1] ++ [te]))[L'.length]? = _; rw [List.getElem?_append_right (by simp)]; simp)]; exact e1
 have m2 : (tkA M (1 + L'.length + 1)).kd = 0 := by rw [tkA_in (t := te) (by rw [← hMM, Nat.add_comm 1]; show (L'.map (sh 3) ++ ([t1] ++ [te]))[L'.length + 1]? = _; rw [List.getElem?_append_right (by simp)]; simp)]; exact e2
 have hv : Mv (L' ++ [t]) M L'.length 1 := ⟨by simp, by rw [← hMM]; simp; omega, fun k hk => by
  rw [tkA_in (L := L' ++ [t]) (t := L'[k]) (by rw [List.getElem?_append_left hk, List.getElem?_eq_getElem hk]),
   tkA_in (t := sh 3 L'[k]) (by rw [← hMM, Nat.add_comm]; show (L'.map (sh 3) ++ ([t1] ++ [te]))[k]? = _; rw [List.getElem?_append_left (by simpa using hk), List.getElem?_map, List.getElem?_eq_getElem hk]; rfl)]
  rfl, by rw [tkA_in (t := t) (by simp)]; exact ht, m1⟩
 have fin : ∀ r, exO M 12 0 = r → psO (ofL (wrapW s.data.toList)) = psL M (rdQ M 0 r) := fun r hr => by
  unfold psO
  rw [hM]
  subst hr
  rfl
 rcases exO_lg (L' ++ [t]) 11 0 _ hq with g | ⟨p, g⟩
 ·
  left
  have hx := ((exO_sg hv 11 0 (Nat.zero_le _)).1 _ _ g).2
  have hp := par_prim m0 hx
  unfold parV at hp
  simp only at hp
  rw [show isS M (1 + L'.length) [41] = true by rw [isS_is m1, isT_sgW]; rfl, if_pos rfl] at hp
  have b2 : (tkA M (1 + L'.length + 1)).k.1 ≠ 4 := by show (tkA M (1 + L'.length + 1)).kd ≠ 4; rw [m2]; decide
  have hx2 := (Rdx.of_prim ⟨by rw [m0]; decide, fun e => by rw [m0] at e; exact absurd e (by decide)⟩ hp).ex
   (by unfold repT; rw [isT_not b2, isT_not b2, isT_not b2]; rfl)
   (by unfold staT; rw [isT_not b2, isT_not b2, isT_not b2, isT_not b2, isT_not b2]; show ((tkA M (1 + L'.length + 1)).kd == 1 || (tkA M (1 + L'.length + 1)).kd == 2 || (tkA M (1 + L'.length + 1)).kd == 3 || false || false || false || false || false) = false; rw [m2]; rfl)
   (by rw [isT_not b2])
  rw [fin _ hx2]
  unfold rdQ
  simp only
  rw [if_neg hd]
  unfold psL
  simp only
  rw [if_pos m2]
 ·
  right
  obtain ⟨p', g'⟩ := (exO_sg hv 11 0 (Nat.zero_le _)).2 _ g
  exact ⟨p', by rw [fin _ (par_err m0 g')]; rfl⟩
theorem wrap_cat (s : ByteArray) : ofL (wrapW s.data.toList) = (⟨#[32, 40, 32]⟩ ++ s ++ ⟨#[10, 41, 32, 35, 32, 97, 32, 41]⟩ : ByteArray) := by
 apply ByteArray.ext
 apply Array.ext'
 rw [ofL_list]
 simp only [ByteArray.data_append, Array.toList_append]
 unfold wrapW
 simp
end Go.Proofs.Ytonknapfndaalaa
