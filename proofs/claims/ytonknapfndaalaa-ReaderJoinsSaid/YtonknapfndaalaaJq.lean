/- Two texts in parentheses with a stroke between: a choice of both, or there are too many. Math alone. -/
import Derived.Test.YtonknapfndaalaaKri
namespace Go.Proofs.Ytonknapfndaalaa
set_option linter.unusedVariables false
set_option maxRecDepth 1000000
open Go.RowKit Ex
def joinW (l m : List UInt8) : List UInt8 := 40 :: (l ++ 41 :: 32 :: 47 :: 32 :: 40 :: (m ++ [41]))
theorem join_toks {s u : ByteArray} (hn : ∀ k, k < s.size → byt s k ≠ 35) (hm : ∀ k, k < u.size → byt u k ≠ 35) {L K : List Tok} (hL : allO s = .ok L) (hK : allO u = .ok K) :
  ∃ t0 t1 t2 t3 t4 te, allO (ofL (joinW s.data.toList u.data.toList)) = .ok ([t0] ++ (L.dropLast.map (sh 1) ++ ([t1] ++ ([t2] ++ ([t3] ++ (K.dropLast.map (sh (s.size + 6)) ++ ([t4] ++ [te]))))))) ∧ t0.k = sgT [40] ∧ t1.k = sgT [41] ∧ t2.k = sgT [47] ∧ t3.k = sgT [40] ∧ t4.k = sgT [41] ∧ te.kd = 0 := by
 obtain ⟨U, hU⟩ : ∃ U, ofL (joinW s.data.toList u.data.toList) = U := ⟨_, rfl⟩
 have hd : U.data.toList = 40 :: (s.data.toList ++ 41 :: 32 :: 47 :: 32 :: 40 :: (u.data.toList ++ [41])) := by rw [← hU, ofL_list]; rfl
 have hz : U.size = s.size + u.size + 7 := by
  rw [← size_list, hd]
  simp only [List.length_cons, List.length_append, size_list, List.length_nil]
  omega
 have hA : At U 0 (40 :: (s.data.toList ++ 41 :: 32 :: 47 :: 32 :: 40 :: (u.data.toList ++ [41]))) := ⟨[], [], by rw [hd]; simp, rfl⟩
 rw [hU]
 obtain ⟨k0, b0, A1⟩ := hA.cons
 obtain ⟨A2, A3⟩ := A1.app
 rw [size_list] at A3
 obtain ⟨k3, b3, A4⟩ := A3.cons
 obtain ⟨k4, b4, A5⟩ := A4.cons
 obtain ⟨k5, b5, A6⟩ := A5.cons
 obtain ⟨k6, b6, A7⟩ := A6.cons
 obtain ⟨k7, b7, A8⟩ := A7.cons
 obtain ⟨A9, A10⟩ := A8.app
 rw [size_list] at A10
 obtain ⟨k10, b10, A11⟩ := A10.cons
 obtain ⟨t0, n0, z0, e0⟩ := (Lx.sign hA (by decide)).inv1
 obtain ⟨t1, n1, z1, e1⟩ := (Lx.sign A3 (by decide)).inv1
 obtain ⟨t2, n2, z2, e2⟩ := (Lx.sign A5 (by decide)).inv1
 obtain ⟨t3, n3, z3, e3⟩ := (Lx.sign A7 (by decide)).inv1
 obtain ⟨t4, n4, z4, e4⟩ := (Lx.sign A10 (by decide)).inv1
 have g0 := allA_go (by omega) n0 z0
 have g1 : allA U (0 + 1) = addA (L.dropLast.map (sh 1)) (allA U (0 + 1 + s.size)) := mid_all (U := U) (p := [40]) (c := 41) (r := 32 :: 47 :: 32 :: 40 :: (u.data.toList ++ [41])) hd (.inr (.inr rfl)) hn hL
 have g2 := allA_go (by omega) n1 z1
 have g3 : allA U (0 + 1 + s.size + 1) = allA U (0 + 1 + s.size + 1 + 1) := allA_same (skO_blank k4 (by rw [b4]; rfl))
 have g4 := allA_go (by omega) n2 z2
 have g5 : allA U (0 + 1 + s.size + 1 + 1 + 1) = allA U (0 + 1 + s.size + 1 + 1 + 1 + 1) := allA_same (skO_blank k6 (by rw [b6]; rfl))
 have g6 := allA_go (by omega) n3 z3
 have g7 : allA U (0 + 1 + s.size + 1 + 1 + 1 + 1 + 1) = addA (K.dropLast.map (sh (s.size + 6))) (allA U (0 + 1 + s.size + 1 + 1 + 1 + 1 + 1 + u.size)) := by
  have hp : (40 :: (s.data.toList ++ [41, 32, 47, 32, 40])).length = s.size + 6 := by
   simp only [List.length_cons, List.length_append, size_list, List.length_nil]
  have g := mid_all (U := U) (p := 40 :: (s.data.toList ++ [41, 32, 47, 32, 40])) (c := 41) (r := []) (by rw [hd]; simp) (.inr (.inr rfl)) hm hK
  rw [hp] at g
  rw [show 0 + 1 + s.size + 1 + 1 + 1 + 1 + 1 = s.size + 6 by omega]
  exact g
 have g8 := allA_go (by omega) n4 z4
 have hq : U.size ≤ skO U (0 + 1 + s.size + 1 + 1 + 1 + 1 + 1 + u.size + 1) := by
  rw [skO_out (by omega)]; omega
 have n5 : nextO U (0 + 1 + s.size + 1 + 1 + 1 + 1 + 1 + u.size + 1) = some (⟨0, ⟨#[]⟩, set0, U.size⟩, U.size) := if_pos hq
 have g9 : allA U (0 + 1 + s.size + 1 + 1 + 1 + 1 + 1 + u.size + 1) = .ok [⟨0, ⟨#[]⟩, set0, U.size⟩] := allF_end (by omega) (by omega) n5 rfl
 refine ⟨t0, t1, t2, t3, t4, ⟨0, ⟨#[]⟩, set0, U.size⟩, ?_, e0, e1, e2, e3, e4, rfl⟩
 show allA U 0 = _
 rw [g0, g1, g2, g3, g4, g5, g6, g7, g8, g9]
 rfl
section
variable {L' M : List Tok} {t : Tok} {a : Nat}
theorem par_primA {r : Rs} (h0 : (tkA M a).k = sgT [40]) (hx : exO M 11 (a + 1) = r) : primO M (subX M 12) (big 12) a = parV M r := by
 obtain ⟨p1, p2, p3⟩ := tk_parts (show (tkA M a).k = (4, ofL [40], set0) from h0)
 unfold primO
 rw [p1, if_neg (by decide), if_neg (by decide), if_neg (by decide), show isS M a [46] = false by rw [isS_is h0]; decide, if_neg (by decide), show isS M a [40] = true by rw [isS_is h0]; decide, if_pos rfl, if_neg (by decide)]
 subst hx
 show (match exO M 11 (a + 1) with | .ok (e, m) => if isS M m [41] = true then Except.ok (e, m + 1) else badF M 2 m | .error e => .error e) = parV M (exO M 11 (a + 1))
 cases exO M 11 (a + 1) <;> rfl
/-- A part in parentheses: itself, or there are too many. -/
theorem par_seqA {x : Ex} (hv : Mv (L' ++ [t]) M L'.length (a + 1)) (h0 : (tkA M a).k = sgT [40]) (hq : exO (L' ++ [t]) 12 0 = .ok (x, L'.length))
  (hr : repT (tkA M (a + 1 + L'.length + 1)).k = true) (hs : staT (tkA M (a + 1 + L'.length + 1)).k = false) :
  seqO M (preO M (subX M 12) (big 12)) a = .ok (x, a + 1 + L'.length + 1) ∨ ∃ p, seqO M (preO M (subX M 12) (big 12)) a = .error (3, p) := by
 rcases exO_lg (L' ++ [t]) 11 0 _ hq with g | ⟨p, g⟩
 ·
  left
  have hx := ((exO_sg hv 11 0 (Nat.zero_le _)).1 _ _ g).2
  have hp := par_primA h0 hx
  unfold parV at hp
  simp only at hp
  rw [show isS M (a + 1 + L'.length) [41] = true by rw [isS_is hv.cls, isT_sgW]; rfl, if_pos rfl] at hp
  exact (Rdx.of_prim ⟨by rw [h0]; decide, fun e => by rw [h0] at e; exact absurd e (by decide)⟩ hp).seq (by decide) hr hs
 ·
  right
  obtain ⟨p', g'⟩ := (exO_sg hv 11 0 (Nat.zero_le _)).2 _ g
  have h1 : primO M (subX M 12) (big 12) a = .error (3, p') := par_primA h0 g'
  obtain ⟨p1, p2, p3⟩ := tk_parts (show (tkA M a).k = (4, ofL [40], set0) from h0)
  have h2 : preO M (subX M 12) (big 12) a = .error (3, p') := by
   unfold preO sufO
   rw [h1, show isS M a [38] = false by rw [isS_is h0]; decide, show isS M a [33] = false by rw [isS_is h0]; decide, show isS M a [126] = false by rw [isS_is h0]; decide, p1]
   rfl
  exact ⟨p', by unfold seqO; rw [h2]⟩
theorem chL_one {sq : Nat → Rs} {f k m : Nat} {A : List Ex} {y : Ex} (h1 : isS M k [47] = true) (h2 : sq (k + 1) = .ok (y, m)) (h3 : isS M m [47] = false) : chL M sq (f + 1 + 1) A k = .ok (A ++ [y], m) := by
 unfold chL
 rw [if_pos h1, h2]
 simp only
 unfold chL
 rw [if_neg (by rw [h3]; decide)]
theorem chL_bad {sq : Nat → Rs} {f k : Nat} {A : List Ex} {e : Int × Int} (h1 : isS M k [47] = true) (h2 : sq (k + 1) = .error e) : chL M sq (f + 1) A k = .error e := by
 unfold chL
 rw [if_pos h1, h2]
end
def choX (x y : Ex) : Ex := .mk 5 ⟨#[]⟩ 0 0 0 0 [x, y]
theorem deep_cho {n : Nat} {x y : Ex} {D : Int} (hx : deepX n x ≤ D) (hy : deepX n y ≤ D) (h0 : 0 ≤ D) : deepX (n + 1) (choX x y) ≤ D + 1 := by
 show max (max 0 (deepX n x)) (deepX n y) + 1 ≤ _
 omega
/-- The end of a list's tokens within a greater one. -/
theorem get_mid {P Q : List Tok} {q : Tok} {n : Nat} (h : P.length = n) : tkA (P ++ q :: Q) n = q := tkA_in (by rw [List.getElem?_append_right (by omega), h, Nat.sub_self]; rfl)
theorem get_lst {P Q R : List Tok} {q : Tok} {n k d : Nat} (h : P.length = n) (hk : k < R.length) : (tkA (P ++ (R.map (sh d) ++ Q)) (n + k)).k = (tkA (R ++ [q]) k).k := by
 rw [tkA_in (L := R ++ [q]) (t := R[k]) (by rw [List.getElem?_append_left hk, List.getElem?_eq_getElem hk]),
  tkA_in (t := sh d R[k]) (by rw [List.getElem?_append_right (by omega), h, Nat.add_sub_cancel_left, List.getElem?_append_left (by simpa using hk), List.getElem?_map, List.getElem?_eq_getElem hk]; rfl)]
 rfl
/-- Two texts with a stroke between are a choice of both; or there are too many parentheses. -/
theorem psO_join {s u : ByteArray} {x y : Ex} (hn : ∀ k, k < s.size → byt s k ≠ 35) (hm : ∀ k, k < u.size → byt u k ≠ 35) (h : psO s = .ok x) (g : psO u = .ok y) (hx : deepX 59 x ≤ 11) (hy : deepX 59 y ≤ 11) :
  psO (ofL (joinW s.data.toList u.data.toList)) = .ok (choX x y) ∨ ∃ p, psO (ofL (joinW s.data.toList u.data.toList)) = .error (3, p) := by
 obtain ⟨L', t, hL, ht, hq, -⟩ := psO_parts h
 obtain ⟨K', v, hK, hv, hr, -⟩ := psO_parts g
 obtain ⟨t0, t1, t2, t3, t4, te, hM, e0, e1, e2, e3, e4, e5⟩ := join_toks hn hm hL hK
 rw [List.dropLast_concat, List.dropLast_concat] at hM
 obtain ⟨d, hd⟩ : ∃ d, s.size + 6 = d := ⟨_, rfl⟩
 rw [hd] at hM
 obtain ⟨M, hMM⟩ : ∃ M, [t0] ++ (L'.map (sh 1) ++ ([t1] ++ ([t2] ++ ([t3] ++ (K'.map (sh d) ++ ([t4] ++ [te])))))) = M := ⟨_, rfl⟩
 rw [hMM] at hM
 have m0 : (tkA M 0).k = sgT [40] := by rw [tkA_in (t := t0) (by rw [← hMM]; rfl)]; exact e0
 have m1 : (tkA M (0 + 1 + L'.length)).k = sgT [41] := by
  rw [show M = ([t0] ++ L'.map (sh 1)) ++ t1 :: ([t2] ++ ([t3] ++ (K'.map (sh d) ++ ([t4] ++ [te])))) by rw [← hMM]; simp, get_mid (by simp; omega)]; exact e1
 have m2 : (tkA M (0 + 1 + L'.length + 1)).k = sgT [47] := by
  rw [show M = ([t0] ++ L'.map (sh 1) ++ [t1]) ++ t2 :: ([t3] ++ (K'.map (sh d) ++ ([t4] ++ [te]))) by rw [← hMM]; simp, get_mid (by simp; omega)]; exact e2
 have m3 : (tkA M (0 + 1 + L'.length + 1 + 1)).k = sgT [40] := by
  rw [show M = ([t0] ++ L'.map (sh 1) ++ [t1, t2]) ++ t3 :: (K'.map (sh d) ++ ([t4] ++ [te])) by rw [← hMM]; simp, get_mid (by simp; omega)]; exact e3
 have m4 : (tkA M (0 + 1 + L'.length + 1 + 1 + 1 + K'.length)).k = sgT [41] := by
  rw [show M = ([t0] ++ L'.map (sh 1) ++ [t1, t2, t3] ++ K'.map (sh d)) ++ t4 :: [te] by rw [← hMM]; simp, get_mid (by simp; omega)]; exact e4
 have m5 : (tkA M (0 + 1 + L'.length + 1 + 1 + 1 + K'.length + 1)).kd = 0 := by
  rw [show M = ([t0] ++ L'.map (sh 1) ++ [t1, t2, t3] ++ K'.map (sh d) ++ [t4]) ++ te :: [] by rw [← hMM]; simp, get_mid (by simp; omega)]; exact e5
 have hlen : M.length = L'.length + K'.length + 6 := by rw [← hMM]; simp; omega
 have v1 : Mv (L' ++ [t]) M L'.length (0 + 1) := ⟨by simp, by omega, fun k hk => by
  rw [show M = [t0] ++ (L'.map (sh 1) ++ ([t1] ++ ([t2] ++ ([t3] ++ (K'.map (sh d) ++ ([t4] ++ [te])))))) from hMM.symm]
  exact get_lst rfl hk, by rw [tkA_in (t := t) (by simp)]; exact ht, m1⟩
 have v2 : Mv (K' ++ [v]) M K'.length (0 + 1 + L'.length + 1 + 1 + 1) := ⟨by simp, by omega, fun k hk => by
  rw [show M = ([t0] ++ L'.map (sh 1) ++ [t1, t2, t3]) ++ (K'.map (sh d) ++ ([t4] ++ [te])) by rw [← hMM]; simp]
  exact get_lst (by simp; omega) hk, by rw [tkA_in (t := v) (by simp)]; exact hv, m4⟩
 have b5 : (tkA M (0 + 1 + L'.length + 1 + 1 + 1 + K'.length + 1)).k.1 ≠ 4 := by show (tkA M _).kd ≠ 4; rw [m5]; decide
 have s1 := par_seqA v1 m0 hq (by rw [m2]; decide) (by rw [m2]; decide)
 have s2 := par_seqA v2 m3 hr (by unfold repT; rw [isT_not b5, isT_not b5, isT_not b5]; rfl) (by unfold staT; rw [isT_not b5, isT_not b5, isT_not b5, isT_not b5, isT_not b5]; show ((tkA M _).kd == 1 || (tkA M _).kd == 2 || (tkA M _).kd == 3 || false || false || false || false || false) = false; rw [m5]; rfl)
 have i2 : isS M (0 + 1 + L'.length + 1) [47] = true := by rw [isS_is m2, isT_sgW]; rfl
 have i5 : isS M (0 + 1 + L'.length + 1 + 1 + 1 + K'.length + 1) [47] = false := by show isT (tkA M _).k [47] = false; exact isT_not b5 _
 have fin : ∀ r, exO M 12 0 = r → psO (ofL (joinW s.data.toList u.data.toList)) = psL M (rdQ M 0 r) := fun r hr => by
  unfold psO
  rw [hM]
  subst hr
  rfl
 obtain ⟨f, hf⟩ : ∃ f, M.length + 1 = f + 1 + 1 := ⟨M.length - 1, by omega⟩
 rcases s1 with s1 | ⟨p, s1⟩
 ·
  rcases s2 with s2 | ⟨p, s2⟩
  ·
   left
   have hx2 : exO M 12 0 = .ok (choX x y, 0 + 1 + L'.length + 1 + 1 + 1 + K'.length + 1) := by
    rw [exO_eq]
    unfold chO
    rw [s1]
    simp only
    rw [hf, chL_one i2 s2 i5]
    rfl
   rw [fin _ hx2]
   unfold rdQ
   simp only
   rw [if_neg (by have : deepX 60 (choX x y) ≤ 11 + 1 := deep_cho hx hy (by decide); omega)]
   unfold psL
   simp only
   rw [if_pos m5]
  ·
   right
   have hx2 : exO M 12 0 = .error (3, p) := by
    rw [exO_eq]
    unfold chO
    rw [s1]
    simp only
    rw [hf, chL_bad i2 s2]
   exact ⟨p, by rw [fin _ hx2]; rfl⟩
 ·
  right
  have hx2 : exO M 12 0 = .error (3, p) := by
   rw [exO_eq]
   unfold chO
   rw [s1]
  exact ⟨p, by rw [fin _ hx2]; rfl⟩
theorem join_cat (s u : ByteArray) : ofL (joinW s.data.toList u.data.toList) = (⟨#[40]⟩ ++ s ++ ⟨#[41, 32, 47, 32, 40]⟩ ++ u ++ ⟨#[41]⟩ : ByteArray) := by
 apply ByteArray.ext
 apply Array.ext'
 rw [ofL_list]
 simp only [ByteArray.data_append, Array.toList_append]
 unfold joinW
 simp
end Go.Proofs.Ytonknapfndaalaa
