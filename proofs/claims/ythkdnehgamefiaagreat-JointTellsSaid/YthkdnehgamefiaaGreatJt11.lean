import Derived.Test.YthkdnehgamefiaaGreatJnL
import Derived.Test.YthkdnehgamefiaaGreatJxB
import Derived.Test.YthkdnehgamefiaaGreatAw11
import Derived.Test.YthkdnehgamefiaaGreatSm11
namespace Go.Proofs.YthkdnehgamefiaaGreat
set_option linter.unusedVariables false
open Go.RowKit Go.Sort

theorem layK_cnt {L : Nat → Ex → List Nj → Prop} : ∀ (K : List Ex) (b : Nat) (ks : List Nat) (E : List Nj), (∀ y b E, L b y E → 0 < E.length) → LayK L b K ks E → ks.length ≤ E.length
  | [], b, ks, E, _, h => by rw [h.1, h.2]; exact Nat.le_refl _
  | y :: r, b, ks, E, hL, h => by
    obtain ⟨E1, E2, ks', h1, h2, h3, h4⟩ := h
    have := hL _ _ _ h3
    have := layK_cnt r _ _ _ hL h4
    rw [h1, h2, List.length_cons, List.length_append]
    omega
theorem layK_in {L : Nat → Ex → List Nj → Prop} : ∀ (K : List Ex) (b : Nat) (ks : List Nat) (E : List Nj), LayK L b K ks E → ∀ (i : Nat) (x : Nj), E[i]? = some x → ∃ y ∈ K, ∃ (c : Nat) (E1 : List Nj) (j : Nat), L c y E1 ∧ E1[j]? = some x ∧ E1.length ≤ E.length
  | [], b, ks, E, h => by rw [h.2]; intro i x hx; simp at hx
  | y :: r, b, ks, E, h => by
    obtain ⟨E1, E2, ks', h1, h2, h3, h4⟩ := h
    intro i x hx
    rw [h2] at hx ⊢
    rw [List.length_append]
    by_cases hi : i < E1.length
    · rw [List.getElem?_append_left hi] at hx
      exact ⟨y, List.mem_cons_self .., b, E1, i, h3, hx, by omega⟩
    · rw [List.getElem?_append_right (by omega)] at hx
      obtain ⟨z, hz, c, E3, j, h5, h6, h7⟩ := layK_in r _ _ _ h4 (i - E1.length) x hx
      exact ⟨z, List.mem_cons_of_mem _ hz, c, E3, j, h5, h6, by omega⟩
theorem lay_kl {ML : List Md} {F : List Nat} {mod : Nat} {ru : Int} : ∀ (d b : Nat) (e : Ex) (E : List Nj), LayE ML F mod ru d b e E → ∀ (i : Nat) (x : Nj), E[i]? = some x → x.ks.length ≤ E.length
  | 0, _, _, _, h => by cases h
  | d + 1, b, e, E, h => by
    obtain ⟨tt, ks, E', h1, h2, h3⟩ := h
    intro i x hx
    rw [h2] at hx ⊢
    rw [List.length_cons]
    cases i with
    | zero =>
      have hx : sW e ks tt mod ru = x := by simpa using hx
      subst hx
      have := layK_cnt e.kids _ _ _ (fun y b E hl => lay_pos hl) h3
      show ks.length ≤ _
      omega
    | succ i =>
      have hx : E'[i]? = some x := by simpa using hx
      obtain ⟨y, hy, c, E1, j, h4, h5, h6⟩ := layK_in e.kids _ _ _ h3 i x hx
      have h8 := lay_kl d c y E1 h4 j x h5
      omega
theorem Laid.kl {ML : List Md} {gr : Gj} (h : Laid ML gr) {p : Nat} {x : Nj} (hx : gr.ns[p]? = some x) : x.ks.length ≤ 160 := by
  obtain ⟨j, m, k, e, c, E1, q, h1, h2, h3, h4, h5, h6⟩ := layM_at _ _ _ _ _ _ h.lay p x hx
  have h7 := lay_kl 53 c e E1 h3 q x h4
  have h8 := h6 _ (ati_self _)
  have h9 := h.len
  have hp : 0 < E1.length := lay_pos h3
  obtain ⟨z, hz⟩ : ∃ z, E1[E1.length - 1]? = some z := ⟨_, List.getElem?_eq_getElem (by omega)⟩
  have := (List.getElem?_eq_some_iff.1 (h8 _ z hz)).1
  omega

theorem cnt_small8 : ∀ (l : List Md), (∀ m ∈ l, m.ru.length ≤ 24) → cntR l ≤ 24 * l.length
  | [], _ => Nat.le_refl _
  | m :: r, h => by
    have := cnt_small8 r fun x hx => h x (.tail _ hx)
    have := h m (.head _)
    show m.ru.length + cntR r ≤ _
    rw [List.length_cons]
    omega
/-- The name of a module more. -/
def zzS (i : Nat) : ByteArray := ⟨#[122, 122, UInt8.ofNat (97 + i)]⟩
def zzM (m : Md) (i : Nat) : Md := { m with nm := zzS i }
/-- The modules, and so many more. -/
def exM (ML : List Md) (i : Nat) : List Md := match ML with
  | [] => []
  | m :: r => (m :: r) ++ (List.range i).map (zzM m)
theorem exM_zero (ML : List Md) : exM ML 0 = ML := by cases ML <;> simp [exM]
theorem exM_succ {ML : List Md} {m : Md} (i : Nat) (h : ML[0]? = some m) : exM ML (i + 1) = exM ML i ++ [zzM m i] := by
  cases ML with
  | nil => cases h
  | cons a r =>
    obtain rfl := Option.some.inj h
    simp [exM, List.range_succ]
theorem exM_first {ML : List Md} {m : Md} (i : Nat) (h : (exM ML i)[0]? = some m) : ML[0]? = some m := by
  cases ML with
  | nil => cases h
  | cons a r => simpa [exM] using h
theorem exM_len (ML : List Md) (i : Nat) : (exM ML i).length = if ML = [] then 0 else ML.length + i := by
  cases ML <;> simp [exM] <;> omega
theorem exM_mem {ML : List Md} {i : Nat} {x : Md} (h : x ∈ exM ML i) : x ∈ ML ∨ ∃ m ∈ ML, ∃ j, j < i ∧ x = zzM m j := by
  cases ML with
  | nil => cases h
  | cons a r =>
    unfold exM at h
    rw [List.mem_append, List.mem_map] at h
    rcases h with h | ⟨j, hj, rfl⟩
    · exact .inl h
    · exact .inr ⟨a, .head _, j, List.mem_range.1 hj, rfl⟩
theorem zz_str (i : Nat) : (⟨#[122, 122]⟩ ++ strOfNums [97 + (i : Int)] : ByteArray) = zzS i := by
  apply ByteArray.ext
  apply Array.toList_inj.1
  show [122, 122] ++ [UInt8.ofNat (97 + (i : Int)).toNat] = [122, 122, UInt8.ofNat (97 + i)]
  rw [show (97 + (i : Int)).toNat = 97 + i from by omega]
  rfl
theorem zz_word : ∀ j, j < 3 → bN (zzS j) = true := fun j hj => by
  match j, hj with
  | 0, _ => exact (show bN (zzS 0) = true from by kernel_rfl)
  | 1, _ => exact (show bN (zzS 1) = true from by kernel_rfl)
  | 2, _ => exact (show bN (zzS 2) = true from by kernel_rfl)
theorem exM_ok {ML : List Md} {i : Nat} (hi : i ≤ 3) (h : ∀ m ∈ ML, Okm m) : ∀ m ∈ exM ML i, Okm m := fun x hx => by
  rcases exM_mem hx with h1 | ⟨m, hm, j, hj, rfl⟩
  · exact h x h1
  · obtain ⟨hw, h4, h24⟩ := h m hm
    exact ⟨⟨zz_word j (by omega), hw.im, hw.ru, hw.wa, hw.bo, hw.dry⟩, h4, h24⟩
theorem ok_few {ML : List Md} (h : ∀ m ∈ ML, Okm m) (h8 : ML.length ≤ 8) : Few ML := ⟨by omega, fun m hm => ⟨by have := (h m hm).2.1; omega, by have := (h m hm).2.2; omega⟩⟩
def joinG : Except Ft3 Gj → Gj | .ok g => g | .error _ => ⟨[], [], [], [], 0⟩
def joinF : Except Ft3 Gj → Ft3 | .ok _ => (0, 0, 0) | .error f => f
theorem JoE.form {D : Nat} {r : Except Ft3 Gj} {e : Ending} {w' : World} (h : JoE D r e w') : ∃ a, e = .returned (.tuple #[grv (joinG r) a, .agg #[.int .i64 (joinF r).1, .int .i64 0, .int .i64 (joinF r).2.1, .int .i64 (joinF r).2.2]]) ∧ dG w' (joinG r) a := by
  cases r with
  | ok g =>
    obtain ⟨a, he, hg⟩ := h
    exact ⟨a, he, hg.mono fun _ _ _ => trivial⟩
  | error f =>
    refine ⟨⟨none, none, none, none, 0, 0, 0, 0⟩, h.1, fun k x hx => ?_, fun k x hx => ?_, fun k x hx => ?_, fun k x hx => ?_⟩ <;> simp [joinG] at hx
theorem joinG_small {ML : List Md} {s : ByteArray} (hok : ∀ m ∈ ML, Okm m) (h8 : ML.length ≤ 8) : ((joinG (iW ML s)).ms.length : Int) ≤ 1000 ∧ ((joinG (iW ML s)).ns.length : Int) ≤ 1000 ∧ ((joinG (iW ML s)).hs.length : Int) ≤ 1000 ∧ ((joinG (iW ML s)).ws.length : Int) ≤ 1000 ∧ ∀ x ∈ (joinG (iW ML s)).ns, (x.ks.length : Int) ≤ 1000 := by
  cases h : iW ML s with
  | error f => exact ⟨by simp [joinG], by simp [joinG], by simp [joinG], by simp [joinG], fun x hx => by simp [joinG] at hx⟩
  | ok g =>
    have hl := join_laid h
    have h1 := hl.len
    have h2 := hl.heads
    have h3 := hl.waters
    have h4 := cnt_small8 ML fun m hm => (hok m hm).2.2
    show ((g.ms.length : Nat) : Int) ≤ 1000 ∧ ((g.ns.length : Nat) : Int) ≤ 1000 ∧ ((g.hs.length : Nat) : Int) ≤ 1000 ∧ ((g.ws.length : Nat) : Int) ≤ 1000 ∧ ∀ x ∈ g.ns, (x.ks.length : Int) ≤ 1000
    refine ⟨by rw [hl.ms, List.length_map]; omega, by omega, by omega, by omega, fun x hx => ?_⟩
    obtain ⟨p, hp⟩ := List.mem_iff_getElem?.1 hx
    have := hl.kl hp
    omega
/-- A module of a row told again, its name another. -/
theorem MB.more {w0 w2 w3 : World} {D n : Nat} {v' : Value} {S R : Nat → Prop} {Z : List Mz} {z : Mz} (hD : D ≤ w0.heap.size)
    (h1 : ∀ b, R b ∨ S b → D ≤ b ∧ b < w0.heap.size) (h2 : ∀ b, R b → ¬ S b) (h5 : ∀ z ∈ Z, MIn w0 R n z) (hz : MIn w0 R n z) (hb2 : Below w0.heap.size w0 w2)
    (hw : Win (fun b => S b ∨ w2.heap.size ≤ b) 35 11 w3 v' (Z.length + 1) (Z.flatMap iD ++ iD z)) (hb3 : But S w2 w3) : MB w3 D v' (Z.map (·.m) ++ [z.m]) := by
  have s2 := hb2.size
  have s3 := hb3.size
  refine ⟨fun b => (S b ∨ w2.heap.size ≤ b) ∧ b < w3.heap.size, R, Z ++ [z], n, ?_, ?_, by simp, ?_, ?_⟩
  · intro b hb
    rcases hb with hb | ⟨hb | hb, hlt⟩
    · have := h1 b (.inl hb); omega
    · have := h1 b (.inr hb); omega
    · omega
  · rintro b hb ⟨hs, hlt⟩
    rcases hs with hs | hs
    · exact h2 b hb hs
    · have := h1 b (.inl hb); omega
  · rw [List.length_append, List.flatMap_append]
    have e : List.flatMap iD [z] = iD z := by simp
    rw [e]
    exact hw.mono fun b hb hs => ⟨hs, hb⟩
  · intro y hy
    have hk : ∀ y, MIn w0 R n y → MIn w3 R n y := fun y h => (h.but (But.of_below (S := fun _ => False) hb2) (fun _ _ _ h => h)).but hb3 (fun j _ hj => h2 j hj)
    rw [List.mem_append, List.mem_singleton] at hy
    rcases hy with hy | rfl
    · exact hk y (h5 y hy)
    · exact hk _ hz


set_option maxRecDepth 1000000 in
set_option maxHeartbeats 6400000 in
theorem jtells_walk (l : List ByteArray) (ao : Option Addr) (cap : Nat) (s : ByteArray) (tw : Nat) (htw : tw < 256) (w : World) (hl : gI w ao l) (hmx : Mx w) : Calls Tryz.prog 3 #[.slice ao l.length cap, .string s, .int .u8 (tw : Int)] w fun e w' => e = .returned (.bool true) ∧ Below w.heap.size w w' := by
  have HPA := Lib.hid (parsed11b_any l ao cap w hl)
  have HAW := Lib.hid (fun W (hW : Mx W) => awake11_any W hW)
  have HX := Lib.hid hmx
  have HXW := Lib.hid hmx
  obtain ⟨PO, hPO⟩ : ∃ r, mX l = r := ⟨_, rfl⟩
  have HPO := Lib.hid hPO
  rw [hPO] at HPA
  obtain ⟨nl, hnl⟩ : ∃ n, l.length = n := ⟨_, rfl⟩
  rw [hnl] at HPA ⊢
  clear hl hmx hPO hnl
  go_enter Tryz.func3, Tryz.ntmps3
  go_wp2_with fail
  refine HPA.out.mono ?_
  rintro e w2 ⟨hP, hb2⟩
  have HB2 := Lib.hid hb2
  have HX2 := Lib.hid (HX.out.below hb2)
  clear hb2 HPA HX
  cases PO with
  | none =>
    have hP' : e = .returned (.tuple #[.slice none 0 0, .bool false]) := hP
    subst hP'
    go_wp2_with fail
    refine (HAW.out w2 HX2.out).mono ?_
    rintro e w3 ⟨rfl, hb3⟩
    go_wp2
    go_ret
    exact ⟨rfl, HB2.out.trans (hb3.mono HB2.out.size)⟩
  | some ML =>
    obtain ⟨mo, mc, he, hM⟩ : ∃ mo mc, e = .returned (.tuple #[.slice mo ML.length mc, .bool true]) ∧ MB w2 w.heap.size (.slice mo ML.length mc) ML := hP
    subst he
    by_cases hs : (50 : Int) < (s.size : Int)
    · have hs1 : decide ((50 : Int) < (s.size : Int)) = true := decide_eq_true hs
      have hs2 : decide (50 < s.size) = true := decide_eq_true (by omega)
      clear hM
      go_wp2_with fail
      refine (HAW.out w2 HX2.out).mono ?_
      rintro e w3 ⟨rfl, hb3⟩
      go_wp2
      go_ret
      exact ⟨rfl, HB2.out.trans (hb3.mono HB2.out.size)⟩
    · have hs1 : decide ((50 : Int) < (s.size : Int)) = false := decide_eq_false hs
      have hs2 : decide (50 < s.size) = false := decide_eq_false (by omega)
      have hok := yG HPO.out
      have HOK := Lib.hid hok.1
      have H5 := Lib.hid hok.2
      have HS50 := Lib.hid (show s.size ≤ 50 from by omega)
      have HM0 := Lib.hid (show MB w2 w.heap.size (.slice mo (exM ML 0).length mc) (exM ML 0) from by rw [exM_zero]; exact hM)
      have HL0 := Lib.hid (show (exM ML 0).length = ML.length from by rw [exM_zero])
      obtain ⟨nm, hnm⟩ : ∃ n, ML.length = n := ⟨_, rfl⟩
      have HNM := Lib.hid hnm
      rw [hnm] at HL0 ⊢
      clear hM hok hnm HPO
      go_wp2_with fail
      go_loopw [7, 9] (fun v7 v9 wr => ∃ (i k : Nat) (mo : Option Addr) (mc : Nat), v7 = .slice mo k mc ∧ v9 = .int .i64 (i : Int) ∧ i ≤ 3 ∧ k ≤ 8 ∧ Hid ((exM ML i).length = k) ∧ Hid (MB wr w.heap.size (.slice mo k mc) (exM ML i)) ∧ Hid (Below w.heap.size w wr) ∧ Hid (Mx wr)) (fun _ v9 _ => 4 - (intOf v9).toNat)
      case atStart => exact ⟨0, nm, mo, mc, rfl, rfl, by omega, by have := H5.out; have := HNM.out; omega, HL0, by rw [← HL0.out]; exact HM0, HB2, HX2⟩
      case round =>
        obtain ⟨i, k, mo, mc, rfl, rfl, hi3, hk8, HLK, HM, HB, HXR⟩ := hrel
        clear HM0 HB2 HX2 HL0
        obtain ⟨wo, h⟩ : ∃ z, z = wr := ⟨_, rfl⟩
        subst h
        obtain ⟨q, hq⟩ : ∃ q : Int, q = (tw : Int).tmod 4 := ⟨_, rfl⟩
        have HQ4 := Lib.hid (show 0 ≤ q ∧ q ≤ 3 from by rw [hq]; have := Int.tmod_lt_of_pos (tw : Int) (show (0 : Int) < 4 by decide); have := Int.tmod_nonneg 4 (show (0 : Int) ≤ (tw : Int) by omega); omega)
        have hrem0 : IntKind.u8.wrap ((tw : Int).tmod 4) = q := by rw [← hq, IntKind.wrap_u8]; have := HQ4.out; omega
        have hrem1 : IntKind.i64.wrap q = q := by rw [IntKind.wrap_i64]; have := HQ4.out; omega
        have hq' : (tw : Int).tmod 4 = q := hq.symm
        have HQV := Lib.hid hq
        clear hq
        by_cases hc : (i : Int) < q
        · have g1 : decide ((i : Int) < q) = true := decide_eq_true hc
          by_cases hk0 : k = 0
          case pos =>
            subst hk0
            have g2 : decide ((0 : Int) < ((0 : Nat) : Int)) = false := rfl
            have hok8 := exM_ok hi3 HOK.out
            have hlen8 : (exM ML i).length ≤ 8 := by rw [HLK.out]; exact hk8
            have hfw := ok_few hok8 hlen8
            have HJP := Lib.hid (pjoin_any (exM ML i) mo mc w.heap.size hok8 hlen8 hfw s (by have := HS50.out; omega) wo HM.out.has HXR.out)
            have HJR := Lib.hid (fun W (hb : Below wo.heap.size wo W) => Et (exM ML i) mo mc w.heap.size hok8 hlen8 hfw s (by have := HS50.out; omega) W (HM.out.has.below hb))
            have hsm := joinG_small (s := s) hok8 hlen8
            rw [HLK.out] at HJP HJR
            generalize iW (exM ML i) s = r at *
            have HFM := Lib.hid (fun e W D (h : JoE D r e W) => h.form)
            obtain ⟨gr, hgr⟩ : ∃ z, joinG r = z := ⟨_, rfl⟩
            obtain ⟨f1, hf1⟩ : ∃ z, (joinF r).1 = z := ⟨_, rfl⟩
            obtain ⟨f2, hf2⟩ : ∃ z, (joinF r).2.1 = z := ⟨_, rfl⟩
            obtain ⟨f3, hf3⟩ : ∃ z, (joinF r).2.2 = z := ⟨_, rfl⟩
            rw [hgr] at hsm
            simp only [hgr, hf1, hf2, hf3] at HFM
            have HSS := Lib.hid (fun a b W (hA : dG W gr a) (hB : dG W gr b) => same11_any gr a b hsm.1 hsm.2.1 hsm.2.2.1 hsm.2.2.2.1 hsm.2.2.2.2 W hA hB)
            unfold grv at HFM HSS
            obtain ⟨nms, hnms⟩ : ∃ z, gr.ms.length = z := ⟨_, rfl⟩
            obtain ⟨nns, hnns⟩ : ∃ z, gr.ns.length = z := ⟨_, rfl⟩
            obtain ⟨nhs, hnhs⟩ : ∃ z, gr.hs.length = z := ⟨_, rfl⟩
            obtain ⟨nws, hnws⟩ : ∃ z, gr.ws.length = z := ⟨_, rfl⟩
            obtain ⟨st, hst⟩ : ∃ z, gr.st = z := ⟨_, rfl⟩
            simp only [hnms, hnns, hnhs, hnws, hst] at HFM HSS
            clear hok8 hlen8 hfw hsm hgr hf1 hf2 hf3 hnms hnns hnhs hnws hst
            go_wp2_with fail
            refine HJP.out.mono ?_
            rintro e w3 ⟨hJ, hb3⟩
            obtain ⟨ga, he, hG1⟩ := HFM.out _ _ _ hJ
            subst he
            have HB3 := Lib.hid (HB.out.trans (hb3.mono HB.out.size))
            have HX3 := Lib.hid (HXR.out.below hb3)
            have HW3 := Lib.hid hb3
            clear hJ hb3 HJP
            have hbl : Below w3.heap.size w3 ((w3.alloc (.cells #[.slice ga.mo nms ga.mc, .slice ga.no nns ga.nc, .slice ga.ho nhs ga.hc, .slice ga.wo nws ga.wc, .int .i64 st] 41)).alloc (.cells #[.int .i64 f1, .int .i64 0, .int .i64 f2, .int .i64 f3] 44)) := ((Below.refl _ _).alloc (Nat.le_refl _) _).alloc (by simp) _
            have HOGX := Lib.hid ((Own.fresh w3 41 [.slice ga.mo nms ga.mc, .slice ga.no nns ga.nc, .slice ga.ho nhs ga.hc, .slice ga.wo nws ga.wc, .int .i64 st]).on_alloc (.cells #[.int .i64 f1, .int .i64 0, .int .i64 f2, .int .i64 f3] 44))
            have hof := Own.fresh (w3.alloc (.cells #[.slice ga.mo nms ga.mc, .slice ga.no nns ga.nc, .slice ga.ho nhs ga.hc, .slice ga.wo nws ga.wc, .int .i64 st] 41)) 44 [.int .i64 f1, .int .i64 0, .int .i64 f2, .int .i64 f3]
            have hsz : (w3.alloc (.cells #[.slice ga.mo nms ga.mc, .slice ga.no nns ga.nc, .slice ga.ho nhs ga.hc, .slice ga.wo nws ga.wc, .int .i64 st] 41)).heap.size = w3.heap.size + 1 := by simp
            rw [hsz] at hof
            have HOFX := Lib.hid hof
            clear hof hsz
            go_upto_region 11 with fail
            have e9 : (w3.alloc (.cells #[.slice ga.mo nms ga.mc, .slice ga.no nns ga.nc, .slice ga.ho nhs ga.hc, .slice ga.wo nws ga.wc, .int .i64 st] 41)).heap.size = w3.heap.size + 1 := by simp
            try rw [e9]
            clear e9
            generalize World.alloc (World.alloc w3 _) _ = w4 at *
            obtain ⟨X, hX⟩ : ∃ X, w3.heap.size = X := ⟨_, rfl⟩
            have HXX := Lib.hid hX
            rw [hX] at HOGX HOFX
            try rw [hX]
            clear hX
            have HB4 := Lib.hid (HB3.out.trans (hbl.mono HB3.out.size))
            have HX4 := Lib.hid (HX3.out.below hbl)
            have HW4 := Lib.hid (HW3.out.trans (hbl.mono HW3.out.size))
            have HG4 := Lib.hid (hG1.below hbl)
            clear hbl hG1
            go_wp2_with fail
            refine (HJR.out w4 HW4.out).mono ?_
            rintro e w5 ⟨hJ, hb5⟩
            obtain ⟨gb, he, hG2⟩ := HFM.out _ _ _ hJ
            subst he
            have HB5 := Lib.hid (HB4.out.trans (hb5.mono HB4.out.size))
            have HX5 := Lib.hid (HX4.out.below hb5)
            have HG5 := Lib.hid (HG4.out.below hb5)
            have HOGX := Lib.hid (HOGX.out.under hb5 HOGX.out.lt)
            have HOFX := Lib.hid (HOFX.out.under hb5 HOFX.out.lt)
            clear hJ hb5 HJR
            have hbl : Below w5.heap.size w5 ((w5.alloc (.cells #[.slice gb.mo nms gb.mc, .slice gb.no nns gb.nc, .slice gb.ho nhs gb.hc, .slice gb.wo nws gb.wc, .int .i64 st] 41)).alloc (.cells #[.int .i64 f1, .int .i64 0, .int .i64 f2, .int .i64 f3] 44)) := ((Below.refl _ _).alloc (Nat.le_refl _) _).alloc (by simp) _
            have HOGY := Lib.hid ((Own.fresh w5 41 [.slice gb.mo nms gb.mc, .slice gb.no nns gb.nc, .slice gb.ho nhs gb.hc, .slice gb.wo nws gb.wc, .int .i64 st]).on_alloc (.cells #[.int .i64 f1, .int .i64 0, .int .i64 f2, .int .i64 f3] 44))
            have hof := Own.fresh (w5.alloc (.cells #[.slice gb.mo nms gb.mc, .slice gb.no nns gb.nc, .slice gb.ho nhs gb.hc, .slice gb.wo nws gb.wc, .int .i64 st] 41)) 44 [.int .i64 f1, .int .i64 0, .int .i64 f2, .int .i64 f3]
            have hsz : (w5.alloc (.cells #[.slice gb.mo nms gb.mc, .slice gb.no nns gb.nc, .slice gb.ho nhs gb.hc, .slice gb.wo nws gb.wc, .int .i64 st] 41)).heap.size = w5.heap.size + 1 := by simp
            rw [hsz] at hof
            have HOFY := Lib.hid hof
            clear hof hsz
            go_upto_region 12 with fail
            have e9 : (w5.alloc (.cells #[.slice gb.mo nms gb.mc, .slice gb.no nns gb.nc, .slice gb.ho nhs gb.hc, .slice gb.wo nws gb.wc, .int .i64 st] 41)).heap.size = w5.heap.size + 1 := by simp
            try rw [e9]
            clear e9
            generalize World.alloc (World.alloc w5 _) _ = w6 at *
            obtain ⟨Y, hX⟩ : ∃ X, w5.heap.size = X := ⟨_, rfl⟩
            have HXY := Lib.hid hX
            rw [hX] at HOGY HOFY
            try rw [hX]
            clear hX
            have HB6 := Lib.hid (HB5.out.trans (hbl.mono HB5.out.size))
            have HX6 := Lib.hid (HX5.out.below hbl)
            have HG6 := Lib.hid (HG5.out.below hbl)
            have HH6 := Lib.hid (hG2.below hbl)
            have HOGX := Lib.hid (HOGX.out.under hbl HOGX.out.lt)
            have HOFX := Lib.hid (HOFX.out.under hbl HOFX.out.lt)
            clear hbl hG2
            go_wp2_with fail
            refine (HAW.out w6 HX6.out).mono ?_
            rintro e w7 ⟨rfl, hb7⟩
            have HB7 := Lib.hid (HB6.out.trans (hb7.mono HB6.out.size))
            have HG7 := Lib.hid (HG6.out.below hb7)
            have HH7 := Lib.hid (HH6.out.below hb7)
            have HOGX := Lib.hid (HOGX.out.under hb7 HOGX.out.lt)
            have HOFX := Lib.hid (HOFX.out.under hb7 HOFX.out.lt)
            have HOGY := Lib.hid (HOGY.out.under hb7 HOGY.out.lt)
            have HOFY := Lib.hid (HOFY.out.under hb7 HOFY.out.lt)
            clear hb7
            obtain ⟨gX0, gX1, gX2, gX3, gX4, gXl⟩ := oG HOGX.out
            have fX0 : w7.cell? ⟨X + 1, 0, none⟩ = some (.int .i64 f1) := HOFX.out.cell 0
            have fX1 : w7.cell? ⟨X + 1, 1, none⟩ = some (.int .i64 0) := HOFX.out.cell 1
            have fX2 : w7.cell? ⟨X + 1, 2, none⟩ = some (.int .i64 f2) := HOFX.out.cell 2
            have fX3 : w7.cell? ⟨X + 1, 3, none⟩ = some (.int .i64 f3) := HOFX.out.cell 3
            have fXl := HOFX.out.lt
            obtain ⟨gY0, gY1, gY2, gY3, gY4, gYl⟩ := oG HOGY.out
            have fY0 : w7.cell? ⟨Y + 1, 0, none⟩ = some (.int .i64 f1) := HOFY.out.cell 0
            have fY1 : w7.cell? ⟨Y + 1, 1, none⟩ = some (.int .i64 0) := HOFY.out.cell 1
            have fY2 : w7.cell? ⟨Y + 1, 2, none⟩ = some (.int .i64 f2) := HOFY.out.cell 2
            have fY3 : w7.cell? ⟨Y + 1, 3, none⟩ = some (.int .i64 f3) := HOFY.out.cell 3
            have fYl := HOFY.out.lt
            go_wp2_with fail
            refine (HSS.out ga gb w7 HG7.out HH7.out).mono ?_
            rintro e w8 ⟨rfl, hb8⟩
            have HB8 := Lib.hid (HB7.out.trans (hb8.mono HB7.out.size))
            have HOFX := Lib.hid (HOFX.out.under hb8 HOFX.out.lt)
            have HOFY := Lib.hid (HOFY.out.under hb8 HOFY.out.lt)
            clear hb8 gXl gYl fXl fYl gX0 gX1 gX2 gX3 gX4 gY0 gY1 gY2 gY3 gY4 fX0 fX1 fX2 fX3 fY0 fY1 fY2 fY3
            have fX0 : w8.cell? ⟨X + 1, 0, none⟩ = some (.int .i64 f1) := HOFX.out.cell 0
            have fX1 : w8.cell? ⟨X + 1, 1, none⟩ = some (.int .i64 0) := HOFX.out.cell 1
            have fX2 : w8.cell? ⟨X + 1, 2, none⟩ = some (.int .i64 f2) := HOFX.out.cell 2
            have fX3 : w8.cell? ⟨X + 1, 3, none⟩ = some (.int .i64 f3) := HOFX.out.cell 3
            have fXl := HOFX.out.lt
            have fY0 : w8.cell? ⟨Y + 1, 0, none⟩ = some (.int .i64 f1) := HOFY.out.cell 0
            have fY1 : w8.cell? ⟨Y + 1, 1, none⟩ = some (.int .i64 0) := HOFY.out.cell 1
            have fY2 : w8.cell? ⟨Y + 1, 2, none⟩ = some (.int .i64 f2) := HOFY.out.cell 2
            have fY3 : w8.cell? ⟨Y + 1, 3, none⟩ = some (.int .i64 f3) := HOFY.out.cell 3
            have fYl := HOFY.out.lt
            go_wp2
            go_ret
            exact ⟨rfl, HB8.out⟩
          have g2 : decide ((0 : Int) < (k : Int)) = true := decide_eq_true (by omega)
          have hi2 : i ≤ 2 := by have := HQ4.out; omega
          obtain ⟨S, R, Z, nz, s1, s2, s3, s4, s5⟩ := HM.out
          have hzl : Z.length = k := by rw [← List.length_map (f := (·.m)), s3]; exact HLK.out
          obtain ⟨z, Z', hZ⟩ : ∃ z Z', Z = z :: Z' := by cases Z with | nil => (simp at hzl; omega) | cons z r => exact ⟨z, r, rfl⟩
          have hz0 : Z[0]? = some z := by rw [hZ]; rfl
          have hzm : z ∈ Z := by rw [hZ]; exact .head _
          have HFI := Lib.hid (exM_succ i (exM_first i (show (exM ML i)[0]? = some z.m from by rw [← s3, List.getElem?_map, hz0]; rfl)))
          have HS1 := Lib.hid s1
          have HS2 := Lib.hid s2
          have HS3 := Lib.hid s3
          have HS5 := Lib.hid s5
          have HSZ := Lib.hid (s5 z hzm)
          have HLZ := Lib.hid hzl
          rw [hzl] at s4
          have HW := Lib.hid s4
          obtain ⟨g, off, cap, hv, _, _, hg⟩ := s4.has (by omega)
          injection hv with hv1 hv2 hv3
          subst hv1 hv3
          have row : ∀ j, j < 11 → wo.cell? ⟨g, off + j, none⟩ = (iD z)[j]? := fun j hj => by
            rw [s4.cellAt j (by omega)]
            have := A0g Z 0 j z hz0 hj
            rw [Nat.zero_mul, Nat.zero_add] at this
            exact this
          have c0 : wo.cell? ⟨g, off, none⟩ = some (.string z.m.nm) := row 0 (by decide)
          have c1 : wo.cell? ⟨g, off + 1, none⟩ = some (.slice z.io z.m.im.length z.ic) := row 1 (by decide)
          have c2 : wo.cell? ⟨g, off + 2, none⟩ = some (.bool z.m.wet) := row 2 (by decide)
          have c3 : wo.cell? ⟨g, off + 3, none⟩ = some (.int .i64 z.m.wa.op) := row 3 (by decide)
          have c4 : wo.cell? ⟨g, off + 4, none⟩ = some (.string z.m.wa.text) := row 4 (by decide)
          have c5 : wo.cell? ⟨g, off + 5, none⟩ = some (.int .u64 z.m.wa.s0) := row 5 (by decide)
          have c6 : wo.cell? ⟨g, off + 6, none⟩ = some (.int .u64 z.m.wa.s1) := row 6 (by decide)
          have c7 : wo.cell? ⟨g, off + 7, none⟩ = some (.int .u64 z.m.wa.s2) := row 7 (by decide)
          have c8 : wo.cell? ⟨g, off + 8, none⟩ = some (.int .u64 z.m.wa.s3) := row 8 (by decide)
          have c9 : wo.cell? ⟨g, off + 9, none⟩ = some (.slice z.ko z.m.wa.kids.length z.kc) := row 9 (by decide)
          have cA : wo.cell? ⟨g, off + 10, none⟩ = some (.slice z.ro z.m.ru.length z.rc) := row 10 (by decide)
          clear row s1 s2 s3 s4 s5 hZ hz0 hzm hzl
          have HB8 := Lib.hid (show Below wo.heap.size wo (wo.alloc (.cells #[.string z.m.nm, .slice z.io z.m.im.length z.ic, .bool z.m.wet, .int .i64 z.m.wa.op, .string z.m.wa.text, .int .u64 z.m.wa.s0, .int .u64 z.m.wa.s1, .int .u64 z.m.wa.s2, .int .u64 z.m.wa.s3, .slice z.ko z.m.wa.kids.length z.kc, .slice z.ro z.m.ru.length z.rc] 35)) from (Below.refl _ _).alloc (Nat.le_refl _) _)
          have HOX := Lib.hid (Own.fresh wo 35 [.string z.m.nm, .slice z.io z.m.im.length z.ic, .bool z.m.wet, .int .i64 z.m.wa.op, .string z.m.wa.text, .int .u64 z.m.wa.s0, .int .u64 z.m.wa.s1, .int .u64 z.m.wa.s2, .int .u64 z.m.wa.s3, .slice z.ko z.m.wa.kids.length z.kc, .slice z.ro z.m.ru.length z.rc])
          go_upto_region 8 with fail
          generalize World.alloc wo _ = wp at *
          obtain ⟨X, hX⟩ : ∃ X, wo.heap.size = X := ⟨_, rfl⟩
          have HXX := Lib.hid hX
          rw [hX] at HOX
          try rw [hX]
          clear hX c0 c1 c2 c3 c4 c5 c6 c7 c8 c9 cA hg
          have K := jY [97 + (i : Int)]
          simp only [List.map_cons, List.map_nil, List.length_cons, List.length_nil, Nat.zero_add] at K
          have hw1 : IntKind.i64.wrap (97 + (i : Int)) = 97 + (i : Int) := by rw [IntKind.wrap_i64]; omega
          have hw2 : IntKind.u8.wrap (97 + (i : Int)) = 97 + (i : Int) := by rw [IntKind.wrap_u8]; omega
          have hw3 : IntKind.i64.wrap ((i : Int) + 1) = (i : Int) + 1 := by rw [IntKind.wrap_i64]; omega
          have hsz1 : (strOfNums [97 + (i : Int)]).size = 1 := rfl
          have x0 := HOX.out.cell 0
          have xf := HOX.out.thaw 0
          have xl := HOX.out.lt
          go_upto_region 9 with fail
          rw [zz_str i]
          have hbu : But (fun j => j = X) wo ((wp.setCell ⟨X, 0, none⟩ (.string (zzS i))).alloc (.cells #[.int .u8 (97 + (i : Int))] 5)) := (((But.of_below (S := fun j => j = X) HB8.out).setCell (p := ⟨X, 0, none⟩) (fun _ => rfl) (.string (zzS i)))).then_below ((Below.refl _ _).alloc (Nat.le_refl _) _)
          have HBQ := Lib.hid (hbu.below (B := wo.heap.size) (Nat.le_refl _) (fun j e => by have := HXX.out; omega))
          have HOQ := Lib.hid (show Own ((wp.setCell ⟨X, 0, none⟩ (.string (zzS i))).alloc (.cells #[.int .u8 (97 + (i : Int))] 5)) X 35 [.string (zzS i), .slice z.io z.m.im.length z.ic, .bool z.m.wet, .int .i64 z.m.wa.op, .string z.m.wa.text, .int .u64 z.m.wa.s0, .int .u64 z.m.wa.s1, .int .u64 z.m.wa.s2, .int .u64 z.m.wa.s3, .slice z.ko z.m.wa.kids.length z.kc, .slice z.ro z.m.ru.length z.rc] from (HOX.out.put 0 (.string (zzS i))).on_alloc _)
          clear hbu x0 xf xl K hsz1 hw1 hw2
          generalize World.alloc (World.setCell wp _ _) _ = wq at *
          obtain ⟨x0, x1, x2, x3, x4, x5, x6, x7, x8, x9, xA⟩ := HOQ.out.elev
          have xl := HOQ.out.lt
          obtain ⟨i0, hi, hz0, hz1, hz2⟩ := cZ Az
          have HNEW := Lib.hid (fun W => bD W 35 (iD ⟨zzM z.m i, z.io, z.ic, z.ko, z.kc, z.ro, z.rc⟩))
          have HCEL := Lib.hid (show ∀ u ∈ iD ⟨zzM z.m i, z.io, z.ic, z.ko, z.kc, z.ro, z.rc⟩, u.oneCell' = true by intro u hu; simp [iD] at hu; rcases hu with rfl | rfl | rfl | rfl | rfl | rfl | rfl | rfl | rfl | rfl | rfl <;> rfl)
          go_wp2_with (first
            | (at_builtin; refine aX _ rfl _ _ 23 rfl S 35 i0 _ 11 152 Tryz.underlying23 hi hz0 hz1 hz2 rfl (by decide) _ k (Z.flatMap iD) rfl ((HW.out.below HBQ.out).below ((Below.refl _ _).alloc (Nat.le_refl _) _)) ⟨wq.heap.size, 0, none⟩ 1 1 (iD ⟨zzM z.m i, z.io, z.ic, z.ko, z.kc, z.ro, z.rc⟩) rfl rfl (HNEW.out wq) HCEL.out (by unfold maxLen; omega) (by omega) ?_))
          intro v' w4 hw4 hb4
          have hblx : Below wq.heap.size wq (wq.alloc (.cells #[.string (zzS i), .slice z.io z.m.im.length z.ic, .bool z.m.wet, .int .i64 z.m.wa.op, .string z.m.wa.text, .int .u64 z.m.wa.s0, .int .u64 z.m.wa.s1, .int .u64 z.m.wa.s2, .int .u64 z.m.wa.s3, .slice z.ko z.m.wa.kids.length z.kc, .slice z.ro z.m.ru.length z.rc] 35)) := (Below.refl _ _).alloc (Nat.le_refl _) _
          have hbx : Below wo.heap.size wo (wq.alloc (.cells #[.string (zzS i), .slice z.io z.m.im.length z.ic, .bool z.m.wet, .int .i64 z.m.wa.op, .string z.m.wa.text, .int .u64 z.m.wa.s0, .int .u64 z.m.wa.s1, .int .u64 z.m.wa.s2, .int .u64 z.m.wa.s3, .slice z.ko z.m.wa.kids.length z.kc, .slice z.ro z.m.ru.length z.rc] 35)) := HBQ.out.trans (hblx.mono HBQ.out.size)
          have HMN := Lib.hid (show MB w4 w.heap.size v' (exM ML (i + 1)) from by
            rw [HFI.out, ← HS3.out]
            exact MB.more (z := ⟨zzM z.m i, z.io, z.ic, z.ko, z.kc, z.ro, z.rc⟩) HB.out.size HS1.out HS2.out HS5.out HSZ.out hbx (by rw [HLZ.out]; exact hw4.mono (fun j _ h => by simpa using h)) hb4)
          have hbw : Below w.heap.size w w4 := (HB.out.trans (hbx.mono HB.out.size)).trans (hb4.below (B := w.heap.size) (by have := HB.out.size; have := hbx.size; omega) (fun j hs => (HS1.out j (.inr hs)).1))
          have HB4 := Lib.hid hbw
          have HX4 := Lib.hid (HXW.out.below hbw)
          obtain ⟨mo', mc', hv⟩ := HMN.out.form
          have HLN := Lib.hid (show (exM ML (i + 1)).length = k + 1 from by rw [HFI.out, List.length_append, HLK.out]; rfl)
          have hk8' : k + 1 ≤ 8 := by have h1 := exM_len ML (i + 1); have h2 := H5.out; rw [HLN.out] at h1; split at h1 <;> omega
          rw [HLN.out] at hv
          subst hv
          clear hw4 hb4 hblx hbx hbw x0 x1 x2 x3 x4 x5 x6 x7 x8 x9 xA xl
          go_wp2
          go_roundw
          case rel => exact ⟨i + 1, k + 1, mo', mc', rfl, by go_num, by omega, hk8', HLN, HMN, HB4, HX4⟩
          case measure => simp [intOf]; omega
        · have g1 : decide ((i : Int) < q) = false := decide_eq_false hc
          have hok8 := exM_ok hi3 HOK.out
          have hlen8 : (exM ML i).length ≤ 8 := by rw [HLK.out]; exact hk8
          have hfw := ok_few hok8 hlen8
          have HJP := Lib.hid (pjoin_any (exM ML i) mo mc w.heap.size hok8 hlen8 hfw s (by have := HS50.out; omega) wo HM.out.has HXR.out)
          have HJR := Lib.hid (fun W (hb : Below wo.heap.size wo W) => Et (exM ML i) mo mc w.heap.size hok8 hlen8 hfw s (by have := HS50.out; omega) W (HM.out.has.below hb))
          have hsm := joinG_small (s := s) hok8 hlen8
          rw [HLK.out] at HJP HJR
          generalize iW (exM ML i) s = r at *
          have HFM := Lib.hid (fun e W D (h : JoE D r e W) => h.form)
          obtain ⟨gr, hgr⟩ : ∃ z, joinG r = z := ⟨_, rfl⟩
          obtain ⟨f1, hf1⟩ : ∃ z, (joinF r).1 = z := ⟨_, rfl⟩
          obtain ⟨f2, hf2⟩ : ∃ z, (joinF r).2.1 = z := ⟨_, rfl⟩
          obtain ⟨f3, hf3⟩ : ∃ z, (joinF r).2.2 = z := ⟨_, rfl⟩
          rw [hgr] at hsm
          simp only [hgr, hf1, hf2, hf3] at HFM
          have HSS := Lib.hid (fun a b W (hA : dG W gr a) (hB : dG W gr b) => same11_any gr a b hsm.1 hsm.2.1 hsm.2.2.1 hsm.2.2.2.1 hsm.2.2.2.2 W hA hB)
          unfold grv at HFM HSS
          obtain ⟨nms, hnms⟩ : ∃ z, gr.ms.length = z := ⟨_, rfl⟩
          obtain ⟨nns, hnns⟩ : ∃ z, gr.ns.length = z := ⟨_, rfl⟩
          obtain ⟨nhs, hnhs⟩ : ∃ z, gr.hs.length = z := ⟨_, rfl⟩
          obtain ⟨nws, hnws⟩ : ∃ z, gr.ws.length = z := ⟨_, rfl⟩
          obtain ⟨st, hst⟩ : ∃ z, gr.st = z := ⟨_, rfl⟩
          simp only [hnms, hnns, hnhs, hnws, hst] at HFM HSS
          clear hok8 hlen8 hfw hsm hgr hf1 hf2 hf3 hnms hnns hnhs hnws hst
          go_wp2_with fail
          refine HJP.out.mono ?_
          rintro e w3 ⟨hJ, hb3⟩
          obtain ⟨ga, he, hG1⟩ := HFM.out _ _ _ hJ
          subst he
          have HB3 := Lib.hid (HB.out.trans (hb3.mono HB.out.size))
          have HX3 := Lib.hid (HXR.out.below hb3)
          have HW3 := Lib.hid hb3
          clear hJ hb3 HJP
          have hbl : Below w3.heap.size w3 ((w3.alloc (.cells #[.slice ga.mo nms ga.mc, .slice ga.no nns ga.nc, .slice ga.ho nhs ga.hc, .slice ga.wo nws ga.wc, .int .i64 st] 41)).alloc (.cells #[.int .i64 f1, .int .i64 0, .int .i64 f2, .int .i64 f3] 44)) := ((Below.refl _ _).alloc (Nat.le_refl _) _).alloc (by simp) _
          have HOGX := Lib.hid ((Own.fresh w3 41 [.slice ga.mo nms ga.mc, .slice ga.no nns ga.nc, .slice ga.ho nhs ga.hc, .slice ga.wo nws ga.wc, .int .i64 st]).on_alloc (.cells #[.int .i64 f1, .int .i64 0, .int .i64 f2, .int .i64 f3] 44))
          have hof := Own.fresh (w3.alloc (.cells #[.slice ga.mo nms ga.mc, .slice ga.no nns ga.nc, .slice ga.ho nhs ga.hc, .slice ga.wo nws ga.wc, .int .i64 st] 41)) 44 [.int .i64 f1, .int .i64 0, .int .i64 f2, .int .i64 f3]
          have hsz : (w3.alloc (.cells #[.slice ga.mo nms ga.mc, .slice ga.no nns ga.nc, .slice ga.ho nhs ga.hc, .slice ga.wo nws ga.wc, .int .i64 st] 41)).heap.size = w3.heap.size + 1 := by simp
          rw [hsz] at hof
          have HOFX := Lib.hid hof
          clear hof hsz
          go_upto_region 11 with fail
          have e9 : (w3.alloc (.cells #[.slice ga.mo nms ga.mc, .slice ga.no nns ga.nc, .slice ga.ho nhs ga.hc, .slice ga.wo nws ga.wc, .int .i64 st] 41)).heap.size = w3.heap.size + 1 := by simp
          try rw [e9]
          clear e9
          generalize World.alloc (World.alloc w3 _) _ = w4 at *
          obtain ⟨X, hX⟩ : ∃ X, w3.heap.size = X := ⟨_, rfl⟩
          have HXX := Lib.hid hX
          rw [hX] at HOGX HOFX
          try rw [hX]
          clear hX
          have HB4 := Lib.hid (HB3.out.trans (hbl.mono HB3.out.size))
          have HX4 := Lib.hid (HX3.out.below hbl)
          have HW4 := Lib.hid (HW3.out.trans (hbl.mono HW3.out.size))
          have HG4 := Lib.hid (hG1.below hbl)
          clear hbl hG1
          go_wp2_with fail
          refine (HJR.out w4 HW4.out).mono ?_
          rintro e w5 ⟨hJ, hb5⟩
          obtain ⟨gb, he, hG2⟩ := HFM.out _ _ _ hJ
          subst he
          have HB5 := Lib.hid (HB4.out.trans (hb5.mono HB4.out.size))
          have HX5 := Lib.hid (HX4.out.below hb5)
          have HG5 := Lib.hid (HG4.out.below hb5)
          have HOGX := Lib.hid (HOGX.out.under hb5 HOGX.out.lt)
          have HOFX := Lib.hid (HOFX.out.under hb5 HOFX.out.lt)
          clear hJ hb5 HJR
          have hbl : Below w5.heap.size w5 ((w5.alloc (.cells #[.slice gb.mo nms gb.mc, .slice gb.no nns gb.nc, .slice gb.ho nhs gb.hc, .slice gb.wo nws gb.wc, .int .i64 st] 41)).alloc (.cells #[.int .i64 f1, .int .i64 0, .int .i64 f2, .int .i64 f3] 44)) := ((Below.refl _ _).alloc (Nat.le_refl _) _).alloc (by simp) _
          have HOGY := Lib.hid ((Own.fresh w5 41 [.slice gb.mo nms gb.mc, .slice gb.no nns gb.nc, .slice gb.ho nhs gb.hc, .slice gb.wo nws gb.wc, .int .i64 st]).on_alloc (.cells #[.int .i64 f1, .int .i64 0, .int .i64 f2, .int .i64 f3] 44))
          have hof := Own.fresh (w5.alloc (.cells #[.slice gb.mo nms gb.mc, .slice gb.no nns gb.nc, .slice gb.ho nhs gb.hc, .slice gb.wo nws gb.wc, .int .i64 st] 41)) 44 [.int .i64 f1, .int .i64 0, .int .i64 f2, .int .i64 f3]
          have hsz : (w5.alloc (.cells #[.slice gb.mo nms gb.mc, .slice gb.no nns gb.nc, .slice gb.ho nhs gb.hc, .slice gb.wo nws gb.wc, .int .i64 st] 41)).heap.size = w5.heap.size + 1 := by simp
          rw [hsz] at hof
          have HOFY := Lib.hid hof
          clear hof hsz
          go_upto_region 12 with fail
          have e9 : (w5.alloc (.cells #[.slice gb.mo nms gb.mc, .slice gb.no nns gb.nc, .slice gb.ho nhs gb.hc, .slice gb.wo nws gb.wc, .int .i64 st] 41)).heap.size = w5.heap.size + 1 := by simp
          try rw [e9]
          clear e9
          generalize World.alloc (World.alloc w5 _) _ = w6 at *
          obtain ⟨Y, hX⟩ : ∃ X, w5.heap.size = X := ⟨_, rfl⟩
          have HXY := Lib.hid hX
          rw [hX] at HOGY HOFY
          try rw [hX]
          clear hX
          have HB6 := Lib.hid (HB5.out.trans (hbl.mono HB5.out.size))
          have HX6 := Lib.hid (HX5.out.below hbl)
          have HG6 := Lib.hid (HG5.out.below hbl)
          have HH6 := Lib.hid (hG2.below hbl)
          have HOGX := Lib.hid (HOGX.out.under hbl HOGX.out.lt)
          have HOFX := Lib.hid (HOFX.out.under hbl HOFX.out.lt)
          clear hbl hG2
          go_wp2_with fail
          refine (HAW.out w6 HX6.out).mono ?_
          rintro e w7 ⟨rfl, hb7⟩
          have HB7 := Lib.hid (HB6.out.trans (hb7.mono HB6.out.size))
          have HG7 := Lib.hid (HG6.out.below hb7)
          have HH7 := Lib.hid (HH6.out.below hb7)
          have HOGX := Lib.hid (HOGX.out.under hb7 HOGX.out.lt)
          have HOFX := Lib.hid (HOFX.out.under hb7 HOFX.out.lt)
          have HOGY := Lib.hid (HOGY.out.under hb7 HOGY.out.lt)
          have HOFY := Lib.hid (HOFY.out.under hb7 HOFY.out.lt)
          clear hb7
          obtain ⟨gX0, gX1, gX2, gX3, gX4, gXl⟩ := oG HOGX.out
          have fX0 : w7.cell? ⟨X + 1, 0, none⟩ = some (.int .i64 f1) := HOFX.out.cell 0
          have fX1 : w7.cell? ⟨X + 1, 1, none⟩ = some (.int .i64 0) := HOFX.out.cell 1
          have fX2 : w7.cell? ⟨X + 1, 2, none⟩ = some (.int .i64 f2) := HOFX.out.cell 2
          have fX3 : w7.cell? ⟨X + 1, 3, none⟩ = some (.int .i64 f3) := HOFX.out.cell 3
          have fXl := HOFX.out.lt
          obtain ⟨gY0, gY1, gY2, gY3, gY4, gYl⟩ := oG HOGY.out
          have fY0 : w7.cell? ⟨Y + 1, 0, none⟩ = some (.int .i64 f1) := HOFY.out.cell 0
          have fY1 : w7.cell? ⟨Y + 1, 1, none⟩ = some (.int .i64 0) := HOFY.out.cell 1
          have fY2 : w7.cell? ⟨Y + 1, 2, none⟩ = some (.int .i64 f2) := HOFY.out.cell 2
          have fY3 : w7.cell? ⟨Y + 1, 3, none⟩ = some (.int .i64 f3) := HOFY.out.cell 3
          have fYl := HOFY.out.lt
          go_wp2_with fail
          refine (HSS.out ga gb w7 HG7.out HH7.out).mono ?_
          rintro e w8 ⟨rfl, hb8⟩
          have HB8 := Lib.hid (HB7.out.trans (hb8.mono HB7.out.size))
          have HOFX := Lib.hid (HOFX.out.under hb8 HOFX.out.lt)
          have HOFY := Lib.hid (HOFY.out.under hb8 HOFY.out.lt)
          clear hb8 gXl gYl fXl fYl gX0 gX1 gX2 gX3 gX4 gY0 gY1 gY2 gY3 gY4 fX0 fX1 fX2 fX3 fY0 fY1 fY2 fY3
          have fX0 : w8.cell? ⟨X + 1, 0, none⟩ = some (.int .i64 f1) := HOFX.out.cell 0
          have fX1 : w8.cell? ⟨X + 1, 1, none⟩ = some (.int .i64 0) := HOFX.out.cell 1
          have fX2 : w8.cell? ⟨X + 1, 2, none⟩ = some (.int .i64 f2) := HOFX.out.cell 2
          have fX3 : w8.cell? ⟨X + 1, 3, none⟩ = some (.int .i64 f3) := HOFX.out.cell 3
          have fXl := HOFX.out.lt
          have fY0 : w8.cell? ⟨Y + 1, 0, none⟩ = some (.int .i64 f1) := HOFY.out.cell 0
          have fY1 : w8.cell? ⟨Y + 1, 1, none⟩ = some (.int .i64 0) := HOFY.out.cell 1
          have fY2 : w8.cell? ⟨Y + 1, 2, none⟩ = some (.int .i64 f2) := HOFY.out.cell 2
          have fY3 : w8.cell? ⟨Y + 1, 3, none⟩ = some (.int .i64 f3) := HOFY.out.cell 3
          have fYl := HOFY.out.lt
          go_wp2
          go_ret
          exact ⟨rfl, HB8.out⟩
end Go.Proofs.YthkdnehgamefiaaGreat
