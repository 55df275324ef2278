/- A module's head, walked. -/
import Derived.Test.YtihcmneidbjmlaaGq
namespace Go.Proofs.Ytihcmneidbjmlaa
set_option linter.unusedVariables false
open Go.RowKit Go.Sort

theorem nmG_ge (L : List Tok) (l : List ByteArray) (k : Nat) : k ≤ (nmG k (nmeO L l k)).2.1 := by
  unfold nmeO
  split
  · split
    · exact Nat.le_refl _
    · exact Nat.le_succ _
  · exact Nat.le_refl _
theorem sgG_ge (L : List Tok) (s : List UInt8) (k : Nat) (F : Option Ft2) : k ≤ (sgG L s k F).1 := by
  cases F with
  | some f => exact Nat.le_refl _
  | none =>
    show k ≤ (sgnE L s k (sgnO L s k)).1
    unfold sgnO
    split
    · exact Nat.le_succ _
    · exact Nat.le_refl _
/-- Texts in memory, in blocks of R. -/
def HasNR (w : World) (R : Nat → Prop) (ao : Option Addr) (l : List ByteArray) : Prop := ∀ k x, l[k]? = some x → ∃ b off, ao = some ⟨b, off, none⟩ ∧ b < w.heap.size ∧ R b ∧ w.cell? ⟨b, off + k, none⟩ = some (.string x)
theorem HasNR.hasN {w : World} {R : Nat → Prop} {ao : Option Addr} {l : List ByteArray} (h : HasNR w R ao l) : HasN w ao l := fun k x hx => by
  obtain ⟨b, off, e, hlt, _, c⟩ := h k x hx
  exact ⟨b, off, e, hlt, c⟩
theorem HasNR.but {S R : Nat → Prop} {w w' : World} {ao : Option Addr} {l : List ByteArray} (h : HasNR w R ao l) (hb : But S w w') (hS : ∀ j, j < w.heap.size → R j → ¬ S j) : HasNR w' R ao l := fun k x hx => by
  obtain ⟨b, off, e, hlt, hr, c⟩ := h k x hx
  exact ⟨b, off, e, Nat.lt_of_lt_of_le hlt hb.size, hr, hb.cell (hS b hlt hr) c⟩
theorem HasNR.mono {R T : Nat → Prop} {w : World} {ao : Option Addr} {l : List ByteArray} (h : HasNR w R ao l) (hR : ∀ b, b < w.heap.size → R b → T b) : HasNR w T ao l := fun k x hx => by
  obtain ⟨b, off, e, hlt, hr, c⟩ := h k x hx
  exact ⟨b, off, e, hlt, hR b hlt hr, c⟩
theorem hasNR_of {S : Nat → Prop} {w : World} {ao : Option Addr} {n c : Nat} {l : List ByteArray} (h : Win S 9 1 w (.slice ao n c) n (l.map Value.string)) : HasNR w S ao l := fun k x hx => by
  have hk : k < l.length := (List.getElem?_eq_some_iff.1 hx).1
  have hn : l.length = n := by have := h.1; simpa using this
  obtain ⟨ao', cap, e1, h1, h2, hf⟩ := h.form
  injection e1 with e1 e2 e3
  subst e1
  obtain ⟨g, off, e, hs, hg, hc, _⟩ := hf k (by omega)
  exact ⟨g, off, e, hg, hs, by rw [hc, List.getElem?_map, hx]; rfl⟩
def HedE (D g : Nat) (lo : Option Addr) (lc : Nat) (L : List Tok) (NN : Nat) (r : Except Ft2 (Md × Nat)) (m : Md) (io ko : Option Addr) (w' : World) : Prop := match r with
  | .ok (x, k) => x = m ∧ k ≤ NN ∧ Pd w' g lo lc L k none ∧ HasNR w' (fun b => D ≤ b) io m.im ∧ ∃ n, HasE w' D n ko m.wa.kids
  | .error f => ∃ k', k' ≤ NN ∧ Pd w' g lo lc L k' (some f)
def watR (nm : ByteArray) (im : List ByteArray) : Rs → Except Ft2 (Md × Nat)
  | .error e => .error e
  | .ok (x, m) => .ok (⟨nm, im, true, x, []⟩, m)
theorem watO_q (L : List Tok) (nm : ByteArray) (im : List ByteArray) (k : Nat) : watO L nm im k = if wdB L k 1 [119, 97, 116, 101, 114] = true then watR nm im (bodO L (k + 1)) else .ok (⟨nm, im, false, ex0, []⟩, k) := by
  unfold watO
  split
  · cases bodO L (k + 1) <;> rfl
  · rfl
/-- How the imports stand. -/
def ImQ (L : List Tok) (RES : Except Ft2 (Md × Nat)) (nm : ByteArray) (im : List ByteArray) (k : Nat) : Option Ft2 → Prop
  | none => ∃ f, RES = hdT L nm (impL L nm f im k) ∧ L.length < f + k
  | some f => RES = .error f

set_option maxRecDepth 1000000 in
set_option maxHeartbeats 3200000 in
theorem p_head (NN g : Nat) (lo : Option Addr) (lc : Nat) (L : List Tok) (hn : (L.length : Int) ≤ 90000) (hL : 0 < L.length) (htx : ∀ t ∈ L, t.tx.size ≤ 1000000) (hNN : NN + 1 = L.length) (HNB : ∀ k, (tkA L k).kd ≠ 0 → k < NN) (w : World) (h : Pd w g lo lc L 0 none) :
    Calls Try.prog 25 #[.pointer (some ⟨g, 0, none⟩), .agg #[.string ⟨#[]⟩, .slice none 0 0, .bool false, .int .i64 0, .string ⟨#[]⟩, .int .u64 0, .int .u64 0, .int .u64 0, .int .u64 0, .slice none 0 0, .slice none 0 0]] w fun e w' => But (fun j => j = g) w w' ∧ ∃ m io ic ko kc, e = .returned (mdv m io ic ko kc (.slice none 0 0)) ∧ HedE w.heap.size g lo lc L NN (hedO L) m io ko w' := by
  have HH := Lib.hid h
  have HBB := Lib.hid HNB
  have HWD := Lib.hid (fun (s : ByteArray) (m : Nat) (hm : m < L.length) (F : Option Ft2) W (hW : Pd W g lo lc L m F) => p_word 1 s g lo lc L m F hn hm W hW)
  have HFL := Lib.hid (fun (c : Int) (hc : c ≠ 0) (m : Nat) (hm : m < L.length) W (hW : Pd W g lo lc L m none) => p_fail c hc g lo lc L m none hn hm W hW)
  have HSG := Lib.hid (fun (s : ByteArray) (m : Nat) (hm : m < L.length) (F : Option Ft2) W (hW : Pd W g lo lc L m F) => p_sign_g s g lo lc L m F hn hm W hW)
  have HNM := Lib.hid (fun (l : List ByteArray) (ao : Option Addr) (cap : Nat) (hl : (l.length : Int) ≤ 90000) (m : Nat) (hm : m < L.length) W (hW : Pd W g lo lc L m none) (hN : HasN W ao l) => p_name_g l ao cap hl g lo lc L m hn hm htx W hW hN)
  have HBO := Lib.hid (fun (m : Nat) (hm : m < L.length) W (hW : Pd W g lo lc L m none) => p_body NN g lo lc L m hn hm htx (by omega) HNB W hW)
  obtain ⟨OS, hOS⟩ : ∃ OS : List Obj, OS = [.cells #[.string ⟨#[]⟩, .slice none 0 0, .bool false, .int .i64 0, .string ⟨#[]⟩, .int .u64 0, .int .u64 0, .int .u64 0, .int .u64 0, .slice none 0 0, .slice none 0 0] 39, .cells #[.string ⟨#[]⟩, .slice none 0 0, .bool false, .int .i64 0, .string ⟨#[]⟩, .int .u64 0, .int .u64 0, .int .u64 0, .int .u64 0, .slice none 0 0, .slice none 0 0] 39] := ⟨_, rfl⟩
  obtain ⟨A, hA⟩ : ∃ A, w.heap.size = A := ⟨_, rfl⟩
  obtain ⟨B, hB⟩ : ∃ B, A + 1 = B := ⟨_, rfl⟩
  have HN := Lib.hid (show A + 1 = B ∧ w.heap.size = A ∧ g < A from ⟨hB, hA, by have := h.1.lt; omega⟩)
  have HA := Lib.hid (show Own (made w OS) A 39 [.string ⟨#[]⟩, .slice none 0 0, .bool false, .int .i64 0, .string ⟨#[]⟩, .int .u64 0, .int .u64 0, .int .u64 0, .int .u64 0, .slice none 0 0, .slice none 0 0] by rw [← hA]; exact made_own OS w 0 _ _ (by rw [hOS]; rfl))
  have HB := Lib.hid (show Own (made w OS) B 39 [.string ⟨#[]⟩, .slice none 0 0, .bool false, .int .i64 0, .string ⟨#[]⟩, .int .u64 0, .int .u64 0, .int .u64 0, .int .u64 0, .slice none 0 0, .slice none 0 0] by rw [← hB, ← hA]; exact made_own OS w 1 _ _ (by rw [hOS]; rfl))
  have HP := Lib.hid (h.below (made_below w OS w (Below.refl _ _)))
  have HU := Lib.hid (But.of_below (S := fun j => j = g) (made_below w OS w (Below.refl _ _)))
  have HSP := Lib.hid (hedO_q L)
  have hW : (w.alloc (.cells #[.string ⟨#[]⟩, .slice none 0 0, .bool false, .int .i64 0, .string ⟨#[]⟩, .int .u64 0, .int .u64 0, .int .u64 0, .int .u64 0, .slice none 0 0, .slice none 0 0] 39)).alloc (.cells #[.string ⟨#[]⟩, .slice none 0 0, .bool false, .int .i64 0, .string ⟨#[]⟩, .int .u64 0, .int .u64 0, .int .u64 0, .int .u64 0, .slice none 0 0, .slice none 0 0] 39) = made w OS := by rw [hOS]; rfl
  generalize hedO L = RES at *
  obtain ⟨z, hz⟩ : ∃ z, wdB L 0 1 [109, 111, 100, 117, 108, 101] = z := ⟨_, rfl⟩
  have HZ := Lib.hid hz
  have HW1 := Lib.hid (HWD.out ⟨#[109, 111, 100, 117, 108, 101]⟩ 0 hL none)
  rw [show (⟨#[109, 111, 100, 117, 108, 101]⟩ : ByteArray).data.toList = [109, 111, 100, 117, 108, 101] from rfl, hz] at HW1
  rw [hz] at HSP
  clear hOS h HNB htx hz
  go_enter Try.func25, Try.ntmps25
  go_upto_region 1 with fail
  try rw [hA]
  clear hA hB hW
  generalize made w OS = w1 at *
  go_wp2_with fail
  refine (HW1.out _ HP.out).mono ?_
  rintro e w2 ⟨rfl, hb⟩
  have HA2 := Lib.hid (HA.out.under hb HA.out.lt)
  have HB2 := Lib.hid (HB.out.under hb HB.out.lt)
  have HP2 := Lib.hid (HP.out.below hb)
  have HU2 := Lib.hid (HU.out.then_below hb)
  clear hb HA HB HP HU HW1
  have ne1 : ¬ A = B := by have := HN.out; omega
  have ne2 : ¬ B = A := by have := HN.out; omega
  have ne3 : ¬ A = g := by have := HN.out; omega
  have ne4 : ¬ g = A := by have := HN.out; omega
  have ne5 : ¬ B = g := by have := HN.out; omega
  have ne6 : ¬ g = B := by have := HN.out; omega
  cases z
  case false =>
    have HE := Lib.hid (HSP.out.trans (if_neg (by decide)))
    have HUc := HU2
    go_wp2_with fail
    refine (HFL.out 2 (by decide) 0 (by omega) _ HP2.out).mono ?_
    rintro e w3 ⟨rfl, hbu, hp⟩
    have HA3 := Lib.hid (HA2.out.but hbu (by have := HN.out; omega))
    have HB3 := Lib.hid (HB2.out.but hbu (by have := HN.out; omega))
    have HUf := Lib.hid (HUc.out.trans hbu (fun _ _ h => h))
    have HPf := Lib.hid (show Pd w3 g lo lc L (0) (some (faultAt L 2 (0))) from hp)
    clear hbu hp
    obtain ⟨a0, a1, a2, a3, a4, a5, a6, a7, a8, a9, aA⟩ := HA3.out.elev
    have al := HA3.out.lt
    obtain ⟨b0, b1, b2, b3, b4, b5, b6, b7, b8, b9, bA⟩ := HB3.out.elev
    obtain ⟨f0, f1, f2, f3, f4, f5, f6, f7, f8, f9, fA⟩ := HB3.out.elevf
    have bl := HB3.out.lt
    go_wp2
    rw [setEl_fold]
    have HF := HB3.out.putEl (.string ⟨#[]⟩) (.slice none 0 0) (.bool false) (.int .i64 0) (.string ⟨#[]⟩) (.int .u64 0) (.int .u64 0) (.int .u64 0) (.int .u64 0) (.slice none 0 0) (.slice none 0 0)
    have HBW := Lib.hid (But.setEl w3 B (.string ⟨#[]⟩) (.slice none 0 0) (.bool false) (.int .i64 0) (.string ⟨#[]⟩) (.int .u64 0) (.int .u64 0) (.int .u64 0) (.int .u64 0) (.slice none 0 0) (.slice none 0 0))
    have HU9 := Lib.hid (HUf.out.trans HBW.out (fun j hj e => by have := HN.out; omega))
    have HP9 := Lib.hid (Pd.butx HH.out HU9.out HPf.out HBW.out (by have := HN.out; omega))
    clear a0 a1 a2 a3 a4 a5 a6 a7 a8 a9 aA al b0 b1 b2 b3 b4 b5 b6 b7 b8 b9 bA f0 f1 f2 f3 f4 f5 f6 f7 f8 f9 fA bl
    generalize setEl _ B _ _ _ _ _ _ _ _ _ _ _ = w99 at *
    obtain ⟨z0, z1, z2, z3, z4, z5, z6, z7, z8, z9, zA⟩ := HF.elev
    refine bodyPost_ret (by simp [results, Try.results25, go_sem, z0, z1, z2, z3, z4, z5, z6, z7, z8, z9, zA]; rfl) rfl ?_
    rw [HE.out, HN.out.2.1]
    exact ⟨HU9.out, md0, none, 0, none, 0, rfl, 0, Nat.zero_le _, HP9.out⟩
  case true =>
    have HS1 := Lib.hid (HSP.out.trans (if_pos rfl))
    have h1N : 1 ≤ NN := wdB_be HBB.out (by decide) HZ.out
    have h1L : 1 < L.length := by omega
    obtain ⟨c0, c1, c2, c3, c4, c5, cg⟩ := HP2.out.1.six_r
    obtain ⟨d1, d2, d3, d4, d5⟩ := HP2.out.1.six_f
    have c1' : w2.cell? ⟨g, 1, none⟩ = some (.int .i64 0) := c1
    have HP3 := Lib.hid (HP2.out.at1 1 (.int .i64 1) rfl)
    have HU3 := Lib.hid (HU2.out.setCell (p := ⟨g, 1, none⟩) (fun _ => rfl) (.int .i64 1))
    have HA3 := Lib.hid (HA2.out.off (p := ⟨g, 1, none⟩) ne3 (.int .i64 1))
    have HB3 := Lib.hid (HB2.out.off (p := ⟨g, 1, none⟩) ne5 (.int .i64 1))
    clear c1
    go_upto_region 5 with fail
    clear c0 c1' c2 c3 c4 c5 cg d1 d2 d3 d4 d5 HP2 HU2 HA2 HB2 HSP
    generalize World.setCell w2 _ _ = w3 at *
    obtain ⟨r, hr⟩ : ∃ r, nmeO L [] 1 = r := ⟨_, rfl⟩
    have HQ1 := Lib.hid (thenQ_in (k := 1) HS1.out)
    have HNC := Lib.hid (HNM.out [] none 0 (by decide) 1 h1L w3 HP3.out (HasN.nil _ _))
    have HK1 := Lib.hid (nmG_be (l := []) HBB.out h1N)
    rw [hr] at HNC HQ1 HK1
    obtain ⟨nm, hnm⟩ : ∃ x, (nmG 1 r).1 = x := ⟨_, rfl⟩
    obtain ⟨k1, hk1⟩ : ∃ x, (nmG 1 r).2.1 = x := ⟨_, rfl⟩
    obtain ⟨F1, hF1⟩ : ∃ x, (nmG 1 r).2.2 = x := ⟨_, rfl⟩
    rw [hnm, hk1, hF1] at HNC HQ1
    rw [hk1] at HK1
    clear hr hnm hk1 hF1 HS1
    go_wp2_with fail
    refine HNC.out.mono ?_
    rintro e w4 ⟨rfl, hp, hbu⟩
    have HP4 := Lib.hid hp
    have HU4 := Lib.hid (HU3.out.trans hbu (fun _ _ h => h))
    have HA4 := Lib.hid (HA3.out.but hbu ne3)
    have HB4 := Lib.hid (HB3.out.but hbu ne5)
    have a0 := HA4.out.cell 0
    have e0 := HA4.out.thaw 0
    have al := HA4.out.lt
    have HP5 := Lib.hid (show Pd (w4.setCell ⟨A, 0, none⟩ (.string nm)) g lo lc L k1 F1 from Pd.butx HH.out (HU4.out.trans (But.put w4 A 0 (.string nm)) (fun j hj e => by have := HN.out; omega)) HP4.out (But.put w4 A 0 (.string nm)) ne4)
    have HU5 := Lib.hid (HU4.out.trans (But.put w4 A 0 (.string nm)) (fun j hj e => by have := HN.out; omega))
    have HA5 := Lib.hid (HA4.out.put 0 (.string nm))
    have HB5 := Lib.hid (HB4.out.off (p := ⟨A, 0, none⟩) ne2 (.string nm))
    go_upto_region 6 with fail
    clear a0 e0 al hp hbu HP4 HU4 HA4 HB4 HP3 HU3 HA3 HB3 HNC
    generalize World.setCell w4 _ _ = w5 at *
    have hk1L : k1 < L.length := by have := HK1.out; omega
    have HSC := Lib.hid (HSG.out ⟨#[59]⟩ k1 hk1L F1 w5 HP5.out)
    have HK2 := Lib.hid (sgG_be (s := [59]) (F := F1) HBB.out HK1.out)
    rw [show (⟨#[59]⟩ : ByteArray).data.toList = [59] from rfl] at HSC
    obtain ⟨k2, hk2⟩ : ∃ x, (sgG L [59] k1 F1).1 = x := ⟨_, rfl⟩
    obtain ⟨F2, hF2⟩ : ∃ x, (sgG L [59] k1 F1).2 = x := ⟨_, rfl⟩
    rw [hk2, hF2] at HSC HQ1
    rw [hk2] at HK2
    clear hk2 hF2
    go_wp2_with fail
    refine HSC.out.mono ?_
    rintro e w6 ⟨rfl, hbu, hp⟩
    have HP6 := Lib.hid hp
    have HU6 := Lib.hid (HU5.out.trans hbu (fun _ _ h => h))
    have HA6 := Lib.hid (HA5.out.but hbu ne3)
    have HB6 := Lib.hid (HB5.out.but hbu ne5)
    have HI6 := Lib.hid (show ImQ L RES nm [] k2 F2 from by
      have q := HQ1.out
      cases F2 with
      | none => exact ⟨L.length + 1, q, by omega⟩
      | some f => exact q)
    clear hbu hp HP5 HU5 HA5 HB5 HSC HQ1 HK1 hk1L
    go_wp2_with fail
    go_loopw [] (fun wr => ∃ (kk : Nat) (F : Option Ft2) (im : List ByteArray) (io : Option Addr) (ic : Nat), (im.length : Int) ≤ 4 ∧ Hid (kk ≤ NN) ∧ Hid (Pd wr g lo lc L kk F) ∧ Hid (ImQ L RES nm im kk F) ∧
        Hid (Own wr A 39 [.string nm, .slice io im.length ic, .bool false, .int .i64 0, .string ⟨#[]⟩, .int .u64 0, .int .u64 0, .int .u64 0, .int .u64 0, .slice none 0 0, .slice none 0 0]) ∧ Hid (Own wr B 39 [.string ⟨#[]⟩, .slice none 0 0, .bool false, .int .i64 0, .string ⟨#[]⟩, .int .u64 0, .int .u64 0, .int .u64 0, .int .u64 0, .slice none 0 0, .slice none 0 0]) ∧ Hid (But (fun j => j = g) w wr) ∧
        Hid (∃ S : Nat → Prop, (∀ b, S b → B < b ∧ b < wr.heap.size) ∧ Win S 9 1 wr (.slice io im.length ic) im.length (im.map Value.string)))
      (fun wr => NN + 1 - (intOf ((wr.cell? ⟨g, 1, none⟩).getD (.bool false))).toNat)
    case atStart => exact ⟨k2, F2, [], none, 0, by decide, HK2, HP6, HI6, HA6, HB6, HU6, Lib.hid ⟨fun _ => False, fun b h => h.elim, Win.nil _ _ _ _⟩⟩
    case round =>
      obtain ⟨kk, F, im, io, ic, him, HK, HP, HI, HA, HB, HU, HW⟩ := hrel
      clear HP6 HU6 HA6 HB6 HI6 HK2
      have hkL : kk < L.length := by have := HK.out; omega
      have HPR := HP
      have HWC := Lib.hid (HWD.out ⟨#[105, 109, 112, 111, 114, 116]⟩ kk hkL F wr HP.out)
      have HWW := Lib.hid (fun W hW => HWD.out ⟨#[119, 97, 116, 101, 114]⟩ kk hkL F W hW)
      rw [show (⟨#[105, 109, 112, 111, 114, 116]⟩ : ByteArray).data.toList = [105, 109, 112, 111, 114, 116] from rfl] at HWC
      rw [show (⟨#[119, 97, 116, 101, 114]⟩ : ByteArray).data.toList = [119, 97, 116, 101, 114] from rfl] at HWW
      cases F with
    | some f =>
      have HE := Lib.hid (show RES = .error f from HI.out)
      have HC1 := Lib.hid (show Calls Try.prog 33 #[.pointer (some ⟨g, 0, none⟩), .int .i64 1, .string ⟨#[105, 109, 112, 111, 114, 116]⟩] wr fun e w' => e = .returned (.bool false) ∧ Below wr.heap.size wr w' from HWC.out)
      have HC2 := Lib.hid (show ∀ W, Pd W g lo lc L kk (some f) → Calls Try.prog 33 #[.pointer (some ⟨g, 0, none⟩), .int .i64 1, .string ⟨#[119, 97, 116, 101, 114]⟩] W fun e w' => e = .returned (.bool false) ∧ Below W.heap.size W w' from HWW.out)
      go_wp2_with fail
      refine HC1.out.mono ?_
      rintro e wa ⟨rfl, hb⟩
      have HA1 := Lib.hid (HA.out.under hb HA.out.lt)
      have HB1 := Lib.hid (HB.out.under hb HB.out.lt)
      have HU1 := Lib.hid (HU.out.then_below hb)
      have HP1 := Lib.hid (HP.out.below hb)
      clear hb HA HB HU HP
      go_wp2_with fail
      refine (HC2.out _ HP1.out).mono ?_
      rintro e wb ⟨rfl, hb⟩
      have HA2 := Lib.hid (HA1.out.under hb HA1.out.lt)
      have HB2 := Lib.hid (HB1.out.under hb HB1.out.lt)
      have HU2 := Lib.hid (HU1.out.then_below hb)
      have HP2 := Lib.hid (HP1.out.below hb)
      clear hb HA1 HB1 HU1 HP1
      obtain ⟨a0, a1, a2, a3, a4, a5, a6, a7, a8, a9, aA⟩ := HA2.out.elev
      have al := HA2.out.lt
      obtain ⟨b0, b1, b2, b3, b4, b5, b6, b7, b8, b9, bA⟩ := HB2.out.elev
      obtain ⟨f0, f1, f2, f3, f4, f5, f6, f7, f8, f9, fA⟩ := HB2.out.elevf
      have bl := HB2.out.lt
      go_wp2
      rw [setEl_fold]
      have HF := HB2.out.putEl (.string nm) (.slice io im.length ic) (.bool false) (.int .i64 0) (.string ⟨#[]⟩) (.int .u64 0) (.int .u64 0) (.int .u64 0) (.int .u64 0) (.slice none 0 0) (.slice none 0 0)
      have HBW := Lib.hid (But.setEl wb B (.string nm) (.slice io im.length ic) (.bool false) (.int .i64 0) (.string ⟨#[]⟩) (.int .u64 0) (.int .u64 0) (.int .u64 0) (.int .u64 0) (.slice none 0 0) (.slice none 0 0))
      have HU9 := Lib.hid (HU2.out.trans HBW.out (fun j hj e => by have := HN.out; omega))
      have HP9 := Lib.hid (Pd.butx HH.out HU9.out HP2.out HBW.out (by have := HN.out; omega))
      clear a0 a1 a2 a3 a4 a5 a6 a7 a8 a9 aA al b0 b1 b2 b3 b4 b5 b6 b7 b8 b9 bA f0 f1 f2 f3 f4 f5 f6 f7 f8 f9 fA bl
      generalize setEl _ B _ _ _ _ _ _ _ _ _ _ _ = w99 at *
      obtain ⟨z0, z1, z2, z3, z4, z5, z6, z7, z8, z9, zA⟩ := HF.elev
      refine bodyPost_ret (by simp [results, Try.results25, go_sem, z0, z1, z2, z3, z4, z5, z6, z7, z8, z9, zA]; rfl) rfl ?_
      rw [HE.out, HN.out.2.1]
      exact ⟨HU9.out, ⟨nm, im, false, ex0, []⟩, io, ic, none, 0, rfl, kk, HK.out, HP9.out⟩
    | none =>
      obtain ⟨f, hf, hff⟩ := HI.out
      have HGO := Lib.hid (hf.trans (impL_q L nm (by have := HK.out; omega) im kk))
      have HFF := Lib.hid hff
      obtain ⟨z, hz⟩ : ∃ z, wdB L kk 1 [105, 109, 112, 111, 114, 116] = z := ⟨_, rfl⟩
      obtain ⟨z2, hz2⟩ : ∃ z, wdB L kk 1 [119, 97, 116, 101, 114] = z := ⟨_, rfl⟩
      have HZ := Lib.hid hz
      have HZ2 := Lib.hid hz2
      rw [hz] at HWC HGO
      rw [hz2] at HWW
      have HC1 := Lib.hid (show Calls Try.prog 33 #[.pointer (some ⟨g, 0, none⟩), .int .i64 1, .string ⟨#[105, 109, 112, 111, 114, 116]⟩] wr fun e w' => e = .returned (.bool z) ∧ Below wr.heap.size wr w' from HWC.out)
      have HC2 := Lib.hid (show ∀ W, Pd W g lo lc L kk none → Calls Try.prog 33 #[.pointer (some ⟨g, 0, none⟩), .int .i64 1, .string ⟨#[119, 97, 116, 101, 114]⟩] W fun e w' => e = .returned (.bool z2) ∧ Below W.heap.size W w' from HWW.out)
      obtain ⟨S, hS, hWi⟩ := HW.out
      have HSS := Lib.hid hS
      have HWI := Lib.hid hWi
      clear hf hff hz hz2 hS hWi HWC HWW HI HW
      go_wp2_with fail
      refine HC1.out.mono ?_
      rintro e wa ⟨rfl, hb⟩
      have HWI1 := Lib.hid (HWI.out.below hb)
      have HSS1 := Lib.hid (show ∀ b, S b → B < b ∧ b < wa.heap.size from fun b hb' => ⟨(HSS.out b hb').1, Nat.lt_of_lt_of_le (HSS.out b hb').2 hb.size⟩)
      have HA1 := Lib.hid (HA.out.under hb HA.out.lt)
      have HB1 := Lib.hid (HB.out.under hb HB.out.lt)
      have HU1 := Lib.hid (HU.out.then_below hb)
      have HP1 := Lib.hid (HP.out.below hb)
      clear hb HA HB HU HP
      clear HC1 HWI HSS
      cases z
      case false =>
        have HS2 := Lib.hid (show RES = watO L nm im kk from HGO.out.trans (if_neg (by decide)))
        have HNR1 := Lib.hid ((hasNR_of HWI1.out).mono (T := fun b => B < b) fun b _ h => (HSS1.out b h).1)
        clear HGO HWI1 HSS1
        go_wp2_with fail
        refine (HC2.out _ HP1.out).mono ?_
        rintro e wb ⟨rfl, hb⟩
        have HNR2 := Lib.hid (HNR1.out.but (But.of_below (S := fun _ => False) hb) (fun _ _ _ h => h))
        have HA2 := Lib.hid (HA1.out.under hb HA1.out.lt)
        have HB2 := Lib.hid (HB1.out.under hb HB1.out.lt)
        have HU2 := Lib.hid (HU1.out.then_below hb)
        have HP2 := Lib.hid (HP1.out.below hb)
        clear hb HNR1 HA1 HB1 HU1 HP1
        cases z2
        case false =>
          have HE := Lib.hid (show RES = .ok (⟨nm, im, false, ex0, []⟩, kk) from by rw [HS2.out]; unfold watO; rw [HZ2.out]; rfl)
          obtain ⟨a0, a1, a2, a3, a4, a5, a6, a7, a8, a9, aA⟩ := HA2.out.elev
          have al := HA2.out.lt
          obtain ⟨b0, b1, b2, b3, b4, b5, b6, b7, b8, b9, bA⟩ := HB2.out.elev
          obtain ⟨f0, f1, f2, f3, f4, f5, f6, f7, f8, f9, fA⟩ := HB2.out.elevf
          have bl := HB2.out.lt
          go_wp2
          rw [setEl_fold]
          have HF := HB2.out.putEl (.string nm) (.slice io im.length ic) (.bool false) (.int .i64 0) (.string ⟨#[]⟩) (.int .u64 0) (.int .u64 0) (.int .u64 0) (.int .u64 0) (.slice none 0 0) (.slice none 0 0)
          have HBW := Lib.hid (But.setEl wb B (.string nm) (.slice io im.length ic) (.bool false) (.int .i64 0) (.string ⟨#[]⟩) (.int .u64 0) (.int .u64 0) (.int .u64 0) (.int .u64 0) (.slice none 0 0) (.slice none 0 0))
          have HU9 := Lib.hid (HU2.out.trans HBW.out (fun j hj e => by have := HN.out; omega))
          have HP9 := Lib.hid (Pd.butx HH.out HU9.out HP2.out HBW.out (by have := HN.out; omega))
          clear a0 a1 a2 a3 a4 a5 a6 a7 a8 a9 aA al b0 b1 b2 b3 b4 b5 b6 b7 b8 b9 bA f0 f1 f2 f3 f4 f5 f6 f7 f8 f9 fA bl
          generalize setEl _ B _ _ _ _ _ _ _ _ _ _ _ = w99 at *
          obtain ⟨z0, z1, z2, z3, z4, z5, z6, z7, z8, z9, zA⟩ := HF.elev
          refine bodyPost_ret (by simp [results, Try.results25, go_sem, z0, z1, z2, z3, z4, z5, z6, z7, z8, z9, zA]; rfl) rfl ?_
          rw [HE.out, HN.out.2.1]
          exact ⟨HU9.out, ⟨nm, im, false, ex0, []⟩, io, ic, none, 0, rfl, rfl, HK.out, HP9.out, (HNR2.out.but HBW.out (fun j _ hj e => by omega)).mono (fun b _ hb => by have := HN.out; omega), 0, rfl⟩
        case true =>
          have hk1N : kk + 1 ≤ NN := wdB_be HBB.out (by decide) HZ2.out
          have hk1L : kk + 1 < L.length := by omega
          obtain ⟨rb, hrb⟩ : ∃ r, bodO L (kk + 1) = r := ⟨_, rfl⟩
          have HRB := Lib.hid hrb
          have HS3 := Lib.hid (show RES = watR nm im rb from by rw [HS2.out, watO_q, HZ2.out, ← hrb]; rfl)
          have HBC := Lib.hid (HBO.out (kk + 1) hk1L)
          rw [hrb] at HBC
          obtain ⟨c0, c1, c2, c3, c4, c5, cg⟩ := HP2.out.1.six_r
          obtain ⟨d1, d2, d3, d4, d5⟩ := HP2.out.1.six_f
          have hw1 : IntKind.i64.wrap ((kk : Int) + 1) = (kk : Int) + 1 := by rw [IntKind.wrap_i64]; omega
          have HP3 := Lib.hid (HP2.out.at1 (kk + 1) (.int .i64 ((kk : Int) + 1)) (by simp))
          have HU3 := Lib.hid (HU2.out.setCell (p := ⟨g, 1, none⟩) (fun _ => rfl) (.int .i64 ((kk : Int) + 1)))
          have HA3 := Lib.hid (HA2.out.off (p := ⟨g, 1, none⟩) ne3 (.int .i64 ((kk : Int) + 1)))
          have HB3 := Lib.hid (HB2.out.off (p := ⟨g, 1, none⟩) ne5 (.int .i64 ((kk : Int) + 1)))
          have HNR3 := Lib.hid (HNR2.out.but (But.put wb g 1 (.int .i64 ((kk : Int) + 1))) (fun j _ hj e => by have := HN.out; omega))
          go_upto_region 16 with fail
          clear c0 c1 c2 c3 c4 c5 cg d1 d2 d3 d4 d5 hw1 HP2 HU2 HA2 HB2 HNR2 HS2 hrb
          generalize World.setCell wb _ _ = wc at *
          go_wp2_with fail
          refine (HBC.out _ HP3.out).mono ?_
          rintro e wd ⟨hbu, X2, ko, kc, rfl, hq⟩
          unfold exv
          have HA4 := Lib.hid (HA3.out.but hbu ne3)
          have HB4 := Lib.hid (HB3.out.but hbu ne5)
          have HU4 := Lib.hid (HU3.out.trans hbu (fun _ _ h => h))
          have HNR4 := Lib.hid (HNR3.out.but hbu (fun j _ hj e => by have := HN.out; omega))
          have HQ4 := Lib.hid hq
          have HBS := Lib.hid (show B < wc.heap.size from HB3.out.lt)
          clear hbu hq HP3 HU3 HA3 HB3 HNR3 HBC
          have HA5 := Lib.hid ((((((((HA4.out.put 2 (.bool true)).put 3 (.int .i64 X2.op)).put 4 (.string X2.text)).put 5 (.int .u64 X2.s0)).put 6 (.int .u64 X2.s1)).put 7 (.int .u64 X2.s2)).put 8 (.int .u64 X2.s3)).put 9 (.slice ko X2.kids.length kc))
          have HBA := Lib.hid (((((((((But.refl (fun j => j = A) wd).setCell (p := ⟨A, 2, none⟩) (fun _ => rfl) (.bool true)).setCell (p := ⟨A, 3, none⟩) (fun _ => rfl) (.int .i64 X2.op)).setCell (p := ⟨A, 4, none⟩) (fun _ => rfl) (.string X2.text)).setCell (p := ⟨A, 5, none⟩) (fun _ => rfl) (.int .u64 X2.s0)).setCell (p := ⟨A, 6, none⟩) (fun _ => rfl) (.int .u64 X2.s1)).setCell (p := ⟨A, 7, none⟩) (fun _ => rfl) (.int .u64 X2.s2)).setCell (p := ⟨A, 8, none⟩) (fun _ => rfl) (.int .u64 X2.s3)).setCell (p := ⟨A, 9, none⟩) (fun _ => rfl) (.slice ko X2.kids.length kc))
          obtain ⟨a0, a1, a2, a3, a4, a5, a6, a7, a8, a9, aA⟩ := HA4.out.elev
          obtain ⟨f0, f1, f2, f3, f4, f5, f6, f7, f8, f9, fA⟩ := HA4.out.elevf
          have al := HA4.out.lt
          go_upto_region 17 with fail
          clear a0 a1 a2 a3 a4 a5 a6 a7 a8 a9 aA f0 f1 f2 f3 f4 f5 f6 f7 f8 f9 fA al
          generalize World.setCell (World.setCell (World.setCell (World.setCell (World.setCell (World.setCell (World.setCell (World.setCell wd _ _) _ _) _ _) _ _) _ _) _ _) _ _) _ _ = we at *
          have HB5 := Lib.hid (HB4.out.but HBA.out ne2)
          have HU5 := Lib.hid (HU4.out.trans HBA.out (fun j hj e => by have := HN.out; omega))
          have HNR5 := Lib.hid (HNR4.out.but HBA.out (fun j _ hj e => by have := HN.out; omega))
          cases rb
          case error f' =>
            have HE := Lib.hid (show RES = .error f' from HS3.out)
            obtain ⟨k', hk', hp'⟩ := HQ4.out
            have HP5 := Lib.hid (Pd.butx HH.out HU5.out hp' HBA.out ne4)
            have HK5 := Lib.hid (show k' ≤ NN from by omega)
            clear hp' 
            obtain ⟨a0, a1, a2, a3, a4, a5, a6, a7, a8, a9, aA⟩ := HA5.out.elev
            have al := HA5.out.lt
            obtain ⟨b0, b1, b2, b3, b4, b5, b6, b7, b8, b9, bA⟩ := HB5.out.elev
            obtain ⟨f0, f1, f2, f3, f4, f5, f6, f7, f8, f9, fA⟩ := HB5.out.elevf
            have bl := HB5.out.lt
            go_wp2
            rw [setEl_fold]
            have HF := HB5.out.putEl (.string nm) (.slice io im.length ic) (.bool true) (.int .i64 X2.op) (.string X2.text) (.int .u64 X2.s0) (.int .u64 X2.s1) (.int .u64 X2.s2) (.int .u64 X2.s3) (.slice ko X2.kids.length kc) (.slice none 0 0)
            have HBW := Lib.hid (But.setEl we B (.string nm) (.slice io im.length ic) (.bool true) (.int .i64 X2.op) (.string X2.text) (.int .u64 X2.s0) (.int .u64 X2.s1) (.int .u64 X2.s2) (.int .u64 X2.s3) (.slice ko X2.kids.length kc) (.slice none 0 0))
            have HU9 := Lib.hid (HU5.out.trans HBW.out (fun j hj e => by have := HN.out; omega))
            have HP9 := Lib.hid (Pd.butx HH.out HU9.out HP5.out HBW.out (by have := HN.out; omega))
            clear a0 a1 a2 a3 a4 a5 a6 a7 a8 a9 aA al b0 b1 b2 b3 b4 b5 b6 b7 b8 b9 bA f0 f1 f2 f3 f4 f5 f6 f7 f8 f9 fA bl
            generalize setEl _ B _ _ _ _ _ _ _ _ _ _ _ = w99 at *
            obtain ⟨z0, z1, z2, z3, z4, z5, z6, z7, z8, z9, zA⟩ := HF.elev
            refine bodyPost_ret (by simp [results, Try.results25, go_sem, z0, z1, z2, z3, z4, z5, z6, z7, z8, z9, zA]; rfl) rfl ?_
            rw [HE.out, HN.out.2.1]
            exact ⟨HU9.out, ⟨nm, im, true, X2, []⟩, io, ic, ko, kc, rfl, k', HK5.out, HP9.out⟩
          case ok pq =>
            obtain ⟨x, m⟩ := pq
            obtain ⟨hp', hx, n2, hT⟩ := HQ4.out
            subst hx
            have HE := Lib.hid (show RES = .ok (⟨nm, im, true, x, []⟩, m) from HS3.out)
            have HP5 := Lib.hid (Pd.butx HH.out HU5.out hp' HBA.out ne4)
            have HMN := Lib.hid (bodO_be HBB.out HRB.out)
            have HT5 := Lib.hid (HasE.but HBA.out (fun j hj => by have := HBS.out; have := HN.out; omega) hT)
            clear hp' hT
            obtain ⟨a0, a1, a2, a3, a4, a5, a6, a7, a8, a9, aA⟩ := HA5.out.elev
            have al := HA5.out.lt
            obtain ⟨b0, b1, b2, b3, b4, b5, b6, b7, b8, b9, bA⟩ := HB5.out.elev
            obtain ⟨f0, f1, f2, f3, f4, f5, f6, f7, f8, f9, fA⟩ := HB5.out.elevf
            have bl := HB5.out.lt
            go_wp2
            rw [setEl_fold]
            have HF := HB5.out.putEl (.string nm) (.slice io im.length ic) (.bool true) (.int .i64 x.op) (.string x.text) (.int .u64 x.s0) (.int .u64 x.s1) (.int .u64 x.s2) (.int .u64 x.s3) (.slice ko x.kids.length kc) (.slice none 0 0)
            have HBW := Lib.hid (But.setEl we B (.string nm) (.slice io im.length ic) (.bool true) (.int .i64 x.op) (.string x.text) (.int .u64 x.s0) (.int .u64 x.s1) (.int .u64 x.s2) (.int .u64 x.s3) (.slice ko x.kids.length kc) (.slice none 0 0))
            have HU9 := Lib.hid (HU5.out.trans HBW.out (fun j hj e => by have := HN.out; omega))
            have HP9 := Lib.hid (Pd.butx HH.out HU9.out HP5.out HBW.out (by have := HN.out; omega))
            clear a0 a1 a2 a3 a4 a5 a6 a7 a8 a9 aA al b0 b1 b2 b3 b4 b5 b6 b7 b8 b9 bA f0 f1 f2 f3 f4 f5 f6 f7 f8 f9 fA bl
            generalize setEl _ B _ _ _ _ _ _ _ _ _ _ _ = w99 at *
            obtain ⟨z0, z1, z2, z3, z4, z5, z6, z7, z8, z9, zA⟩ := HF.elev
            refine bodyPost_ret (by simp [results, Try.results25, go_sem, z0, z1, z2, z3, z4, z5, z6, z7, z8, z9, zA]; rfl) rfl ?_
            rw [HE.out, HN.out.2.1]
            exact ⟨HU9.out, ⟨nm, im, true, x, []⟩, io, ic, ko, kc, rfl, rfl, HMN.out.2, HP9.out, (HNR5.out.but HBW.out (fun j _ hj e => by omega)).mono (fun b _ hb => by have := HN.out; omega), n2, HasE.low (by have := HBS.out; have := HN.out; omega) (HasE.but HBW.out (fun j hj => by have := HBS.out; omega) HT5.out)⟩
      case true =>
        have HS2 := Lib.hid (HGO.out.trans (if_pos rfl))
        have hk1N : kk + 1 ≤ NN := wdB_be HBB.out (by decide) HZ.out
        have hk1L : kk + 1 < L.length := by omega
        obtain ⟨n, hnn⟩ : ∃ n, im.length = n := ⟨_, rfl⟩
        have HIN := Lib.hid hnn
        rw [hnn] at him HA1 HWI1 HS2
        try rw [hnn]
        clear hnn HGO HC2
        by_cases h4 : n = 4
        · have e4 : ((n : Int) == 4) = true := by simp [h4]
          have HE := Lib.hid (show RES = .error (faultAt L 3 kk) from HS2.out.trans (if_pos h4))
          have HUc := HU1
          obtain ⟨a0, a1, a2, a3, a4, a5, a6, a7, a8, a9, aA⟩ := HA1.out.elev
          have al := HA1.out.lt
          clear h4
          go_wp2_with fail
          refine (HFL.out 3 (by decide) kk (by omega) _ HP1.out).mono ?_
          rintro e w7 ⟨rfl, hbu, hp⟩
          have HA7 := Lib.hid (HA1.out.but hbu (by have := HN.out; omega))
          have HB7 := Lib.hid (HB1.out.but hbu (by have := HN.out; omega))
          have HUf := Lib.hid (HUc.out.trans hbu (fun _ _ h => h))
          have HPf := Lib.hid (show Pd w7 g lo lc L (kk) (some (faultAt L 3 (kk))) from hp)
          clear hbu hp
          clear a0 a1 a2 a3 a4 a5 a6 a7 a8 a9 aA al
          obtain ⟨a0, a1, a2, a3, a4, a5, a6, a7, a8, a9, aA⟩ := HA7.out.elev
          have al := HA7.out.lt
          obtain ⟨b0, b1, b2, b3, b4, b5, b6, b7, b8, b9, bA⟩ := HB7.out.elev
          obtain ⟨f0, f1, f2, f3, f4, f5, f6, f7, f8, f9, fA⟩ := HB7.out.elevf
          have bl := HB7.out.lt
          go_wp2
          rw [setEl_fold]
          have HF := HB7.out.putEl (.string nm) (.slice io n ic) (.bool false) (.int .i64 0) (.string ⟨#[]⟩) (.int .u64 0) (.int .u64 0) (.int .u64 0) (.int .u64 0) (.slice none 0 0) (.slice none 0 0)
          have HBW := Lib.hid (But.setEl w7 B (.string nm) (.slice io n ic) (.bool false) (.int .i64 0) (.string ⟨#[]⟩) (.int .u64 0) (.int .u64 0) (.int .u64 0) (.int .u64 0) (.slice none 0 0) (.slice none 0 0))
          have HU9 := Lib.hid (HUf.out.trans HBW.out (fun j hj e => by have := HN.out; omega))
          have HP9 := Lib.hid (Pd.butx HH.out HU9.out HPf.out HBW.out (by have := HN.out; omega))
          clear a0 a1 a2 a3 a4 a5 a6 a7 a8 a9 aA al b0 b1 b2 b3 b4 b5 b6 b7 b8 b9 bA f0 f1 f2 f3 f4 f5 f6 f7 f8 f9 fA bl
          generalize setEl _ B _ _ _ _ _ _ _ _ _ _ _ = w99 at *
          obtain ⟨z0, z1, z2, z3, z4, z5, z6, z7, z8, z9, zA⟩ := HF.elev
          refine bodyPost_ret (by simp [results, Try.results25, go_sem, z0, z1, z2, z3, z4, z5, z6, z7, z8, z9, zA]; rfl) rfl ?_
          rw [HE.out, HN.out.2.1]
          exact ⟨HU9.out, ⟨nm, im, false, ex0, []⟩, io, ic, none, 0, by rw [← HIN.out]; rfl, kk, HK.out, HP9.out⟩
        · have e4 : ((n : Int) == 4) = false := beq_eq_false_iff_ne.2 (by omega)
          have HS3 := Lib.hid (HS2.out.trans (if_neg h4))
          have HQ1 := Lib.hid (thenQ_in (k := kk + 1) HS3.out)
          have HK1 := Lib.hid (nmG_be (l := nm :: im) HBB.out hk1N)
          have HG1 := Lib.hid (nmG_ge L (nm :: im) (kk + 1))
          have HNC := Lib.hid (fun (ao : Option Addr) (cap : Nat) W hW (hN : HasN W ao (nm :: im)) => HNM.out (nm :: im) ao cap (by rw [List.length_cons]; have := HIN.out; omega) (kk + 1) hk1L W hW hN)
          obtain ⟨r, hr⟩ : ∃ r, nmeO L (nm :: im) (kk + 1) = r := ⟨_, rfl⟩
          rw [hr] at HNC HQ1 HK1 HG1
          obtain ⟨x, hx⟩ : ∃ x, (nmG (kk + 1) r).1 = x := ⟨_, rfl⟩
          obtain ⟨k1, hk1⟩ : ∃ x, (nmG (kk + 1) r).2.1 = x := ⟨_, rfl⟩
          obtain ⟨F1, hF1⟩ : ∃ x, (nmG (kk + 1) r).2.2 = x := ⟨_, rfl⟩
          rw [hx, hk1, hF1] at HNC HQ1
          rw [hk1] at HK1 HG1
          have him2 : (n : Int) ≤ 3 := by omega
          have HNN2 := Lib.hid (And.intro h4 him2)
          clear hr hx hk1 hF1 HS2 HS3 h4
          obtain ⟨c0, c1, c2, c3, c4, c5, cg⟩ := HP1.out.1.six_r
          obtain ⟨d1, d2, d3, d4, d5⟩ := HP1.out.1.six_f
          have hw1 : IntKind.i64.wrap ((kk : Int) + 1) = (kk : Int) + 1 := by rw [IntKind.wrap_i64]; omega
          have hbp := But.put wa g 1 (.int .i64 ((kk : Int) + 1))
          have HP2 := Lib.hid ((HP1.out.at1 (kk + 1) (.int .i64 ((kk : Int) + 1)) (by simp)).below (Below.refl _ _).drew)
          have HU2 := Lib.hid (HU1.out.setCell (p := ⟨g, 1, none⟩) (fun _ => rfl) (.int .i64 ((kk : Int) + 1))).drew
          have HA2 := Lib.hid (HA1.out.off (p := ⟨g, 1, none⟩) ne3 (.int .i64 ((kk : Int) + 1))).on_drew
          have HB2 := Lib.hid (HB1.out.off (p := ⟨g, 1, none⟩) ne5 (.int .i64 ((kk : Int) + 1))).on_drew
          have HWI2 := Lib.hid (show Win S 9 1 (wa.setCell ⟨g, 1, none⟩ (.int .i64 ((kk : Int) + 1))).drew _ _ _ from HWI1.out.keep hbp.drew (fun j _ hs e => by have := (HSS1.out j hs).1; have := HN.out; omega))
          have HSS2 := Lib.hid (show ∀ b, S b → B < b ∧ b < (wa.setCell ⟨g, 1, none⟩ (.int .i64 ((kk : Int) + 1))).drew.heap.size from fun b hb => ⟨(HSS1.out b hb).1, by have := (HSS1.out b hb).2; simpa [World.setCell] using this⟩)
          obtain ⟨a0, a1, a2, a3, a4, a5, a6, a7, a8, a9, aA⟩ := HA1.out.elev
          have al := HA1.out.lt
          go_upto_region 12 with fail
          clear c0 c1 c2 c3 c4 c5 cg d1 d2 d3 d4 d5 hw1 hbp HP1 HU1 HA1 HB1 HWI1 HSS1 a0 a1 a2 a3 a4 a5 a6 a7 a8 a9 aA al
          refine wp_region_heldTo (fun Wx => A < Wx.heap.size ∧ Wx.cell? ⟨A, 0, none⟩ = some (.string nm) ∧ Wx.cell? ⟨A, 1, none⟩ = some (.slice io n ic)) 13 (by kernel_rfl) ?_
          generalize World.drew _ = wb at *
          have HS := Lib.hid (show A < wb.heap.size ∧ wb.cell? ⟨A, 0, none⟩ = some (.string nm) ∧ wb.cell? ⟨A, 1, none⟩ = some (.slice io n ic) from ⟨HA2.out.lt, HA2.out.cell 0, HA2.out.cell 1⟩)
          refine heldTo.take (i := 0) (v := ?_) rfl (by kernel_rfl) (by kernel_rfl) (by kernel_rfl) (by kernel_rfl) (fun _ _ _ h => h) (Or.inl ⟨by rfl, ?_⟩) HS.out ?_
          rotate_left
          · intro Wx hWx
            obtain ⟨q0, q1, q2⟩ := hWx
            go_simp
            try with_reducible rfl
          go_simp
          refine heldTo.take (i := 1) (v := ?_) rfl (by kernel_rfl) (by kernel_rfl) (by kernel_rfl) (by kernel_rfl) (fun _ _ _ h => h) (Or.inl ⟨by rfl, ?_⟩) HS.out ?_
          rotate_left
          · intro Wx hWx
            obtain ⟨q0, q1, q2⟩ := hWx
            go_simp
            try with_reducible rfl
          go_simp
          refine heldTo.take (i := 2) (v := ?_) rfl (by kernel_rfl) (by kernel_rfl) (by kernel_rfl) (by kernel_rfl) (fun _ _ _ h => h) (Or.inl ⟨by rfl, ?_⟩) HS.out ?_
          rotate_left
          · intro Wx hWx
            obtain ⟨q0, q1, q2⟩ := hWx
            go_simp
            try with_reducible rfl
          go_simp
          refine heldTo.take (i := 3) (v := ?_) rfl (by kernel_rfl) (by kernel_rfl) (by kernel_rfl) (by kernel_rfl) (fun _ _ _ h => h) (Or.inl ⟨by rfl, ?_⟩) HS.out ?_
          rotate_left
          · intro Wx hWx
            obtain ⟨q0, q1, q2⟩ := hWx
            go_simp
            try with_reducible rfl
          go_simp
          refine heldTo.take (i := 4) (v := ?_) rfl (by kernel_rfl) (by kernel_rfl) (by kernel_rfl) (by kernel_rfl) (fun _ _ _ h => h) (Or.inl ⟨by rfl, ?_⟩) HS.out ?_
          rotate_left
          · intro Wx hWx
            obtain ⟨q0, q1, q2⟩ := hWx
            go_simp
            try with_reducible rfl
          go_simp
          refine heldTo.take (i := 6) (v := ?_) rfl (by kernel_rfl) (by kernel_rfl) (by kernel_rfl) (by kernel_rfl) (fun _ _ _ h => h) (Or.inl ⟨by rfl, ?_⟩) HS.out ?_
          rotate_left
          · intro Wx hWx
            obtain ⟨q0, q1, q2⟩ := hWx
            go_simp
            try with_reducible rfl
          go_simp
          refine heldTo.take (i := 7) (v := ?_) rfl (by kernel_rfl) (by kernel_rfl) (by kernel_rfl) (by kernel_rfl) (fun _ _ _ h => h) (Or.inl ⟨by rfl, ?_⟩) HS.out ?_
          rotate_left
          · intro Wx hWx
            obtain ⟨q0, q1, q2⟩ := hWx
            go_simp
            try with_reducible rfl
          go_simp
          obtain ⟨i0, hi, hz0, hz1, hz2⟩ := info_parts7 info_str
          have HBG := Lib.hid (show B < wb.heap.size from HB2.out.lt)
          have hbl1 : Below wb.heap.size wb (wb.alloc (.cells #[.string nm] 9)) := (Below.refl _ _).alloc (Nat.le_refl _) _
          refine heldTo.one (i := 5) (by kernel_rfl) (op_value (v := .slice (some ⟨wb.heap.size, 0, none⟩) 1 1) (w' := wb.alloc (.cells #[.string nm] 9)) rfl (by kernel_rfl) (by go_simp) ?_)
          have HO3 := Lib.hid (Own.fresh wb 9 [.string nm])
          have HA3 := Lib.hid (HA2.out.under hbl1 HA2.out.lt)
          have HB3 := Lib.hid (HB2.out.under hbl1 HB2.out.lt)
          have HP3 := Lib.hid (HP2.out.below hbl1)
          have HU3 := Lib.hid (HU2.out.then_below hbl1)
          have HWI3 := Lib.hid (HWI2.out.below hbl1)
          have HZ3 := Lib.hid (show wb.heap.size < (wb.alloc (.cells #[.string nm] 9)).heap.size from by simp)
          clear hbl1 HA2 HB2 HP2 HU2 HWI2
          generalize wb.alloc (.cells #[.string nm] 9) = wc at *
          generalize wb.heap.size = G1 at *
          clear HS
          have HS := Lib.hid (show A < wc.heap.size ∧ wc.cell? ⟨A, 0, none⟩ = some (.string nm) ∧ wc.cell? ⟨A, 1, none⟩ = some (.slice io n ic) from ⟨HA3.out.lt, HA3.out.cell 0, HA3.out.cell 1⟩)
          refine ⟨.inr HS.out, ?_⟩
          go_simp
          refine heldTo.one (i := 8) (by kernel_rfl) (op_appendn rfl (by kernel_rfl) _ _ 22 22 rfl (fun b => b = G1) 9 i0 _ 1 16 Try.underlying22 hi hz0 hz1 hz2 rfl (by decide) (.slice (some ⟨G1, 0, none⟩) 1 1) 1 [.string nm] rfl (Win.one HO3.out rfl) (.slice io n ic) n (im.map Value.string) rfl (by have := Src.ofNames (cap := ic) (hasN_of HWI3.out); rw [HIN.out] at this; exact this) (by unfold maxLen; omega) (by omega) ?_)
          intro v2 wd hw2 hb2
          have HBGn : B < G1 := HBG.out
          have HA4 := Lib.hid (HA3.out.but hb2 (fun e => by have e : A = G1 := e; have := HN.out; omega))
          have HB4 := Lib.hid (HB3.out.but hb2 (fun e => by have e : B = G1 := e; have := HN.out; omega))
          have HU4 := Lib.hid (HU3.out.trans hb2 (fun j hj e => by have e : j = G1 := e; have := HN.out; omega))
          have HP4 := Lib.hid (Pd.butx HH.out HU4.out HP3.out hb2 (fun e => by have e : g = G1 := e; have := HN.out; omega))
          have HWI4 := Lib.hid (HWI3.out.keep hb2 (fun j hj hs e => by have e : j = G1 := e; have := (HSS2.out j hs).2; omega))
          clear HBGn
          have HZ4 := Lib.hid (show wc.heap.size ≤ wd.heap.size from hb2.size)
          obtain ⟨ao2, cap2, hv2, -⟩ := hw2.form
          subst hv2
          have HN2 := Lib.hid (show HasN wd ao2 (nm :: im) from hasN_of (c := cap2) (n := 1 + n) (S := fun g => g = G1 ∨ wc.heap.size ≤ g) (l := nm :: im) hw2)
          clear hb2 hw2 HA3 HB3 HP3 HU3 HWI3 HO3
          clear HS
          have HS := Lib.hid (show A < wd.heap.size ∧ wd.cell? ⟨A, 0, none⟩ = some (.string nm) ∧ wd.cell? ⟨A, 1, none⟩ = some (.slice io n ic) from ⟨HA4.out.lt, HA4.out.cell 0, HA4.out.cell 1⟩)
          refine ⟨.inr HS.out, ?_⟩
          go_simp
          refine heldTo.one (i := 9) (by kernel_rfl) (op_call (f := 26) (vs := #[.pointer (some ⟨g, 0, none⟩), .slice ao2 (nm :: im).length cap2]) rfl (by kernel_rfl) (by rw [List.length_cons, HIN.out, Nat.add_comm]; go_simp) ?_)
          refine (HNC.out ao2 cap2 wd HP4.out HN2.out).mono ?_
          rintro e we ⟨rfl, hp, hbu⟩
          have HP5 := Lib.hid hp
          have HA5 := Lib.hid (HA4.out.but hbu ne3)
          have HB5 := Lib.hid (HB4.out.but hbu ne5)
          have HU5 := Lib.hid (HU4.out.trans hbu (fun _ _ h => h))
          have HWI5 := Lib.hid (HWI4.out.keep hbu (fun j hj hs e => by have := (HSS2.out j hs).1; have := HN.out; omega))
          have HZ5 := Lib.hid (show wd.heap.size ≤ we.heap.size from hbu.size)
          clear hp hbu HP4 HA4 HB4 HU4 HWI4 HN2 HNC
          clear HS
          have HS := Lib.hid (show A < we.heap.size ∧ we.cell? ⟨A, 0, none⟩ = some (.string nm) ∧ we.cell? ⟨A, 1, none⟩ = some (.slice io n ic) from ⟨HA5.out.lt, HA5.out.cell 0, HA5.out.cell 1⟩)
          refine ⟨_, rfl, .inr HS.out, ?_⟩
          go_simp
          have hbl1 : Below we.heap.size we (we.alloc (.cells #[.string x] 9)) := (Below.refl _ _).alloc (Nat.le_refl _) _
          refine heldTo.one (i := 10) (by kernel_rfl) (op_value (v := .slice (some ⟨we.heap.size, 0, none⟩) 1 1) (w' := we.alloc (.cells #[.string x] 9)) rfl (by kernel_rfl) (by go_simp) ?_)
          have HO6 := Lib.hid (Own.fresh we 9 [.string x])
          have HA6' := Lib.hid (HA5.out.under hbl1 HA5.out.lt)
          have HB6' := Lib.hid (HB5.out.under hbl1 HB5.out.lt)
          have HP6' := Lib.hid (HP5.out.below hbl1)
          have HU6' := Lib.hid (HU5.out.then_below hbl1)
          have HWI6 := Lib.hid (HWI5.out.below hbl1)
          have HZ6 := Lib.hid (show we.heap.size < (we.alloc (.cells #[.string x] 9)).heap.size from by simp)
          clear hbl1 HA5 HB5 HP5 HU5 HWI5
          generalize we.alloc (.cells #[.string x] 9) = wf at *
          generalize we.heap.size = G2 at *
          clear HS
          have HS := Lib.hid (show A < wf.heap.size ∧ wf.cell? ⟨A, 0, none⟩ = some (.string nm) ∧ wf.cell? ⟨A, 1, none⟩ = some (.slice io n ic) from ⟨HA6'.out.lt, HA6'.out.cell 0, HA6'.out.cell 1⟩)
          refine ⟨.inr HS.out, ?_⟩
          go_simp
          refine heldTo.one (i := 11) (by kernel_rfl) (op_appendn rfl (by kernel_rfl) _ _ 22 22 rfl S 9 i0 _ 1 16 Try.underlying22 hi hz0 hz1 hz2 rfl (by decide) (.slice io n ic) n (im.map Value.string) rfl HWI6.out (.slice (some ⟨G2, 0, none⟩) 1 1) 1 [.string x] rfl (Src.ofNames (cap := 1) (l := [x]) (hasN_of (Win.one HO6.out rfl))) (by unfold maxLen; omega) (by omega) ?_)
          intro v3 wg hw3 hb3
          have HSA := Lib.hid (show ∀ b, S b → B < b from fun b hb => (HSS2.out b hb).1)
          have HA7 := Lib.hid (HA6'.out.but hb3 (fun hs => by have := HSA.out _ hs; have := HN.out; omega))
          have HB7 := Lib.hid (HB6'.out.but hb3 (fun hs => by have := HSA.out _ hs; omega))
          have HU7 := Lib.hid (HU6'.out.trans hb3 (fun j hj hs => by have := HSA.out _ hs; have := HN.out; omega))
          have HP7 := Lib.hid (Pd.butx HH.out HU7.out HP6'.out hb3 (fun hs => by have := HSA.out _ hs; have := HN.out; omega))
          obtain ⟨io', ic', hv3, -⟩ := hw3.form
          subst hv3
          have HWI7 := Lib.hid hw3
          have HZ7 := Lib.hid (show wf.heap.size ≤ wg.heap.size from hb3.size)
          clear hw3 hb3 HA6' HB6' HU6' HP6' HWI6 HO6
          clear HS
          have HS := Lib.hid (show A < wg.heap.size ∧ wg.cell? ⟨A, 0, none⟩ = some (.string nm) ∧ wg.cell? ⟨A, 1, none⟩ = some (.slice io n ic) from ⟨HA7.out.lt, HA7.out.cell 0, HA7.out.cell 1⟩)
          refine ⟨.inr HS.out, ?_⟩
          go_simp
          refine heldTo.take (i := 12) (v := ?_) rfl (by kernel_rfl) (by kernel_rfl) (by kernel_rfl) (by kernel_rfl) (fun _ _ _ h => h) (Or.inl ⟨by rfl, ?_⟩) HS.out ?_
          rotate_left
          · intro Wx hWx
            obtain ⟨q0, q1, q2⟩ := hWx
            go_simp
            try with_reducible rfl
          go_simp
          have HRUN := Lib.hid (show (Instr.storeAt 22 (.pointer (some ⟨A, 1, none⟩)) (.slice io' (n + 1) ic')).run Try.prog wg = .ok () (wg.setCell ⟨A, 1, none⟩ (.slice io' (n + 1) ic')) from by
            obtain ⟨q0, q1, q2⟩ := HS.out
            have q3 : wg.frozen? ⟨A, 1, none⟩ = false := HA7.out.thaw 1
            go_simp)
          have hbp := But.put wg A 1 (.slice io' (n + 1) ic')
          have HA8 := Lib.hid (HA7.out.put 1 (.slice io' (n + 1) ic'))
          have HB8 := Lib.hid (HB7.out.but hbp ne2)
          have HU8 := Lib.hid (HU7.out.trans hbp (fun j hj e => by have := HN.out; omega))
          have HP8 := Lib.hid (Pd.butx HH.out HU8.out HP7.out hbp ne4)
          have HWI8 := Lib.hid (HWI7.out.keep hbp (fun j hj hs e => by rcases hs with hs | hs; (have := HSA.out _ hs; have := HN.out; omega); (have := HZ3.out; have := HZ4.out; have := HZ5.out; have := HZ6.out; have := HBG.out; have := HN.out; omega)))
          have HZ8 := Lib.hid (show wg.heap.size ≤ (wg.setCell ⟨A, 1, none⟩ (.slice io' (n + 1) ic')).heap.size from hbp.size)
          clear hbp HA7 HB7 HU7 HP7 HWI7
          obtain ⟨wh, hwh⟩ : ∃ wh, wg.setCell ⟨A, 1, none⟩ (.slice io' (n + 1) ic') = wh := ⟨_, rfl⟩
          rw [hwh] at HRUN HA8 HB8 HU8 HP8 HWI8 HZ8
          clear hwh
          refine heldTo.one (i := 13) (by kernel_rfl) (op_store rfl (by kernel_rfl) _ _ _ rfl (.pointer (some ⟨A, 1, none⟩)) (.slice io' (n + 1) ic') rfl rfl HRUN.out ?_)
          refine ⟨.inl rfl, ?_⟩
          refine heldTo.done (by kernel_rfl) ?_ _
          clear HS HRUN
          have hk1L2 : k1 < L.length := by have := HK1.out; omega
          have HSC := Lib.hid (HSG.out ⟨#[59]⟩ k1 hk1L2 F1 wh HP8.out)
          have HK2 := Lib.hid (sgG_be (s := [59]) (F := F1) HBB.out HK1.out)
          have HG2 := Lib.hid (Nat.le_trans HG1.out (sgG_ge L [59] k1 F1))
          rw [show (⟨#[59]⟩ : ByteArray).data.toList = [59] from rfl] at HSC
          obtain ⟨k2', hk2⟩ : ∃ x, (sgG L [59] k1 F1).1 = x := ⟨_, rfl⟩
          obtain ⟨F2', hF2⟩ : ∃ x, (sgG L [59] k1 F1).2 = x := ⟨_, rfl⟩
          rw [hk2, hF2] at HSC HQ1
          rw [hk2] at HK2 HG2
          clear hk2 hF2
          go_wp2_with fail
          refine HSC.out.mono ?_
          rintro e wi ⟨rfl, hbu, hp⟩
          have HP9 := Lib.hid hp
          have HU9 := Lib.hid (HU8.out.trans hbu (fun _ _ h => h))
          have HA9 := Lib.hid (HA8.out.but hbu ne3)
          have HB9 := Lib.hid (HB8.out.but hbu ne5)
          have HW9 := Lib.hid (HWI8.out.keep hbu (fun j hj hs e => by rcases hs with hs | hs; (have := HSA.out _ hs; have := HN.out; omega); (have := HZ3.out; have := HZ4.out; have := HZ5.out; have := HZ6.out; have := HBG.out; have := HN.out; omega)))
          have HI9 := Lib.hid (show ImQ L RES nm (im ++ [x]) k2' F2' from by
            have q := HQ1.out
            cases F2' with
            | none => exact ⟨f - 1, q, by have := HFF.out; have := HG2.out; omega⟩
            | some f => exact q)
          have HLN := Lib.hid (show (im ++ [x]).length = n + 1 from by rw [List.length_append, HIN.out]; rfl)
          have HMAP := Lib.hid (show (im ++ [x]).map Value.string = im.map Value.string ++ [.string x] from by simp)
          clear hbu hp HP8 HU8 HA8 HB8 HWI8 HSC HQ1
          have HWE := Lib.hid (show ∃ S : Nat → Prop, (∀ b, S b → B < b ∧ b < wi.heap.size) ∧ Win S 9 1 wi (.slice io' (im ++ [x]).length ic') (im ++ [x]).length ((im ++ [x]).map Value.string) from by
            rw [HLN.out, HMAP.out]
            refine ⟨fun b => (S b ∨ wf.heap.size ≤ b) ∧ b < wi.heap.size, fun b hb => ⟨?_, hb.2⟩, HW9.out.mono (fun b hlt hs => ⟨hs, hlt⟩)⟩
            rcases hb.1 with hs | hs
            · exact HSA.out b hs
            · have := HZ3.out; have := HZ4.out; have := HZ5.out; have := HZ6.out; have := HBG.out; omega)
          have hc1 : wi.cell? ⟨g, 1, none⟩ = some (.int .i64 (k2' : Int)) := HP9.out.1.cell 1
          have hc0 : wr.cell? ⟨g, 1, none⟩ = some (.int .i64 (kk : Int)) := HPR.out.1.cell 1
          go_wp2
          go_roundw
          case rel => exact ⟨k2', F2', im ++ [x], io', ic', by rw [HLN.out]; omega, HK2, HP9, HI9, by rw [HLN.out]; exact HA9, HB9, HU9, HWE⟩
          case measure => rw [hc1, hc0]; simp [intOf]; have := HG2.out; omega
end Go.Proofs.Ytihcmneidbjmlaa
