import Derived.Test.YtbjgojdpfehnmaaJnK
namespace Go.Proofs.Ytbjgojdpfehnmaa
set_option linter.unusedVariables false
open Go.RowKit Go.Sort
def set5 (w : World) (g : Nat) (u0 u1 u2 u3 u4 : Value) : World := ((((w.setCell ⟨g, 0, none⟩ u0).setCell ⟨g, 1, none⟩ u1).setCell ⟨g, 2, none⟩ u2).setCell ⟨g, 3, none⟩ u3).setCell ⟨g, 4, none⟩ u4
theorem set5_fold (w : World) (g : Nat) (u0 u1 u2 u3 u4 : Value) : ((((w.setCell ⟨g, 0, none⟩ u0).setCell ⟨g, 1, none⟩ u1).setCell ⟨g, 2, none⟩ u2).setCell ⟨g, 3, none⟩ u3).setCell ⟨g, 4, none⟩ u4 = set5 w g u0 u1 u2 u3 u4 := rfl
theorem Own.put5 {w : World} {g : Nat} {t : TypeId} {v0 v1 v2 v3 v4 : Value} (h : Own w g t [v0, v1, v2, v3, v4]) (u0 u1 u2 u3 u4 : Value) : Own (set5 w g u0 u1 u2 u3 u4) g t [u0, u1, u2, u3, u4] := ((((h.put 0 u0).put 1 u1).put 2 u2).put 3 u3).put 4 u4
theorem But.set5 (w : World) (g : Nat) (u0 u1 u2 u3 u4 : Value) : But (fun j => j = g) w (set5 w g u0 u1 u2 u3 u4) :=
 (((((But.refl (fun j => j = g) w).setCell (p := ⟨g, 0, none⟩) (fun _ => rfl) _).setCell (p := ⟨g, 1, none⟩) (fun _ => rfl) _).setCell (p := ⟨g, 2, none⟩) (fun _ => rfl) _).setCell (p := ⟨g, 3, none⟩) (fun _ => rfl) _).setCell (p := ⟨g, 4, none⟩) (fun _ => rfl) _
structure Gv where
 mo : Option Addr
 no : Option Addr
 ho : Option Addr
 wo : Option Addr
 mc : Nat
 nc : Nat
 hc : Nat
 wc : Nat
def grv (gr : Gj) (a : Gv) : Value := .agg #[.slice a.mo gr.ms.length a.mc, .slice a.no gr.ns.length a.nc, .slice a.ho gr.hs.length a.hc, .slice a.wo gr.ws.length a.wc, .int .i64 gr.st]
def HasNs (w : World) (R : Nat → Prop) (no : Option Addr) (ns : List Nj) : Prop := ∀ (k : Nat) (x : Nj), ns[k]? = some x → ∃ b off ko kc, no = some ⟨b, off, none⟩ ∧ b < w.heap.size ∧ (R b ∧ x.ks.length ≤ kc) ∧
 w.cell? ⟨b, off + k * 10, none⟩ = some (.int .i64 x.op) ∧ w.cell? ⟨b, off + k * 10 + 1, none⟩ = some (.string x.tx) ∧ w.cell? ⟨b, off + k * 10 + 2, none⟩ = some (.int .u64 x.s0) ∧ w.cell? ⟨b, off + k * 10 + 3, none⟩ = some (.int .u64 x.s1) ∧
 w.cell? ⟨b, off + k * 10 + 4, none⟩ = some (.int .u64 x.s2) ∧ w.cell? ⟨b, off + k * 10 + 5, none⟩ = some (.int .u64 x.s3) ∧ w.cell? ⟨b, off + k * 10 + 6, none⟩ = some (.slice ko x.ks.length kc) ∧ w.cell? ⟨b, off + k * 10 + 7, none⟩ = some (.int .i64 x.tg) ∧
 w.cell? ⟨b, off + k * 10 + 8, none⟩ = some (.int .i64 (x.mo : Int)) ∧ w.cell? ⟨b, off + k * 10 + 9, none⟩ = some (.int .i64 x.ru) ∧ HasKn w R ko x.ks
theorem HasNs.but {S R : Nat → Prop} {w w' : World} {no : Option Addr} {ns : List Nj} (h : HasNs w R no ns) (hb : But S w w') (hS : ∀ j, j < w.heap.size → R j → ¬ S j) : HasNs w' R no ns := fun k x hx => by
 obtain ⟨b, off, ko, kc, e, hlt, hr, c0, c1, c2, c3, c4, c5, c6, c7, c8, c9, hk⟩ := h k x hx
 have hn := hS b hlt hr.1
 exact ⟨b, off, ko, kc, e, aL hlt hb.size, hr, hb.cell hn c0, hb.cell hn c1, hb.cell hn c2, hb.cell hn c3, hb.cell hn c4, hb.cell hn c5, hb.cell hn c6, hb.cell hn c7, hb.cell hn c8, hb.cell hn c9, hk.but hb hS⟩
theorem HasNs.mono {R T : Nat → Prop} {w : World} {no : Option Addr} {ns : List Nj} (h : HasNs w R no ns) (hR : ∀ b, b < w.heap.size → R b → T b) : HasNs w T no ns := fun k x hx => by
 obtain ⟨b, off, ko, kc, e, hlt, hr, c0, c1, c2, c3, c4, c5, c6, c7, c8, c9, hk⟩ := h k x hx
 exact ⟨b, off, ko, kc, e, hlt, ⟨hR b hlt hr.1, hr.2⟩, c0, c1, c2, c3, c4, c5, c6, c7, c8, c9, hk.mono hR⟩
def HasHs (w : World) (R : Nat → Prop) (ho : Option Addr) (hs : List Hj) : Prop := ∀ (k : Nat) (x : Hj), hs[k]? = some x → ∃ b off, ho = some ⟨b, off, none⟩ ∧ b < w.heap.size ∧ R b ∧
 w.cell? ⟨b, off + k * 3, none⟩ = some (.int .i64 (x.mo : Int)) ∧ w.cell? ⟨b, off + k * 3 + 1, none⟩ = some (.string x.nm) ∧ w.cell? ⟨b, off + k * 3 + 2, none⟩ = some (.int .i64 (x.bo : Int))
theorem HasHs.but {S R : Nat → Prop} {w w' : World} {ho : Option Addr} {hs : List Hj} (h : HasHs w R ho hs) (hb : But S w w') (hS : ∀ j, j < w.heap.size → R j → ¬ S j) : HasHs w' R ho hs := fun k x hx => by
 obtain ⟨b, off, e, hlt, hr, c0, c1, c2⟩ := h k x hx
 have hn := hS b hlt hr
 exact ⟨b, off, e, aL hlt hb.size, hr, hb.cell hn c0, hb.cell hn c1, hb.cell hn c2⟩
theorem HasHs.mono {R T : Nat → Prop} {w : World} {ho : Option Addr} {hs : List Hj} (h : HasHs w R ho hs) (hR : ∀ b, b < w.heap.size → R b → T b) : HasHs w T ho hs := fun k x hx => by
 obtain ⟨b, off, e, hlt, hr, c0, c1, c2⟩ := h k x hx
 exact ⟨b, off, e, hlt, hR b hlt hr, c0, c1, c2⟩
def HasKi (w : World) (R : Nat → Prop) (ao : Option Addr) (L : List Int) : Prop := ∀ (k : Nat) (x : Int), L[k]? = some x → ∃ b off, ao = some ⟨b, off, none⟩ ∧ b < w.heap.size ∧ R b ∧ w.cell? ⟨b, off + k, none⟩ = some (.int .i64 x)
theorem HasKi.but {S R : Nat → Prop} {w w' : World} {ao : Option Addr} {L : List Int} (h : HasKi w R ao L) (hb : But S w w') (hS : ∀ j, j < w.heap.size → R j → ¬ S j) : HasKi w' R ao L := fun k x hx => by
 obtain ⟨b, off, e, hlt, hr, c⟩ := h k x hx
 exact ⟨b, off, e, aL hlt hb.size, hr, hb.cell (hS b hlt hr) c⟩
theorem HasKi.mono {R T : Nat → Prop} {w : World} {ao : Option Addr} {L : List Int} (h : HasKi w R ao L) (hR : ∀ b, b < w.heap.size → R b → T b) : HasKi w T ao L := fun k x hx => by
 obtain ⟨b, off, e, hlt, hr, c⟩ := h k x hx
 exact ⟨b, off, e, hlt, hR b hlt hr, c⟩
theorem hasKi_of {S : Nat → Prop} {w : World} {ao : Option Addr} {n c : Nat} {L : List Int} (h : Win S 3 1 w (.slice ao n c) n (L.map (Value.int .i64))) : HasKi w S ao L := fun k x hx => by
 have hk : k < L.length := (aS.1 hx).1
 have hn : L.length = n := by have := h.1; simpa using this
 obtain ⟨ao', cap, e1, h1, h2, hf⟩ := h.form
 injection e1 with e1 e2 e3
 subst e1
 obtain ⟨g, off, e, hs, hg, hc, _⟩ := hf k (by omega)
 exact ⟨g, off, e, hg, hs, by rw [hc, List.getElem?_map, hx]; rfl⟩
def HasGR (w : World) (R : Nat → Prop) (gr : Gj) (a : Gv) : Prop := HasNs w R a.no gr.ns ∧ HasHs w R a.ho gr.hs ∧ HasKi w R a.wo gr.ws ∧ HasNR w R a.mo gr.ms
theorem HasGR.but {S R : Nat → Prop} {w w' : World} {gr : Gj} {a : Gv} (h : HasGR w R gr a) (hb : But S w w') (hS : ∀ j, j < w.heap.size → R j → ¬ S j) : HasGR w' R gr a := ⟨h.1.but hb hS, h.2.1.but hb hS, h.2.2.1.but hb hS, h.2.2.2.but hb hS⟩
theorem HasGR.mono {R T : Nat → Prop} {w : World} {gr : Gj} {a : Gv} (h : HasGR w R gr a) (hR : ∀ b, b < w.heap.size → R b → T b) : HasGR w T gr a := ⟨h.1.mono hR, h.2.1.mono hR, h.2.2.1.mono hR, h.2.2.2.mono hR⟩
abbrev HasG (w : World) (gr : Gj) (a : Gv) : Prop := HasGR w (fun _ => True) gr a
theorem HasGR.below {R : Nat → Prop} {w w' : World} {gr : Gj} {a : Gv} (h : HasGR w R gr a) (hb : Below w.heap.size w w') : HasGR w' R gr a := h.but (S := fun _ => False) (But.of_below hb) fun _ _ _ h => h
def JoE (D : Nat) (r : Except Ft3 Gj) (e : Ending) (w' : World) : Prop := match r with
 | .ok gr => ∃ a, e = .returned (.tuple #[grv gr a, .agg #[.int .i64 0, .int .i64 0, .int .i64 0, .int .i64 0]]) ∧ HasGR w' (fun b => D ≤ b) gr a
 | .error f => e = .returned (.tuple #[.agg #[.slice none 0 0, .slice none 0 0, .slice none 0 0, .slice none 0 0, .int .i64 0], .agg #[.int .i64 f.1, .int .i64 0, .int .i64 f.2.1, .int .i64 f.2.2]]) ∧ f.1 ≠ 0
def rowsJ (ms : List ByteArray) (hs : List Hj) (ws : List Int) (FL : List Nat) : Rw
 | 1 => (ms.length, ms.map Value.string)
 | 3 => (hs.length, hs.flatMap hjrow)
 | 4 => (ws.length, ws.map (Value.int .i64))
 | 5 => (FL.length, knrow FL)
 | _ => (0, [])
theorem rowsJ_1 (ms : List ByteArray) (hs : List Hj) (ws : List Int) (FL : List Nat) (x : ByteArray) : ∀ k, upd (rowsJ ms hs ws FL) 1 ((rowsJ ms hs ws FL 1).1 + 1, (rowsJ ms hs ws FL 1).2 ++ [Value.string x]) k = rowsJ (ms ++ [x]) hs ws FL k
 | 0 => rfl
 | 1 => by
  rw [upd_same]
  show (ms.length + 1, ms.map Value.string ++ [Value.string x]) = ((ms ++ [x]).length, (ms ++ [x]).map Value.string)
  simp
 | 2 => rfl
 | 3 => rfl
 | 4 => rfl
 | 5 => rfl
 | _ + 6 => rfl
theorem rowsJ_3 (ms : List ByteArray) (hs : List Hj) (ws : List Int) (FL : List Nat) (x : Hj) : ∀ k, upd (rowsJ ms hs ws FL) 3 ((rowsJ ms hs ws FL 3).1 + 1, (rowsJ ms hs ws FL 3).2 ++ hjrow x) k = rowsJ ms (hs ++ [x]) ws FL k
 | 0 => rfl
 | 1 => rfl
 | 2 => rfl
 | 3 => by
  rw [upd_same]
  show (hs.length + 1, hs.flatMap hjrow ++ hjrow x) = ((hs ++ [x]).length, (hs ++ [x]).flatMap hjrow)
  simp
 | 4 => rfl
 | 5 => rfl
 | _ + 6 => rfl
theorem rowsJ_4 (ms : List ByteArray) (hs : List Hj) (ws : List Int) (FL : List Nat) (x : Int) : ∀ k, upd (rowsJ ms hs ws FL) 4 ((rowsJ ms hs ws FL 4).1 + 1, (rowsJ ms hs ws FL 4).2 ++ [Value.int .i64 x]) k = rowsJ ms hs (ws ++ [x]) FL k
 | 0 => rfl
 | 1 => rfl
 | 2 => rfl
 | 3 => rfl
 | 4 => by
  rw [upd_same]
  show (ws.length + 1, ws.map (Value.int .i64) ++ [Value.int .i64 x]) = ((ws ++ [x]).length, (ws ++ [x]).map (Value.int .i64))
  simp
 | 5 => rfl
 | _ + 6 => rfl
theorem fstL_bd : ∀ (ML : List Md) (s : Nat), (∀ m ∈ ML, m.ru.length ≤ 24) → ∀ x ∈ fstL ML s, x ≤ s + 24 * ML.length
 | [], s, _, x, hx => by unfold fstL at hx; simp at hx
 | m :: r, s, h, x, hx => by
  unfold fstL at hx
  have h1 := h m (List.mem_cons_self ..)
  rcases List.mem_cons.1 hx with rfl | hx
  ·
   simp
  ·
   have := fstL_bd r (s + m.ru.length) (fun y hy => h y (List.mem_cons_of_mem _ hy)) x hx
   rw [List.length_cons]
   omega
theorem Wk.start (w0 : World) (lv : Value) : Wk w0 (w0.alloc (.cells #[lv, .slice none 0 0, .slice none 0 0, .slice none 0 0, .slice none 0 0, .int .i64 0, .slice none 0 0, .int .i64 0, .int .i64 0, .int .i64 0, .int .i64 0] 87)) w0.heap.size (fun b => if b = w0.heap.size then 9 else 0) (fun _ => (0, [])) (fun _ => .slice none 0 0) lv 0 none := by
 have hb : Below w0.heap.size w0 (w0.alloc (.cells #[lv, .slice none 0 0, .slice none 0 0, .slice none 0 0, .slice none 0 0, .int .i64 0, .slice none 0 0, .int .i64 0, .int .i64 0, .int .i64 0, .int .i64 0] 87)) := bA _
 refine ⟨hb, Nat.le_refl _, if_pos rfl, fun b hc => ?_, Own.fresh w0 87 _, fun i h1 h5 => Win.nil _ _ _ _, fun f e => by cases e⟩
 by_cases e : b = w0.heap.size
 ·
  subst e; simp
 ·
  exact absurd (if_neg e) hc
section
variable {w0 w w' w3 wq : World} {g : Nat} {c : Nat → Nat} {rows rows' : Rw} {v : Nat → Value} {lv : Value} {st : Int} {F : Option Ft3} {N : List Nj}
theorem Jn.grown {Z : List Zj} (h : Wk w0 w g c (upd rows 2 (Z.length, Z.flatMap njrow)) v lv st F) (hZ : Z.map (·.n) = N) (hK : ∀ z ∈ Z, HasKz w (fun b => c b = 7) z) (hq : Below w.heap.size w wq) {i : Nat} (h1 : 1 ≤ i) (h5 : i ≤ 5) (h2 : i ≠ 2) {v' : Value} {m : Nat} {news : List Value}
  (hw : Win (fun b => c b = i ∨ wq.heap.size ≤ b) (tyJ i) (szJ i) w3 v' ((rows i).1 + m) ((rows i).2 ++ news)) (hb : But (fun b => c b = i) wq w3) (hr : ∀ k, upd rows i ((rows i).1 + m, (rows i).2 ++ news) k = rows' k) :
  Jn w0 (w3.setCell ⟨g, ceJ i, none⟩ v') g (newC c wq w3 i) rows' lv st N F := by
 have hG := h.grown hq (i := i) (v' := v') (m := m) (news := news) h1 h5 (by rw [upd_far _ _ h2]; exact hw) hb
 refine ⟨_, Z, hG.1.rows_eq fun k k1 k5 => ?_, hZ, kids_keep hK hG.2.1 (fun b hlt h7 hs => ?_) hG.2.2⟩
 ·
  by_cases e2 : k = 2
  ·
   subst e2
   rw [upd_far _ _ (fun e => h2 e.symm), upd_same, upd_same]
  ·
   by_cases ei : k = i
   ·
    subst ei
    rw [upd_same, upd_far rows' _ e2, ← hr k, upd_same, upd_far rows _ e2]
   ·
    rw [upd_far _ _ ei, upd_far _ _ e2, upd_far _ _ e2, ← hr k, upd_far _ _ ei]
 ·
  rcases hs with hs | hs
  ·
   rw [hs, h.cg] at h7; omega
  ·
   have hs : c b = i := hs
   omega
theorem Jn.hasG {ms : List ByteArray} {hs : List Hj} {ws : List Int} {FL : List Nat} (h : Jn w0 w g c (rowsJ ms hs ws FL) lv st N F) : ∃ a, Own w g 87 [lv, .slice a.mo ms.length a.mc, .slice a.no N.length a.nc, .slice a.ho hs.length a.hc, .slice a.wo ws.length a.wc, .int .i64 st, (h.choose 5), .int .i64 (e3 F), .int .i64 0, .int .i64 (m3 F), .int .i64 (r3 F)] ∧ HasGR w (fun b => w0.heap.size ≤ b) ⟨ms, N, hs, ws, st⟩ a := by
 have hc := h.choose_spec
 generalize h.choose = v at hc ⊢
 obtain ⟨Z, hW, hZ, hK⟩ := hc
 have w1 := hW.win 1 (by omega) (by omega)
 have w2 := hW.win 2 (by omega) (by omega)
 have w3 := hW.win 3 (by omega) (by omega)
 have w4 := hW.win 4 (by omega) (by omega)
 rw [upd_far _ _ (by decide)] at w1 w3 w4
 rw [upd_same] at w2
 have w1 : Win (fun b => c b = 1) 9 1 w (v 1) ms.length (ms.map Value.string) := w1
 have w2 : Win (fun b => c b = 2) 42 10 w (v 2) Z.length (Z.flatMap njrow) := w2
 have w3 : Win (fun b => c b = 3) 48 3 w (v 3) hs.length (hs.flatMap hjrow) := w3
 have w4 : Win (fun b => c b = 4) 3 1 w (v 4) ws.length (ws.map (Value.int .i64)) := w4
 have hl : N.length = Z.length := by rw [← hZ, List.length_map]
 obtain ⟨mo, mc, e1, -, -, -⟩ := w1.form
 obtain ⟨no, nc, e2, -, -, f2⟩ := w2.form
 obtain ⟨ho, hc, e3', -, -, f3⟩ := w3.form
 obtain ⟨wo, wc, e4, -, -, -⟩ := w4.form
 have ow : Own w g 87 [lv, v 1, v 2, v 3, v 4, .int .i64 st, v 5, .int .i64 (e3 F), .int .i64 0, .int .i64 (m3 F), .int .i64 (r3 F)] := hW.own
 refine ⟨⟨mo, no, ho, wo, mc, nc, hc, wc⟩, ?_, ?_, ?_, ?_, ?_⟩
 ·
  rw [← e1, hl, ← e2, ← e3', ← e4]; exact ow
 ·
  intro k x hx
  obtain ⟨z, hz, rfl⟩ : ∃ z, Z[k]? = some z ∧ z.n = x := by
   rw [← hZ, List.getElem?_map] at hx
   cases hz : Z[k]? with
   | none => rw [hz] at hx; simp at hx
   | some z => rw [hz] at hx; exact ⟨z, rfl, by simpa using hx⟩
  have hk : k < Z.length := (aS.1 hz).1
  have get : ∀ j, j < 10 → ∃ b off, no = some ⟨b, off, none⟩ ∧ b < w.heap.size ∧ w0.heap.size ≤ b ∧ w.cell? ⟨b, off + (k * 10 + j), none⟩ = (njrow z)[j]? := fun j hj => by
   obtain ⟨b, off, e, hs, hb, hcc, _⟩ := f2 (k * 10 + j) (by omega)
   exact ⟨b, off, e, hb, (hW.dom b (by omega)).1, by rw [hcc, njrow_at Z k j z hz hj]⟩
  obtain ⟨b, off, e, hb, hR, c0⟩ := get 0 (by omega)
  have get2 : ∀ j, j < 10 → w.cell? ⟨b, off + k * 10 + j, none⟩ = (njrow z)[j]? := fun j hj => by
   obtain ⟨b', off', e', _, _, hcc⟩ := get j hj
   rw [e] at e'
   injection e' with e'; injection e' with e5 e6
   subst e5 e6
   rw [Nat.add_assoc]; exact hcc
  exact ⟨b, off, z.ko, z.kc, e, hb, ⟨hR, (hK z (aM hz)).2⟩, get2 0 (by omega), get2 1 (by omega), get2 2 (by omega), get2 3 (by omega), get2 4 (by omega), get2 5 (by omega), get2 6 (by omega), get2 7 (by omega), get2 8 (by omega), get2 9 (by omega), (hK z (aM hz)).1.mono fun b _ h7 => (hW.dom b (by omega)).1⟩
 ·
  intro k x hx
  have hk : k < hs.length := (aS.1 hx).1
  have get : ∀ j, j < 3 → ∃ b off, ho = some ⟨b, off, none⟩ ∧ b < w.heap.size ∧ w0.heap.size ≤ b ∧ w.cell? ⟨b, off + (k * 3 + j), none⟩ = (hjrow x)[j]? := fun j hj => by
   obtain ⟨b, off, e, hcb, hb, hcc, _⟩ := f3 (k * 3 + j) (by omega)
   exact ⟨b, off, e, hb, (hW.dom b (by omega)).1, by rw [hcc, hjrow_at hs k j x hx hj]⟩
  obtain ⟨b, off, e, hb, hR, c0⟩ := get 0 (by omega)
  have get2 : ∀ j, j < 3 → w.cell? ⟨b, off + k * 3 + j, none⟩ = (hjrow x)[j]? := fun j hj => by
   obtain ⟨b', off', e', _, _, hcc⟩ := get j hj
   rw [e] at e'
   injection e' with e'; injection e' with e5 e6
   subst e5 e6
   rw [Nat.add_assoc]; exact hcc
  exact ⟨b, off, e, hb, hR, get2 0 (by omega), get2 1 (by omega), get2 2 (by omega)⟩
 ·
  rw [e4] at w4; exact (hasKi_of w4).mono fun b _ h4 => (hW.dom b (by omega)).1
 ·
  rw [e1] at w1; exact (hasNR_of w1).mono fun b _ h4 => (hW.dom b (by omega)).1
end
theorem gB (w : World) (a : Gv) (gr : Gj) : aQ (Below w.heap.size w (w.alloc (.cells #[.slice a.mo gr.ms.length a.mc, .slice a.no gr.ns.length a.nc, .slice a.ho gr.hs.length a.hc, .slice a.wo gr.ws.length a.wc, .int .i64 gr.st] 27))) := aH (bA _)
theorem gO (w : World) (a : Gv) (gr : Gj) : aQ (Own (w.alloc (.cells #[.slice a.mo gr.ms.length a.mc, .slice a.no gr.ns.length a.nc, .slice a.ho gr.hs.length a.hc, .slice a.wo gr.ws.length a.wc, .int .i64 gr.st] 27)) w.heap.size 27 [.slice a.mo gr.ms.length a.mc, .slice a.no gr.ns.length a.nc, .slice a.ho gr.hs.length a.hc, .slice a.wo gr.ws.length a.wc, .int .i64 gr.st]) := aH (Own.fresh w 27 [.slice a.mo gr.ms.length a.mc, .slice a.no gr.ns.length a.nc, .slice a.ho gr.hs.length a.hc, .slice a.wo gr.ws.length a.wc, .int .i64 gr.st])
end Go.Proofs.Ytbjgojdpfehnmaa
