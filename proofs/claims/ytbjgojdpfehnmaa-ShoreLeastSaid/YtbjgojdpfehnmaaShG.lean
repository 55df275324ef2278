import Derived.Test.YtbjgojdpfehnmaaSb
import Derived.Test.YtbjgojdpfehnmaaLx
import Derived.Test.YtbjgojdpfehnmaaHv
import Derived.Deep.LoopGhost
import Derived.Deep.CutBlock
namespace Go.Proofs.Ytbjgojdpfehnmaa
set_option linter.unusedVariables false
open Go.RowKit Go.Sort
theorem info_ints : (Try.prog.info? 23).map (fun i => (i.zero, i.size, i.bytes)) = some (some (.slice none 0 0), 1, 24) := by kernel_rfl
theorem run_rows (n : Nat) (hn : (n : Int) ≤ 1000) (w : World) : (Instr.makeSlice 44 (.int .i64 (n : Int)) (.int .i64 (n : Int))).run Try.prog w = .ok (.slice (some ⟨w.heap.size, 0, none⟩) n n) (w.alloc (.cells (Array.replicate n (Value.slice none 0 0)) 23)) := by
 obtain ⟨j0, hj, hy0, hy1, hy2⟩ := info_parts info_ints
 have h := run_make (P := Try.prog) w 44 23 j0 (.slice none 0 0) Try.underlying44 hj hy0 .i64 .i64 n n (by omega) (Int.le_refl _) (by rw [hy2]; omega) (by omega)
 rw [h, hy1, Int.toNat_natCast, Nat.mul_one, ← List.toArray_replicate, ← toList_madeCells_one]
 rfl
def OffS (S : Nat → Prop) (v : Value) : Prop := ∀ g off n c, v = .slice (some ⟨g, off, none⟩) n c → 0 < n → ¬ S g
theorem IntsAt.off {S : Nat → Prop} {w w' : World} {C : Nat} {v : Value} {L : List Int} (h : IntsAt w C v L) (hb : But S w w') (hS : OffS S v) : IntsAt w' C v L := by
 obtain ⟨ao, cap, e, hc, hf⟩ := h
 refine ⟨ao, cap, e, hc, fun j hj => ?_⟩
 obtain ⟨g, off, e1, h1, h2, h3⟩ := hf j hj
 exact ⟨g, off, e1, aL h1 hb.size, h2, hb.cell (hS g off _ _ (by rw [e, e1]) (by omega)) h3⟩
theorem IntsAt.blk {w : World} {C : Nat} {v : Value} {L : List Int} (h : IntsAt w C v L) {g off n c : Nat} (e : v = .slice (some ⟨g, off, none⟩) n c) (hn : 0 < n) : C ≤ g ∧ g < w.heap.size := by
 obtain ⟨ao, cap, e1, hc, hf⟩ := h
 rw [e1] at e
 injection e with e2 e3 e4
 obtain ⟨g', off', e5, h1, h2, -⟩ := hf 0 (by omega)
 rw [e2] at e5
 injection e5 with e5
 injection e5 with e6 e7
 subst e6
 exact ⟨h2, h1⟩
def LdW (w : World) (C : Nat) (LD : Nx) (vl : Value) (k : Nat) : Prop := ∃ (V : Nat → Value) (S : Nat → Prop), Win S 23 1 w vl k ((List.range k).map V) ∧ (∀ g, S g → C ≤ g ∧ g < w.heap.size) ∧ ∀ j, j < k → IntsAt w C (V j) (LD j) ∧ OffS S (V j)
theorem LdW.nil (w : World) (C : Nat) (LD : Nx) : LdW w C LD (.slice none 0 0) 0 := ⟨fun _ => .slice none 0 0, fun _ => False, Win.nil _ _ _ _, fun _ h => h.elim, fun j hj => by omega⟩
theorem LdW.below {w w' : World} {C : Nat} {LD : Nx} {vl : Value} {k : Nat} (h : LdW w C LD vl k) (hb : Below w.heap.size w w') : LdW w' C LD vl k := by
 obtain ⟨V, S, h1, h2, h3⟩ := h
 exact ⟨V, S, h1.below hb, fun g hg => ⟨(h2 g hg).1, aL (h2 g hg).2 hb.size⟩, fun j hj => ⟨(h3 j hj).1.below hb, (h3 j hj).2⟩⟩
theorem LdW.but {w w' : World} {C p : Nat} {LD : Nx} {vl : Value} {k : Nat} (h : LdW w C LD vl k) (hb : But (fun g => g = p) w w') (hp : p < C) : LdW w' C LD vl k := by
 obtain ⟨V, S, h1, h2, h3⟩ := h
 exact ⟨V, S, h1.keep hb (fun g hg hs e => by have := (h2 g hs).1; have e : g = p := e; omega), fun g hg => ⟨(h2 g hg).1, aL (h2 g hg).2 hb.size⟩, fun j hj => ⟨(h3 j hj).1.but hb (fun b hc _ e => by have e : b = p := e; omega), (h3 j hj).2⟩⟩
theorem LdW.more {w w' : World} {C : Nat} {LD : Nx} {V : Nat → Value} {S : Nat → Prop} {v v' : Value} {k : Nat} (hC : C ≤ w.heap.size) (h2 : ∀ g, S g → C ≤ g ∧ g < w.heap.size) (h3 : ∀ j, j < k → IntsAt w C (V j) (LD j) ∧ OffS S (V j)) (hv : IntsAt w C v (LD k)) (ho : OffS S v)
  (hw : Win (fun g => S g ∨ w.heap.size ≤ g) 23 1 w' v' (k + 1) ((List.range k).map V ++ [v])) (hb : But S w w') : LdW w' C LD v' (k + 1) := by
 obtain ⟨g, off, cap, e, hg, hn, hl⟩ := hw.has (Nat.succ_pos k)
 refine ⟨fun j => if j = k then v else V j, fun b => b = g, ?_, fun b e => ?_, fun j hj => ?_⟩
 ·
  have e2 : (List.range (k + 1)).map (fun j => if j = k then v else V j) = (List.range k).map V ++ [v] := by
   rw [List.range_succ, List.map_append]
   congr 1
   ·
    refine List.map_congr_left fun j hj => ?_
    have := List.mem_range.1 hj
    exact if_neg (by omega)
   ·
    simp
  rw [e2]
  obtain ⟨q1, q2⟩ := hw
  refine ⟨q1, ?_⟩
  rcases q2 with q2 | ⟨g2, off2, cap2, cur, ev, hs, r⟩
  ·
   rw [q2.1] at e; injection e with e; cases e
  ·
   have : g2 = g := by rw [ev] at e; injection e with e; injection e with e; injection e with e
   exact .inr ⟨g2, off2, cap2, cur, ev, this, r⟩
 ·
  have e : b = g := e
  rw [e]
  exact ⟨by rcases hg with h | h; exact (h2 g h).1; omega, hl⟩
 ·
  have key : ∀ {u : Value} {L : List Int}, IntsAt w C u L → OffS S u → IntsAt w' C u L ∧ OffS (fun b => b = g) u := fun hi ho => ⟨hi.off hb ho, fun g2 off2 n c ev2 hn e2 => by
   have e2 : g2 = g := e2
   subst e2
   rcases hg with h | h
   ·
    exact ho _ _ _ _ ev2 hn h
   ·
    have := (hi.blk ev2 hn).2; omega⟩
  show IntsAt w' C (if j = k then v else V j) (LD j) ∧ OffS (fun b => b = g) (if j = k then v else V j)
  by_cases e : j = k
  ·
   rw [if_pos e, e]; exact key hv ho
  ·
   rw [if_neg e]; exact key (h3 j (by omega)).1 (h3 j (by omega)).2
theorem LdW.at_ {w : World} {C : Nat} {LD : Nx} {lo : Option Addr} {k lc : Nat} (h : LdW w C LD (.slice lo k lc) k) : ∀ j, j < k → ∃ b off v, lo = some ⟨b, off, none⟩ ∧ b < w.heap.size ∧ C ≤ b ∧ w.cell? ⟨b, off + j, none⟩ = some v ∧ IntsAt w C v (LD j) := fun j hj => by
 obtain ⟨V, S, h1, h2, h3⟩ := h
 obtain ⟨ao, cap, e, -, -, hf⟩ := h1.form
 injection e with e1 e2 e3
 obtain ⟨g, off, e4, hs, hl, hc, -⟩ := hf j (by omega)
 refine ⟨g, off, V j, e1.trans e4, hl, (h2 g hs).1, ?_, (h3 j hj).1⟩
 rw [hc, List.getElem?_map, List.getElem?_range hj]
 rfl
theorem Src.oneV {w : World} {G : Nat} {v : Value} (h : Own w G 23 [v]) (h1 : v.oneCell' = true) : Src Try.prog 1 44 (.slice (some ⟨G, 0, none⟩) 1 1) 1 [v] w := by
 refine Src.ofSlice w Try.underlying44 ⟨G, 0, none⟩ 1 1 [v] (by simp) (fun j u hu => ?_) (fun u hu => by rw [List.mem_singleton] at hu; rw [hu]; exact h1)
 rw [Addr.add_lit, Nat.zero_add, h.cell j]
 exact hu
theorem Sh.flag {w : World} {E p u q C : Nat} {lo : Option Addr} {lc : Nat} {gr : Gj} {a : Gv} {LD : Nx} {s : Nx × Bool} (h : Sh w E p u q C lo lc gr a LD s) (z : Bool) : Sh (w.setCell ⟨p, 8, none⟩ (.bool z)) E p u q C lo lc gr a LD (s.1, z) := by
 have hb : But (fun j => j = p) w (w.setCell ⟨p, 8, none⟩ (.bool z)) := But.put w p 8 _
 have hI : ∀ {v' : Value} {L : List Int}, IntsAt w C v' L → IntsAt (w.setCell ⟨p, 8, none⟩ (.bool z)) C v' L := fun hi => hi.but hb (fun b hc _ e => by have := h.pc; have e : b = p := e; omega)
 obtain ⟨V, h1, h2⟩ := h.nx
 exact ⟨h.ep, h.eq, h.pq, h.up, h.uq, h.pc, h.qc, h.own.put 8 (.bool z), h.nu.but hb h.up, ⟨V, h1.but hb (fun e => h.pq e.symm), fun k hk => hI (h2 k hk)⟩,
  fun k hk => by obtain ⟨b, off, v, e, h3, h4, h5, h6⟩ := h.ld k hk; exact ⟨b, off, v, e, aL h3 hb.size, h4, hb.cell (fun e => by have := h.pc; have e : b = p := e; omega) h5, hI h6⟩,
  h.hg.but hb (fun j _ hj e => by have := h.ep; have e : j = p := e; omega), h.ok, Nat.le_trans h.sz hb.size⟩
def NxE (gr : Gj) (w : World) (e : Ending) (w' : World) : Prop := ∃ q, e = .returned (.slice (some ⟨q, 0, none⟩) gr.ns.length gr.ns.length) ∧ (∃ V : Nat → Value, Own w' q 23 ((List.range gr.ns.length).map V) ∧ ∀ k, k < gr.ns.length → IntsAt w' w.heap.size (V k) (nextG gr k)) ∧ w.heap.size ≤ q ∧ Below w.heap.size w w'
set_option maxRecDepth 1000000 in
set_option maxHeartbeats 3200000 in
theorem snext_any (gr : Gj) (a : Gv) (hg : Good gr) (har : ∀ x ∈ gr.ns, Ar x) (w : World) (hG : HasG w gr a) : Calls Try.prog 20 #[grv gr a] w (NxE gr w) := by
 have HGD := aH hg
 have HAR := aH har
 have HB1 := gB w a gr
 have HO1 := gO w a gr
 have HG1 := aH ((hG.mono (T := fun b => b < w.heap.size) (fun _ h _ => h)).below HB1.o)
 have HNU := aH (fun W h => enull_any gr a hg W h)
 have HLE := aH (fun (k : Int) W (h : HasG W gr a) => plead_any gr a hg k W h)
 have HTL := aH (fun E p u q C lo lc n hn s W hS => stell_any gr a hg har E p u q C lo lc (leadG gr) (lead_bd hg har) n hn s W hS)
 obtain ⟨RES, hRES⟩ : ∃ z, nextG gr = z := ⟨_, rfl⟩
 have HR0 := aH (show leastN (leadG gr) (actG gr (nulG gr)) gr.ns.length (gr.ns.length * gr.ns.length + 1) (fun _ => []) = RES from by rw [← hRES]; rfl)
 unfold NxE
 rw [hRES]
 unfold BoE at HNU
 unfold LeE at HLE
 unfold ShE at HTL
 unfold grv
 unfold grv at HNU HLE
 obtain ⟨nn, hnn⟩ : ∃ z, gr.ns.length = z := ⟨_, rfl⟩
 obtain ⟨nh, hnh⟩ : ∃ z, gr.hs.length = z := ⟨_, rfl⟩
 obtain ⟨nms, hnms⟩ : ∃ z, gr.ms.length = z := ⟨_, rfl⟩
 obtain ⟨nw, hnw⟩ : ∃ z, gr.ws.length = z := ⟨_, rfl⟩
 have HLN := aH hnn
 have HRW := aH (show ([.slice a.mo gr.ms.length a.mc, .slice a.no gr.ns.length a.nc, .slice a.ho gr.hs.length a.hc, .slice a.wo gr.ws.length a.wc, .int .i64 gr.st] : List Value) = [.slice a.mo nms a.mc, .slice a.no nn a.nc, .slice a.ho nh a.hc, .slice a.wo nw a.wc, .int .i64 gr.st] from by rw [hnn, hnh, hnms, hnw])
 have hn160 : (nn : Int) ≤ 160 := by have := hg.len; omega
 rw [hnn] at HR0
 rw [hnn, hnh, hnms, hnw] at HNU HLE HB1 HO1 HG1
 rw [hnn, hnh, hnms, hnw]
 obtain ⟨B, hB⟩ : ∃ B, w.heap.size = B := ⟨_, rfl⟩
 have HW1 := aH (show (w.alloc (.cells #[.slice a.mo nms a.mc, .slice a.no nn a.nc, .slice a.ho nh a.hc, .slice a.wo nw a.wc, .int .i64 gr.st] 27)).heap.size = B + 1 from by rw [← hB]; simp)
 have HBE := aH hB
 rw [hB] at HO1
 have hmk : ∀ W : World, (Instr.makeSlice 44 (.int .i64 (nn : Int)) (.int .i64 (nn : Int))).run Try.prog W = .ok (.slice (some ⟨W.heap.size, 0, none⟩) nn nn) (W.alloc (.cells (Array.replicate nn (Value.slice none 0 0)) 23)) := fun W => run_rows nn (by omega) W
 have HMK := aH hmk
 clear hg har hG hRES hnn hnh hnms hnw hmk
 go_enter Try.func20, Try.ntmps20
 go_upto_region 1 with fail
 generalize w.alloc (.cells #[.slice a.mo nms a.mc, .slice a.no nn a.nc, .slice a.ho nh a.hc, .slice a.wo nw a.wc, .int .i64 gr.st] 27) = w1 at *
 try rw [hB]
 clear hB
 have g0 : w1.cell? ⟨B, 0, none⟩ = some (.slice a.mo nms a.mc) := HO1.o.cell 0
 have g1 : w1.cell? ⟨B, 1, none⟩ = some (.slice a.no nn a.nc) := HO1.o.cell 1
 have g2 : w1.cell? ⟨B, 2, none⟩ = some (.slice a.ho nh a.hc) := HO1.o.cell 2
 have g3 : w1.cell? ⟨B, 3, none⟩ = some (.slice a.wo nw a.wc) := HO1.o.cell 3
 have g4 : w1.cell? ⟨B, 4, none⟩ = some (.int .i64 gr.st) := HO1.o.cell 4
 have gl := HO1.o.lt
 go_cut [3] (fun s3 wx => ∃ u q p, s3 = .pointer (some ⟨p, 0, none⟩) ∧ aQ (Own wx p 71 [.slice a.mo nms a.mc, .slice a.no nn a.nc, .slice a.ho nh a.hc, .slice a.wo nw a.wc, .int .i64 gr.st, .slice (some ⟨u, 0, none⟩) nn nn, .slice none 0 0, .slice (some ⟨q, 0, none⟩) nn nn, .bool false]) ∧ aQ (Own wx u 4 (rowB (nulG gr) nn)) ∧ aQ (Own wx q 23 (List.replicate nn (Value.slice none 0 0))) ∧ aQ (B + 1 ≤ u ∧ B + 1 ≤ q ∧ u ≠ q ∧ u < p ∧ q < p) ∧ aQ (Below w1.heap.size w1 wx))
 case first =>
  refine wp_region_held (S := fun Wx => B < Wx.heap.size ∧ Wx.cell? ⟨B, 0, none⟩ = some (.slice a.mo nms a.mc) ∧ Wx.cell? ⟨B, 1, none⟩ = some (.slice a.no nn a.nc) ∧ Wx.cell? ⟨B, 2, none⟩ = some (.slice a.ho nh a.hc) ∧ Wx.cell? ⟨B, 3, none⟩ = some (.slice a.wo nw a.wc) ∧ Wx.cell? ⟨B, 4, none⟩ = some (.int .i64 gr.st)) (by kernel_rfl) ?_
  change wpAnyH _ _ _ _ _ _ _ _ (World.drew _)
  have HKS := aH (fun (W : World) (h : Below w1.heap.size w1 W) => show B < W.heap.size ∧ W.cell? ⟨B, 0, none⟩ = some (.slice a.mo nms a.mc) ∧ W.cell? ⟨B, 1, none⟩ = some (.slice a.no nn a.nc) ∧ W.cell? ⟨B, 2, none⟩ = some (.slice a.ho nh a.hc) ∧ W.cell? ⟨B, 3, none⟩ = some (.slice a.wo nw a.wc) ∧ W.cell? ⟨B, 4, none⟩ = some (.int .i64 gr.st) from ⟨aL gl h.size, keepc g0 h, keepc g1 h, keepc g2 h, keepc g3 h, keepc g4 h⟩)
  have HSS := aH (HKS.o (World.drew w1) (Below.refl _ _).drew)
  clear g0 g1 g2 g3 g4 gl
  refine tkG 0 ?_ rfl HSS.o (by rfl) ?_ ?_; rotate_left; · rintro W ⟨a0, a1, a2, a3, a4, a5⟩; go_simp; try with_reducible rfl
  go_simp
  refine tkG 1 ?_ rfl HSS.o (by rfl) ?_ ?_; rotate_left; · rintro W ⟨a0, a1, a2, a3, a4, a5⟩; go_simp; try with_reducible rfl
  go_simp
  refine tkG 3 ?_ rfl HSS.o (by rfl) ?_ ?_; rotate_left; · rintro W ⟨a0, a1, a2, a3, a4, a5⟩; go_simp; try with_reducible rfl
  go_simp
  refine tkG 4 ?_ rfl HSS.o (by rfl) ?_ ?_; rotate_left; · rintro W ⟨a0, a1, a2, a3, a4, a5⟩; go_simp; try with_reducible rfl
  go_simp
  refine tkG 5 ?_ rfl HSS.o (by rfl) ?_ ?_; rotate_left; · rintro W ⟨a0, a1, a2, a3, a4, a5⟩; go_simp; try with_reducible rfl
  go_simp
  have hb0 : Below w1.heap.size w1 (World.drew w1) := (Below.refl _ _).drew
  refine held_two (i := 2) (k := 6) (by kernel_rfl) (op_call (f := 31) (vs := #[.agg #[.slice a.mo nms a.mc, .slice a.no nn a.nc, .slice a.ho nh a.hc, .slice a.wo nw a.wc, .int .i64 gr.st]]) rfl (by kernel_rfl) (by go_simp) ((HNU.o (World.drew w1) (HG1.o.below hb0 |>.mono fun _ _ _ => trivial)).mono ?_)) (op_value (v := .slice (some ⟨(World.drew w1).heap.size, 0, none⟩) nn nn) (w' := (World.drew w1).alloc (.cells (Array.replicate nn (Value.slice none 0 0)) 23)) rfl (by kernel_rfl) (by go_simp; rw [HMK.o]; rfl) ?_)
  ·
   rintro e v1 ⟨u, he, hu0, hul, hbq⟩
   have hb1 := hb0.trans (hbq.mono hb0.size)
   have hul : w1.heap.size ≤ u := hul
   refine ⟨_, he, HKS.o v1 hb1, ?_⟩
   go_simp
   refine held_one (i := 6) (by kernel_rfl) (op_value (v := .slice (some ⟨v1.heap.size, 0, none⟩) nn nn) (w' := v1.alloc (.cells (Array.replicate nn (Value.slice none 0 0)) 23)) rfl (by kernel_rfl) (by go_simp; rw [HMK.o]; rfl) ?_)
   have hbq2 : Below v1.heap.size v1 (v1.alloc (.cells (Array.replicate nn (Value.slice none 0 0)) 23)) := bA _
   have hb2 := hb1.trans (hbq2.mono hb1.size)
   refine ⟨HKS.o _ hb2, ?_⟩
   obtain ⟨q, hq0⟩ : ∃ q, v1.heap.size = q := ⟨_, rfl⟩
   have hq : Own (v1.alloc (.cells (Array.replicate nn (Value.slice none 0 0)) 23)) q 23 (List.replicate nn (Value.slice none 0 0)) := by rw [← hq0, ← List.toArray_replicate]; exact Own.fresh v1 23 _
   have hu := hu0.under hbq2 hu0.lt
   have f1 := hu0.lt
   have f3 := hb1.size
   rw [hq0] at f1 f3
   clear hbq2 hbq hu0
   generalize v1.alloc (.cells (Array.replicate nn (Value.slice none 0 0)) 23) = v2 at *
   try rw [hq0]
   clear hq0
   go_simp
   refine tkG 7 ?_ rfl (HKS.o v2 hb2) (by rfl) ?_ ?_; rotate_left; · intro W hW; go_simp; try with_reducible rfl
   go_simp
   have hbx : Below v2.heap.size v2 (v2.alloc (.cells #[.slice a.mo nms a.mc, .slice a.no nn a.nc, .slice a.ho nh a.hc, .slice a.wo nw a.wc, .int .i64 gr.st, .slice (some ⟨u, 0, none⟩) nn nn, .slice none 0 0, .slice (some ⟨q, 0, none⟩) nn nn, .bool false] 71)) := bA _
   have hbz := hb2.trans (hbx.mono hb2.size)
   refine held_one (i := 8) (by kernel_rfl) (op_value (v := .pointer (some ⟨v2.heap.size, 0, none⟩)) (w' := v2.alloc (.cells #[.slice a.mo nms a.mc, .slice a.no nn a.nc, .slice a.ho nh a.hc, .slice a.wo nw a.wc, .int .i64 gr.st, .slice (some ⟨u, 0, none⟩) nn nn, .slice none 0 0, .slice (some ⟨q, 0, none⟩) nn nn, .bool false] 71)) rfl (by kernel_rfl) (by go_simp; try rfl) ?_)
   refine ⟨HKS.o _ hbz, ?_⟩
   go_simp
   refine tkG 9 ?_ rfl (HKS.o _ hbz) (by rfl) ?_ ?_; rotate_left; · intro W hW; go_simp; try with_reducible rfl
   go_simp
   refine wpAnyH_done (by kernel_rfl) ?_ _
   go_simp
   try go_wp2
   go_meet
   have hw1 := HW1.o
   exact ⟨u, q, v2.heap.size, rfl, aH (Own.fresh v2 71 [.slice a.mo nms a.mc, .slice a.no nn a.nc, .slice a.ho nh a.hc, .slice a.wo nw a.wc, .int .i64 gr.st, .slice (some ⟨u, 0, none⟩) nn nn, .slice none 0 0, .slice (some ⟨q, 0, none⟩) nn nn, .bool false]), aH (hu.under hbx hu.lt), aH (hq.under hbx hq.lt), aH ⟨by omega, by omega, by omega, hu.lt, hq.lt⟩, aH hbz⟩
  ·
   have hbq1 : Below (World.drew w1).heap.size (World.drew w1) ((World.drew w1).alloc (.cells (Array.replicate nn (Value.slice none 0 0)) 23)) := bA _
   have hb1 := hb0.trans (hbq1.mono hb0.size)
   refine ⟨HKS.o _ hb1, ?_⟩
   obtain ⟨q, hq0⟩ : ∃ q, (World.drew w1).heap.size = q := ⟨_, rfl⟩
   have hq1 : Own ((World.drew w1).alloc (.cells (Array.replicate nn (Value.slice none 0 0)) 23)) q 23 (List.replicate nn (Value.slice none 0 0)) := by rw [← hq0, ← List.toArray_replicate]; exact Own.fresh (World.drew w1) 23 _
   have f3 : w1.heap.size ≤ q := Nat.le_of_eq hq0
   have f4 : q < ((World.drew w1).alloc (.cells (Array.replicate nn (Value.slice none 0 0)) 23)).heap.size := hq1.lt
   clear hbq1
   generalize (World.drew w1).alloc (.cells (Array.replicate nn (Value.slice none 0 0)) 23) = v1 at *
   try rw [hq0]
   clear hq0
   go_simp
   refine held_one (i := 2) (by kernel_rfl) (op_call (f := 31) (vs := #[.agg #[.slice a.mo nms a.mc, .slice a.no nn a.nc, .slice a.ho nh a.hc, .slice a.wo nw a.wc, .int .i64 gr.st]]) rfl (by kernel_rfl) (by go_simp) ((HNU.o v1 (HG1.o.below hb1 |>.mono fun _ _ _ => trivial)).mono ?_))
   rintro e v2 ⟨u, he, hu, hul, hbq⟩
   have hb2 := hb1.trans (hbq.mono hb1.size)
   have hq := hq1.under hbq hq1.lt
   have f5 := hb1.size
   refine ⟨_, he, HKS.o v2 hb2, ?_⟩
   clear hbq hq1
   go_simp
   refine tkG 7 ?_ rfl (HKS.o v2 hb2) (by rfl) ?_ ?_; rotate_left; · intro W hW; go_simp; try with_reducible rfl
   go_simp
   have hbx : Below v2.heap.size v2 (v2.alloc (.cells #[.slice a.mo nms a.mc, .slice a.no nn a.nc, .slice a.ho nh a.hc, .slice a.wo nw a.wc, .int .i64 gr.st, .slice (some ⟨u, 0, none⟩) nn nn, .slice none 0 0, .slice (some ⟨q, 0, none⟩) nn nn, .bool false] 71)) := bA _
   have hbz := hb2.trans (hbx.mono hb2.size)
   refine held_one (i := 8) (by kernel_rfl) (op_value (v := .pointer (some ⟨v2.heap.size, 0, none⟩)) (w' := v2.alloc (.cells #[.slice a.mo nms a.mc, .slice a.no nn a.nc, .slice a.ho nh a.hc, .slice a.wo nw a.wc, .int .i64 gr.st, .slice (some ⟨u, 0, none⟩) nn nn, .slice none 0 0, .slice (some ⟨q, 0, none⟩) nn nn, .bool false] 71)) rfl (by kernel_rfl) (by go_simp; try rfl) ?_)
   refine ⟨HKS.o _ hbz, ?_⟩
   go_simp
   refine tkG 9 ?_ rfl (HKS.o _ hbz) (by rfl) ?_ ?_; rotate_left; · intro W hW; go_simp; try with_reducible rfl
   go_simp
   refine wpAnyH_done (by kernel_rfl) ?_ _
   go_simp
   try go_wp2
   go_meet
   have hw1 := HW1.o
   exact ⟨u, q, v2.heap.size, rfl, aH (Own.fresh v2 71 [.slice a.mo nms a.mc, .slice a.no nn a.nc, .slice a.ho nh a.hc, .slice a.wo nw a.wc, .int .i64 gr.st, .slice (some ⟨u, 0, none⟩) nn nn, .slice none 0 0, .slice (some ⟨q, 0, none⟩) nn nn, .bool false]), aH (hu.under hbx hu.lt), aH (hq.under hbx hq.lt), aH ⟨by omega, by omega, by omega, hu.lt, hq.lt⟩, aH hbz⟩
 case rest =>
  obtain ⟨u, q, p, rfl, HP, HU, HQ, HLY, HB⟩ := hcut
  clear g0 g1 g2 g3 g4 gl
  have HB2 := aH (HB1.o.trans (HB.o.mono HB1.o.size))
  have HGC := aH (HG1.o.below HB.o)
  have HOC := aH (HO1.o.under HB.o HO1.o.lt)
  obtain ⟨C, hC⟩ : ∃ C, wc.heap.size = C := ⟨_, rfl⟩
  have HCE := aH hC
  have HPC := aH (show p < C from by rw [← hC]; exact HP.o.lt)
  have HLD0 := aH (LdW.nil wc C (leadG gr))
  have HBB := aH (But.refl (fun g => g = p) wc)
  have HBL := aH (show B < B + 1 ∧ B < C from by have := HOC.o.lt; omega)
  clear hC
  have g1 : wc.cell? ⟨B, 1, none⟩ = some (.slice a.no nn a.nc) := HOC.o.cell 1
  have gl := HOC.o.lt
  go_wp2_with fail
  clear g1 gl
  go_loopw [18] (fun v18 wr => ∃ (k : Nat) (vl : Value), v18 = .int .i64 (k : Int) ∧ (k : Int) ≤ nn ∧ aQ (Own wr p 71 [.slice a.mo nms a.mc, .slice a.no nn a.nc, .slice a.ho nh a.hc, .slice a.wo nw a.wc, .int .i64 gr.st, .slice (some ⟨u, 0, none⟩) nn nn, vl, .slice (some ⟨q, 0, none⟩) nn nn, .bool false]) ∧ aQ (LdW wr C (leadG gr) vl k) ∧ aQ (But (fun g => g = p) wc wr)) (fun v18 _ => nn - (intOf v18).toNat)
  case atStart => exact ⟨0, .slice none 0 0, rfl, by omega, HP, HLD0, HBB⟩
  case round =>
   obtain ⟨k, vl, rfl, hk, HPk, HLk, HBk⟩ := hrel
   by_cases hkn : (k : Int) < nn
   ·
    have hk1 : decide ((k : Int) < (nn : Int)) = true := aT hkn
    have hk2 : decide (k < nn) = true := aT (by omega)
    have hw1 : IntKind.i64.wrap ((k : Int) + 1) = (k : Int) + 1 := wI
    obtain ⟨V, S, hW, hS2, hS3⟩ := HLk.o
    have HWk := aH hW
    have HS2 := aH hS2
    have HS3 := aH hS3
    have hOB := HOC.o.but HBk.o (by have := HLY.o; have := HBL.o; show ¬ B = p; omega)
    have HKS := aH (show p < wr.heap.size ∧ wr.cell? ⟨p, 6, none⟩ = some vl ∧ B < wr.heap.size ∧ wr.cell? ⟨B, 0, none⟩ = some (.slice a.mo nms a.mc) ∧ wr.cell? ⟨B, 1, none⟩ = some (.slice a.no nn a.nc) ∧ wr.cell? ⟨B, 2, none⟩ = some (.slice a.ho nh a.hc) ∧ wr.cell? ⟨B, 3, none⟩ = some (.slice a.wo nw a.wc) ∧ wr.cell? ⟨B, 4, none⟩ = some (.int .i64 gr.st) from ⟨HPk.o.lt, HPk.o.cell 6, hOB.lt, hOB.cell 0, hOB.cell 1, hOB.cell 2, hOB.cell 3, hOB.cell 4⟩)
    have HGk := aH ((HGC.o.but HBk.o (fun j _ hj e => by have := HBE.o; have := HLY.o; have e : j = p := e; omega)).mono (T := fun _ => True) fun _ _ _ => trivial)
    have HCL := aH (HLE.o (k : Int) (World.drew wr) (HGk.o.below (Below.refl wr.heap.size wr).drew))
    obtain ⟨i0, ii, hz0, hz1, hz2⟩ := info_parts info_ints
    have HCW := aH (show C ≤ wr.heap.size from by have := HBk.o.size; have := HCE.o; omega)
    clear hW hS2 hS3 hOB
    go_upto_region 5 with fail
    refine wp_region_heldTz (fun Wx => p < Wx.heap.size ∧ Wx.cell? ⟨p, 6, none⟩ = some vl ∧ B < Wx.heap.size ∧ Wx.cell? ⟨B, 0, none⟩ = some (.slice a.mo nms a.mc) ∧ Wx.cell? ⟨B, 1, none⟩ = some (.slice a.no nn a.nc) ∧ Wx.cell? ⟨B, 2, none⟩ = some (.slice a.ho nh a.hc) ∧ Wx.cell? ⟨B, 3, none⟩ = some (.slice a.wo nw a.wc) ∧ Wx.cell? ⟨B, 4, none⟩ = some (.int .i64 gr.st)) 12 (by kernel_rfl) ?_
    have HSS := aH (show p < (World.drew wr).heap.size ∧ (World.drew wr).cell? ⟨p, 6, none⟩ = some vl ∧ B < (World.drew wr).heap.size ∧ (World.drew wr).cell? ⟨B, 0, none⟩ = some (.slice a.mo nms a.mc) ∧ (World.drew wr).cell? ⟨B, 1, none⟩ = some (.slice a.no nn a.nc) ∧ (World.drew wr).cell? ⟨B, 2, none⟩ = some (.slice a.ho nh a.hc) ∧ (World.drew wr).cell? ⟨B, 3, none⟩ = some (.slice a.wo nw a.wc) ∧ (World.drew wr).cell? ⟨B, 4, none⟩ = some (.int .i64 gr.st) from HKS.o)
    refine heldTz.pure 0 rfl (v := ?_) (Or.inl ⟨by rfl, ?_⟩) HSS.o ?_; rotate_left; · intro W _; go_simp; try with_reducible rfl
    go_simp
    refine heldTz.pure 1 rfl (v := ?_) (Or.inl ⟨by rfl, ?_⟩) HSS.o ?_; rotate_left; · intro W _; go_simp; try with_reducible rfl
    go_simp
    refine heldTz.pure 2 rfl (v := ?_) (Or.inl ⟨by rfl, ?_⟩) HSS.o ?_; rotate_left; · intro W _; go_simp; try with_reducible rfl
    go_simp
    refine heldTz.pure 3 rfl (v := ?_) (Or.inl ⟨by rfl, ?_⟩) HSS.o ?_; rotate_left; · intro W _; go_simp; try with_reducible rfl
    go_simp
    refine heldTz.takeD 4 [9, 12] rfl (v := ?_) (Or.inl ⟨by rfl, ?_⟩) HSS.o ?_; rotate_left; · rintro W ⟨a0, a1, a2, a3, a4, a5, a6, a7⟩; go_simp; try with_reducible rfl
    go_simp
    refine heldTz.takeD 5 [7, 8, 9, 12] rfl (v := ?_) (Or.inl ⟨by rfl, ?_⟩) HSS.o ?_; rotate_left; · rintro W ⟨a0, a1, a2, a3, a4, a5, a6, a7⟩; go_simp; try with_reducible rfl
    go_simp
    refine heldTz.pure 6 rfl (v := ?_) (Or.inl ⟨by rfl, ?_⟩) HSS.o ?_; rotate_left; · intro W _; go_simp; try with_reducible rfl
    go_simp
    refine heldTz.one (i := 7) (by kernel_rfl) (op_call (f := 11) (vs := #[.agg #[.slice a.mo nms a.mc, .slice a.no nn a.nc, .slice a.ho nh a.hc, .slice a.wo nw a.wc, .int .i64 gr.st], .int .i64 (k : Int)]) rfl (by kernel_rfl) (by go_simp) (HCL.o.mono ?_))
    rintro e wA ⟨vA, he, hI, hbA⟩
    have hbA : Below wr.heap.size wr wA := ((Below.refl wr.heap.size wr).drew).trans hbA
    have hI : IntsAt wA wr.heap.size vA (leadG gr k) := by rw [← leadI_eq (show k < gr.ns.length from by have := HLN.o; omega)]; exact hI
    obtain ⟨vo, vn, vc, hvA⟩ : ∃ ao n c, vA = .slice ao n c := by obtain ⟨x1, x2, x3, -⟩ := hI; exact ⟨x1, _, x2, x3⟩
    have hoff : OffS S vA := fun g off n c e hn hs => by have := (hI.blk e hn).1; have := (HS2.o g hs).2; omega
    have K := HKS.o
    refine ⟨_, he, .inr (.inr ⟨aL K.1 hbA.size, keepc K.2.1 hbA, aL K.2.2.1 hbA.size, keepc K.2.2.2.1 hbA, keepc K.2.2.2.2.1 hbA, keepc K.2.2.2.2.2.1 hbA, keepc K.2.2.2.2.2.2.1 hbA, keepc K.2.2.2.2.2.2.2 hbA⟩), ?_⟩
    go_simp
    have hbx : Below wA.heap.size wA (wA.alloc (.cells #[vA] 23)) := bA _
    have hbB := hbA.trans (hbx.mono hbA.size)
    have hOG := Own.fresh wA 23 [vA]
    have hI2 := hI.below hbx
    have HFR := aH (show wr.heap.size ≤ wA.heap.size from hbA.size)
    refine heldTz.one (i := 8) (by kernel_rfl) (op_value (v := .slice (some ⟨wA.heap.size, 0, none⟩) 1 1) (w' := wA.alloc (.cells #[vA] 23)) rfl (by kernel_rfl) (by go_simp; try rfl) ?_)
    refine ⟨.inr (.inr ⟨aL K.1 hbB.size, keepc K.2.1 hbB, aL K.2.2.1 hbB.size, keepc K.2.2.2.1 hbB, keepc K.2.2.2.2.1 hbB, keepc K.2.2.2.2.2.1 hbB, keepc K.2.2.2.2.2.2.1 hbB, keepc K.2.2.2.2.2.2.2 hbB⟩), ?_⟩
    generalize wA.alloc (.cells #[vA] 23) = wB at *
    generalize wA.heap.size = G at *
    go_simp
    refine heldTz.one (i := 9) (by kernel_rfl) (op_appendn rfl (by kernel_rfl) _ _ 44 44 rfl S 23 i0 _ 1 24 Try.underlying44 ii hz0 hz1 hz2 rfl (by decide) vl k ((List.range k).map V) rfl (HWk.o.below hbB) (.slice (some ⟨G, 0, none⟩) 1 1) 1 [vA] rfl (Src.oneV hOG (by rw [hvA]; rfl)) (by unfold maxLen; omega) (by omega) ?_)
    intro v2 w2 hw2 hb2
    have hpS : ∀ {g : Nat}, g < C → ¬ S g := fun h hs => by have := (HS2.o _ hs).1; omega
    have hPp : Own w2 p 71 [.slice a.mo nms a.mc, .slice a.no nn a.nc, .slice a.ho nh a.hc, .slice a.wo nw a.wc, .int .i64 gr.st, .slice (some ⟨u, 0, none⟩) nn nn, vl, .slice (some ⟨q, 0, none⟩) nn nn, .bool false] := (HPk.o.under hbB HPk.o.lt).but hb2 (hpS HPC.o)
    have hLm : LdW w2 C (leadG gr) v2 (k + 1) := LdW.more (w := wB) (V := V) (S := S) (Nat.le_trans HCW.o hbB.size) (fun g hg => ⟨(HS2.o g hg).1, aL (HS2.o g hg).2 hbB.size⟩) (fun j hj => ⟨(HS3.o j hj).1.below hbB, (HS3.o j hj).2⟩) (hI2.mono HCW.o) hoff hw2 hb2
    have hBt : But (fun g => g = p) wc w2 := (HBk.o.then_below hbB).trans hb2 (fun g hg hs => by have := (HS2.o g hs).1; have := HCE.o; omega)
    have HPw := aH hPp
    have HLw := aH hLm
    have HBw := aH hBt
    obtain ⟨ao2, cap2, hv2, -⟩ := hw2.form
    subst hv2
    have hcl : ∀ {ad : Addr} {v : Value}, ad.block < C → wr.cell? ad = some v → w2.cell? ad = some v := fun h hc => hb2.cell (hpS h) (keepc hc hbB)
    refine ⟨.inr (.inr ⟨HPw.o.lt, HPw.o.cell 6, aL (aL K.2.2.1 hbB.size) hb2.size, hcl HBL.o.2 K.2.2.2.1, hcl HBL.o.2 K.2.2.2.2.1, hcl HBL.o.2 K.2.2.2.2.2.1, hcl HBL.o.2 K.2.2.2.2.2.2.1, hcl HBL.o.2 K.2.2.2.2.2.2.2⟩), ?_⟩
    have pf : w2.frozen? ⟨p, 6, none⟩ = false := HPw.o.thaw 6
    have p6 : w2.cell? ⟨p, 6, none⟩ = some vl := HPw.o.cell 6
    have pl := HPw.o.lt
    have HSZ := aH (show p < w2.heap.size ∧ w2.cell? ⟨p, 6, none⟩ = some vl ∧ B < w2.heap.size ∧ w2.cell? ⟨B, 0, none⟩ = some (.slice a.mo nms a.mc) ∧ w2.cell? ⟨B, 1, none⟩ = some (.slice a.no nn a.nc) ∧ w2.cell? ⟨B, 2, none⟩ = some (.slice a.ho nh a.hc) ∧ w2.cell? ⟨B, 3, none⟩ = some (.slice a.wo nw a.wc) ∧ w2.cell? ⟨B, 4, none⟩ = some (.int .i64 gr.st) from ⟨pl, p6, aL (aL K.2.2.1 hbB.size) hb2.size, hcl HBL.o.2 K.2.2.2.1, hcl HBL.o.2 K.2.2.2.2.1, hcl HBL.o.2 K.2.2.2.2.2.1, hcl HBL.o.2 K.2.2.2.2.2.2.1, hcl HBL.o.2 K.2.2.2.2.2.2.2⟩)
    clear K hPp hLm hBt hb2 hw2 hcl hpS hbB hOG hI2 hbx hoff hI hbA HSS ii hz0 hz1 hz2
    go_simp
    refine heldTz.one (i := 10) (by kernel_rfl) (op_value (v := .pointer (some ⟨p, 0, none⟩)) (w' := w2) rfl (by kernel_rfl) (by go_simp; try rfl) ?_)
    refine ⟨.inr (.inr HSZ.o), ?_⟩
    go_simp
    refine heldTz.one (i := 11) (by kernel_rfl) (op_value (v := .pointer (some ⟨p, 6, none⟩)) (w' := w2) rfl (by kernel_rfl) (by go_simp; try rfl) ?_)
    refine ⟨.inr (.inr HSZ.o), ?_⟩
    go_simp
    refine heldTz.one (i := 12) (by kernel_rfl) (op_store (w' := w2.setCell ⟨p, 6, none⟩ (.slice ao2 (k + 1) cap2)) rfl (by kernel_rfl) 44 (.tmp 32) (.tmp 30) rfl _ _ rfl rfl (by go_simp; try rfl) ⟨.inl rfl, ?_⟩)
    refine heldTz.done (by kernel_rfl) ?_ _
    have HP9 := aH (HPw.o.put 6 (.slice ao2 (k + 1) cap2))
    have HL9 := aH (HLw.o.but (But.put w2 p 6 (.slice ao2 (k + 1) cap2)) HPC.o)
    have HB9 := aH (HBw.o.trans (But.put w2 p 6 (.slice ao2 (k + 1) cap2)) (fun g _ h => h))
    generalize w2.setCell ⟨p, 6, none⟩ (.slice ao2 (k + 1) cap2) = w9 at *
    clear p6 pf pl
    go_simp
    try go_wp2
    go_roundw
    case rel => exact ⟨k + 1, _, by go_num, by omega, HP9, HL9, HB9⟩
    case measure => simp [intOf]; omega
   ·
    have hk1 : decide ((k : Int) < (nn : Int)) = false := aF hkn
    have hk2 : decide (k < nn) = false := aF (by omega)
    obtain rfl : nn = k := by omega
    obtain ⟨lo, lc, hvl⟩ : ∃ lo lc, vl = .slice lo nn lc := by
     obtain ⟨V, S, h1, -⟩ := HLk.o
     obtain ⟨ao, cap, e, -⟩ := h1.form
     exact ⟨ao, cap, e⟩
    subst hvl
    have hbp : But (fun g => g = p) wr (wr.setCell ⟨p, 8, none⟩ (.bool true)) := But.put wr p 8 _
    have hbc := HBk.o.trans hbp (fun g _ h => h)
    have hpB : p ≠ B := by have := HLY.o; have := HBL.o; omega
    have HS5 := aH (show Sh (wr.setCell ⟨p, 8, none⟩ (.bool true)) B p u q C lo lc gr a (leadG gr) (fun _ => [], true) from by
     have hly := HLY.o
     have hpc := HPC.o
     have hce := HCE.o
     refine ⟨by omega, by omega, by omega, by omega, by omega, hpc, by omega, ?_, ?_, ⟨fun _ => .slice none 0 0, ?_, fun j _ => IntsAt.nil _ _⟩, ?_, ?_, fun j => ⟨trivial, fun x hx => (by cases hx)⟩, by have := hbc.size; omega⟩
     ·
      have h := HPk.o.put 8 (.bool true)
      rw [HLN.o]
      have e : ([.slice a.mo gr.ms.length a.mc, .slice a.no gr.ns.length a.nc, .slice a.ho gr.hs.length a.hc, .slice a.wo gr.ws.length a.wc, .int .i64 gr.st] : List Value) = [.slice a.mo nms a.mc, .slice a.no nn a.nc, .slice a.ho nh a.hc, .slice a.wo nw a.wc, .int .i64 gr.st] := HRW.o
      injection e with e0 e
      injection e with e1 e
      injection e with e2 e
      injection e with e3 e
      rw [e0, e2, e3]
      exact h
     ·
      rw [HLN.o]
      exact HU.o.but hbc (by show ¬ u = p; omega)
     ·
      rw [HLN.o, List.map_const', List.length_range]
      exact HQ.o.but hbc (by show ¬ q = p; omega)
     ·
      rw [HLN.o]
      exact (HLk.o.but hbp hpc).at_
     ·
      have h := HGC.o.but hbc (fun j _ hj e => by have := HBE.o; have e : j = p := e; omega)
      rw [HBE.o] at h
      exact h)
    have HO5 := aH (HOC.o.but hbc (fun e => hpB e.symm))
    have HZ5 := aH (HB2.o.trans (hbc.below (B := w1.heap.size) HB.o.size (fun j e => by have := HLY.o; have := HW1.o; have e : j = p := e; omega) |>.mono HB1.o.size))
    have pf : wr.frozen? ⟨p, 8, none⟩ = false := HPk.o.thaw 8
    have p8 : wr.cell? ⟨p, 8, none⟩ = some (.bool false) := HPk.o.cell 8
    have pl := HPk.o.lt
    go_upto_region 8 with fail
    generalize wr.setCell ⟨p, 8, none⟩ (.bool true) = w5 at *
    clear hbp hbc hpB pf p8 pl HPk HLk HBk
    obtain ⟨A, hA⟩ : ∃ A, actG gr (nulG gr) = A := ⟨_, rfl⟩
    rw [hA] at HR0 HTL
    have HI0 := aH (inv0N (Rn gr) (leadG gr) A nn)
    have HPL := aH (fun (s : Nx × Bool) (h : InvN (Rn gr) (leadG gr) A nn s.1) => show InvN (Rn gr) (leadG gr) A nn (passN (leadG gr) A nn 0 s).1 ∧ (s.2 = false → (passN (leadG gr) A nn 0 s).2 = true → lackN nn (passN (leadG gr) A nn 0 s).1 nn < lackN nn s.1 nn) from
     ⟨passN_inv (fun j => (lead_rn HGD.o HAR.o j).2) nn 0 s (by omega) h, (passN_lack (fun x h => by rw [← HLN.o]; exact h.rng) (fun j => (lead_rn HGD.o HAR.o j).2) (fun n hn a ha => by rw [← hA] at ha; rw [← HLN.o]; exact actG_lt HGD.o _ n (by rw [HLN.o]; exact hn) a ha) nn 0 s (by omega) h).2⟩)
    clear hA
    go_loopg [5] (nn * nn + 1) (fun f v5 wr => ∃ (T : Nx) (z : Bool), aQ (RES = if z = true then leastN (leadG gr) A nn f T else T) ∧ aQ (z = true → lackN nn T nn < f) ∧ aQ (InvN (Rn gr) (leadG gr) A nn T) ∧ aQ (Sh wr B p u q C lo lc gr a (leadG gr) (T, z)) ∧ aQ (Own wr B 27 [.slice a.mo nms a.mc, .slice a.no nn a.nc, .slice a.ho nh a.hc, .slice a.wo nw a.wc, .int .i64 gr.st]) ∧ aQ (Below w.heap.size w wr))
    case atStart => exact ⟨fun _ => [], true, aH (by rw [if_pos rfl]; exact HR0.o.symm), aH (fun _ => by have := lackN_le nn (fun _ => []) nn; omega), HI0, HS5, HO5, HZ5⟩
    case round =>
     obtain ⟨T, z, HS, HLK, HI, HSh, HO, HZ⟩ := hrel
     have p8 : wr.cell? ⟨p, 8, none⟩ = some (.bool z) := HSh.o.own.cell 8
     have p7 : wr.cell? ⟨p, 7, none⟩ = some (.slice (some ⟨q, 0, none⟩) nn nn) := by rw [← HLN.o]; exact HSh.o.own.cell 7
     have pl := HSh.o.own.lt
     cases z with
     | false =>
      have HE := aH (show RES = T from by rw [HS.o, if_neg (by decide)])
      go_wp2
      go_ret
      obtain ⟨V, hV1, hV2⟩ := HSh.o.nx
      refine ⟨q, rfl, ⟨V, by rw [← HLN.o]; exact hV1, fun k hk => by rw [HE.o]; exact (hV2 k (by rw [HLN.o]; exact hk)).mono (by have := HBE.o; have := HBL.o; omega)⟩, by have := HLY.o; have := HBE.o; omega, HZ.o⟩
     | true =>
      obtain ⟨f, rfl⟩ : ∃ f, gk = f + 1 := ⟨gk - 1, by have := HLK.o rfl; omega⟩
      have HS1 := aH (show RES = leastN (leadG gr) A nn (f + 1) T from by rw [HS.o, if_pos rfl])
      have HL1 := aH (HLK.o rfl)
      have pf : wr.frozen? ⟨p, 8, none⟩ = false := HSh.o.own.thaw 8
      have hbp : But (fun g => g = p) wr (wr.setCell ⟨p, 8, none⟩ (.bool false)) := But.put wr p 8 _
      have HSf := aH (HSh.o.flag false)
      have HOf := aH (HO.o.but hbp (by have := HLY.o; have := HBL.o; show ¬ B = p; omega))
      have HZf := aH (HZ.o.trans (hbp.below (B := w.heap.size) HZ.o.size (fun j e => by have := HLY.o; have := HBE.o; have e : j = p := e; omega)))
      go_upto_region 10 with fail
      generalize wr.setCell ⟨p, 8, none⟩ (.bool false) = w6 at *
      clear hbp pf p8 p7 pl HS5 HO5 HZ5 HS HLK HSh HO HZ
      have g1 : w6.cell? ⟨B, 1, none⟩ = some (.slice a.no nn a.nc) := HOf.o.cell 1
      have gl := HOf.o.lt
      go_wp2_with fail
      clear g1 gl
      go_loopg [5, 47] nn (fun j v5 v47 wx => ∃ (k : Nat) (t : Nx × Bool), v47 = .int .i64 (k : Int) ∧ k + j = nn ∧ aQ (passN (leadG gr) A nn 0 (T, false) = passN (leadG gr) A (nn - k) k t) ∧ aQ (Sh wx B p u q C lo lc gr a (leadG gr) t) ∧ aQ (Own wx B 27 [.slice a.mo nms a.mc, .slice a.no nn a.nc, .slice a.ho nh a.hc, .slice a.wo nw a.wc, .int .i64 gr.st]) ∧ aQ (Below w.heap.size w wx))
      case atStart => exact ⟨0, (T, false), rfl, by omega, aH rfl, HSf, HOf, HZf⟩
      case round =>
       obtain ⟨k, t, rfl, hkj, HP, HSx, HOx, HZx⟩ := hrel
       by_cases hk : k < nn
       ·
        obtain ⟨j, rfl⟩ : ∃ j, gk = j + 1 := ⟨gk - 1, by omega⟩
        have hk1 : decide ((k : Int) < (nn : Int)) = true := aT (by omega)
        have hk2 : decide (k < nn) = true := aT hk
        have hw1 : IntKind.i64.wrap ((k : Int) + 1) = (k : Int) + 1 := wI
        have HPN := aH (show passN (leadG gr) A nn 0 (T, false) = passN (leadG gr) A (nn - (k + 1)) (k + 1) (actsN (leadG gr) (A k) t) from by
         rw [HP.o, show nn - k = (nn - (k + 1)) + 1 by omega]
         rfl)
        have HC := aH (HTL.o B p u q C lo lc k (by rw [HLN.o]; exact hk) t wr HSx.o)
        go_wp2_with fail
        refine HC.o.mono ?_
        rintro e w7 ⟨he, hS7, hB7⟩
        subst he
        have HS7 := aH hS7
        have HO7 := aH (HOx.o.but hB7 (by have := HLY.o; have := HBL.o; rintro (e | e); have e : B = p := e; omega; have e : B = q := e; omega))
        have HZ7 := aH (HZx.o.trans (hB7.below (B := w.heap.size) HZx.o.size (fun j e => by have := HLY.o; have := HBE.o; rcases e with e | e <;> omega)))
        clear hS7 hB7
        go_wp2
        go_roundg j
        case measure => omega
        case rel => exact ⟨k + 1, _, by go_num, by omega, HPN, HS7, HO7, HZ7⟩
       ·
        have hk1 : decide ((k : Int) < (nn : Int)) = false := aF (by omega)
        have hk2 : decide (k < nn) = false := aF hk
        obtain ⟨T1, z1⟩ := t
        have HP2 := aH (show passN (leadG gr) A nn 0 (T, false) = (T1, z1) from HP.o.trans (by rw [show nn - k = 0 by omega]; rfl))
        have HSN := aH (show RES = if z1 = true then leastN (leadG gr) A nn f T1 else T1 from by
         rw [HS1.o]
         show (match passN (leadG gr) A nn 0 (T, false) with
          | (T', true) => leastN (leadG gr) A nn f T'
          | (T', false) => T') = _
         rw [HP2.o]
         cases z1 <;> rfl)
        have hpl := HPL.o (T, false) HI.o
        rw [HP2.o] at hpl
        have HIN := aH (show InvN (Rn gr) (leadG gr) A nn T1 from hpl.1)
        have HLN2 := aH (show z1 = true → lackN nn T1 nn < f from fun h => by
         have h1 : lackN nn T1 nn < lackN nn T nn := hpl.2 rfl h
         have h2 := HL1.o
         omega)
        clear hpl
        go_wp2
        go_roundg f
        case measure => omega
        case rel => exact ⟨T1, z1, HSN, HLN2, HIN, HSx, HOx, HZx⟩
 end Go.Proofs.Ytbjgojdpfehnmaa
