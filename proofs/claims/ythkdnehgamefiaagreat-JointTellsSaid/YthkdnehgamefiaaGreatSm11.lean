import Derived.Test.YthkdnehgamefiaaGreatJz
import Derived.Test.YthkdnehgamefiaaGreatHtz
namespace Go.Proofs.YthkdnehgamefiaaGreat
set_option linter.unusedVariables false
set_option maxHeartbeats 6400000
set_option maxRecDepth 1000000
open Go.RowKit Go.Sort

theorem nC.ki {w : World} {R : Nat → Prop} {ao : Option Addr} {L : List Nat} (h : nC w R ao L) : Zp w R ao (L.map fun x : Nat => (x : Int)) := fun k x hx => by
  rw [List.getElem?_map] at hx
  cases hk : L[k]? with
  | none => rw [hk] at hx; cases hx
  | some y =>
    rw [hk] at hx
    obtain rfl := Option.some.inj hx
    exact h k y hk
theorem Zp.low {w w' : World} {R : Nat → Prop} {ao : Option Addr} {L : List Int} (h : Zp w R ao L) (hb : Below w.heap.size w w') : Zp w' (fun _ => True) ao L := (h.but (S := fun _ => False) (But.of_below hb) fun _ _ _ h => h).mono fun _ _ _ => trivial
theorem nC.low {w w' : World} {R : Nat → Prop} {ao : Option Addr} {L : List Nat} (h : nC w R ao L) (hb : Below w.heap.size w w') : nC w' (fun _ => True) ao L := (h.but (S := fun _ => False) (But.of_below hb) fun _ _ _ h => h).mono fun _ _ _ => trivial
theorem ints11_any (L : List Int) (ao bo : Option Addr) (ca cb : Nat) (hn : (L.length : Int) ≤ 1000) (w : World) (hA0 : Zp w (fun _ => True) ao L) (hC0 : Zp w (fun _ => True) bo L) :
    Calls Tryz.prog 29 #[.slice ao L.length ca, .slice bo L.length cb] w fun e w' => e = .returned (.bool true) ∧ Below w.heap.size w w' := by
  have HA := Lib.hid hA0
  have HC := Lib.hid hC0
  obtain ⟨n, hnn⟩ : ∃ n, L.length = n := ⟨_, rfl⟩
  have HG := Lib.hid (fun k (hk : k < n) => (show ∃ x, L[k]? = some x from ⟨_, List.getElem?_eq_getElem (by omega)⟩))
  rw [hnn] at hn ⊢
  clear hnn hA0 hC0
  go_enter Tryz.func29, Tryz.ntmps29
  go_wp2_with fail
  go_loopw [4, 5] (fun b4 b5 wr => ∃ k m : Nat, b4 = .bool false ∧ b5 = .int .i64 (k : Int) ∧ (k : Int) ≤ n ∧ wr = w.drewN m)
    (fun _ b5 _ => n - (intOf b5).toNat)
  case atStart => exact ⟨0, 0, rfl, rfl, by omega, rfl⟩
  case round =>
    obtain ⟨k, m, rfl, rfl, hk2, rfl⟩ := hrel
    have hw1 : IntKind.i64.wrap ((k : Int) + 1) = (k : Int) + 1 := by rw [IntKind.wrap_i64]; omega
    by_cases h1 : (k : Int) < n
    · obtain ⟨x, hx⟩ := HG.out k (by omega)
      obtain ⟨g, off, rfl, hg1, _, c1⟩ := HA.out k x hx
      obtain ⟨g', off', rfl, hg2, _, c2⟩ := HC.out k x hx
      clear HA HC hx
      go_wp2_with fail
      go_quiet (fail)
      go_wp2
      go_roundw
      case rel => exact ⟨k + 1, m + nq, rfl, by go_num, by omega, rfl⟩
      case measure => simp [intOf]; omega
    · clear HA HC
      go_wp2
      go_ret
      exact ⟨rfl, below_drewN (Below.refl _ _) m⟩
@[go_sem 3000] theorem eqset_same (a b c d : Int) (w : World) : (Op.equalIn 10000 29 (.agg #[.int .u64 a, .int .u64 b, .int .u64 c, .int .u64 d]) (.agg #[.int .u64 a, .int .u64 b, .int .u64 c, .int .u64 d])).run Tryz.prog w = .ok true w := by
  rw [eq4]; simp

theorem node11_any (n : Nj) (ka kb : Option Addr) (ca cb : Nat) (hl : (n.ks.length : Int) ≤ 1000) (w : World) (hA : nC w (fun _ => True) ka n.ks) (hB : nC w (fun _ => True) kb n.ks) :
    Calls Tryz.prog 30 #[.agg #[.int .i64 n.op, .string n.tx, .int .u64 n.s0, .int .u64 n.s1, .int .u64 n.s2, .int .u64 n.s3, .slice ka n.ks.length ca, .int .i64 n.tg, .int .i64 (n.mo : Int), .int .i64 n.ru], .agg #[.int .i64 n.op, .string n.tx, .int .u64 n.s0, .int .u64 n.s1, .int .u64 n.s2, .int .u64 n.s3, .slice kb n.ks.length cb, .int .i64 n.tg, .int .i64 (n.mo : Int), .int .i64 n.ru]] w fun e w' => e = .returned (.bool true) ∧ Below w.heap.size w w' := by
  have HI := Lib.hid (fun W (hb : Below w.heap.size w W) => ints11_any (n.ks.map fun x : Nat => (x : Int)) ka kb ca cb (by rw [List.length_map]; exact hl) W (hA.low hb).ki (hB.low hb).ki)
  obtain ⟨nk, hnk⟩ : ∃ z, n.ks.length = z := ⟨_, rfl⟩
  rw [List.length_map, hnk] at HI
  rw [hnk]
  clear hA hB hnk hl
  go_enter Tryz.func30, Tryz.ntmps30
  have hbl : Below w.heap.size w ((w.alloc (.cells #[.int .i64 n.op, .string n.tx, .int .u64 n.s0, .int .u64 n.s1, .int .u64 n.s2, .int .u64 n.s3, .slice ka nk ca, .int .i64 n.tg, .int .i64 (n.mo : Int), .int .i64 n.ru] 62)).alloc (.cells #[.int .i64 n.op, .string n.tx, .int .u64 n.s0, .int .u64 n.s1, .int .u64 n.s2, .int .u64 n.s3, .slice kb nk cb, .int .i64 n.tg, .int .i64 (n.mo : Int), .int .i64 n.ru] 62)) := ((Below.refl _ _).alloc (Nat.le_refl _) _).alloc (by simp) _
  have HOA := Lib.hid ((Own.fresh w 62 [.int .i64 n.op, .string n.tx, .int .u64 n.s0, .int .u64 n.s1, .int .u64 n.s2, .int .u64 n.s3, .slice ka nk ca, .int .i64 n.tg, .int .i64 (n.mo : Int), .int .i64 n.ru]).on_alloc (.cells #[.int .i64 n.op, .string n.tx, .int .u64 n.s0, .int .u64 n.s1, .int .u64 n.s2, .int .u64 n.s3, .slice kb nk cb, .int .i64 n.tg, .int .i64 (n.mo : Int), .int .i64 n.ru] 62))
  have hof := Own.fresh (w.alloc (.cells #[.int .i64 n.op, .string n.tx, .int .u64 n.s0, .int .u64 n.s1, .int .u64 n.s2, .int .u64 n.s3, .slice ka nk ca, .int .i64 n.tg, .int .i64 (n.mo : Int), .int .i64 n.ru] 62)) 62 [.int .i64 n.op, .string n.tx, .int .u64 n.s0, .int .u64 n.s1, .int .u64 n.s2, .int .u64 n.s3, .slice kb nk cb, .int .i64 n.tg, .int .i64 (n.mo : Int), .int .i64 n.ru]
  have hsz : (w.alloc (.cells #[.int .i64 n.op, .string n.tx, .int .u64 n.s0, .int .u64 n.s1, .int .u64 n.s2, .int .u64 n.s3, .slice ka nk ca, .int .i64 n.tg, .int .i64 (n.mo : Int), .int .i64 n.ru] 62)).heap.size = w.heap.size + 1 := by simp
  rw [hsz] at hof
  have HOB := Lib.hid hof
  clear hof hsz
  go_upto_region 1 with fail
  have e9 : (w.alloc (.cells #[.int .i64 n.op, .string n.tx, .int .u64 n.s0, .int .u64 n.s1, .int .u64 n.s2, .int .u64 n.s3, .slice ka nk ca, .int .i64 n.tg, .int .i64 (n.mo : Int), .int .i64 n.ru] 62)).heap.size = w.heap.size + 1 := by simp
  try rw [e9]
  clear e9
  generalize World.alloc (World.alloc w _) _ = w1 at *
  obtain ⟨X, hX⟩ : ∃ X, w.heap.size = X := ⟨_, rfl⟩
  have HXX := Lib.hid hX
  rw [hX] at HOA HOB
  try rw [hX]
  clear hX
  have HB1 := Lib.hid hbl
  clear hbl
  have xa : w1.cell? ⟨X, 0, none⟩ = some (.int .i64 n.op) := HOA.out.cell 0
  have xb : w1.cell? ⟨X, 1, none⟩ = some (.string n.tx) := HOA.out.cell 1
  have xc : w1.cell? ⟨X, 2, none⟩ = some (.int .u64 n.s0) := HOA.out.cell 2
  have xd : w1.cell? ⟨X, 3, none⟩ = some (.int .u64 n.s1) := HOA.out.cell 3
  have xe : w1.cell? ⟨X, 4, none⟩ = some (.int .u64 n.s2) := HOA.out.cell 4
  have xf : w1.cell? ⟨X, 5, none⟩ = some (.int .u64 n.s3) := HOA.out.cell 5
  have xg : w1.cell? ⟨X, 6, none⟩ = some (.slice ka nk ca) := HOA.out.cell 6
  have xh : w1.cell? ⟨X, 7, none⟩ = some (.int .i64 n.tg) := HOA.out.cell 7
  have xi : w1.cell? ⟨X, 8, none⟩ = some (.int .i64 (n.mo : Int)) := HOA.out.cell 8
  have xj : w1.cell? ⟨X, 9, none⟩ = some (.int .i64 n.ru) := HOA.out.cell 9
  have xl := HOA.out.lt
  have ya : w1.cell? ⟨X + 1, 0, none⟩ = some (.int .i64 n.op) := HOB.out.cell 0
  have yb : w1.cell? ⟨X + 1, 1, none⟩ = some (.string n.tx) := HOB.out.cell 1
  have yc : w1.cell? ⟨X + 1, 2, none⟩ = some (.int .u64 n.s0) := HOB.out.cell 2
  have yd : w1.cell? ⟨X + 1, 3, none⟩ = some (.int .u64 n.s1) := HOB.out.cell 3
  have ye : w1.cell? ⟨X + 1, 4, none⟩ = some (.int .u64 n.s2) := HOB.out.cell 4
  have yf : w1.cell? ⟨X + 1, 5, none⟩ = some (.int .u64 n.s3) := HOB.out.cell 5
  have yg : w1.cell? ⟨X + 1, 6, none⟩ = some (.slice kb nk cb) := HOB.out.cell 6
  have yh : w1.cell? ⟨X + 1, 7, none⟩ = some (.int .i64 n.tg) := HOB.out.cell 7
  have yi : w1.cell? ⟨X + 1, 8, none⟩ = some (.int .i64 (n.mo : Int)) := HOB.out.cell 8
  have yj : w1.cell? ⟨X + 1, 9, none⟩ = some (.int .i64 n.ru) := HOB.out.cell 9
  have yl := HOB.out.lt
  go_wp2_with fail
  refine (HI.out w1 HB1.out).mono ?_
  rintro e w2 ⟨rfl, hb2⟩
  have HB2 := Lib.hid (HB1.out.trans (hb2.mono HB1.out.size))
  have HOA := Lib.hid (HOA.out.under hb2 HOA.out.lt)
  have HOB := Lib.hid (HOB.out.under hb2 HOB.out.lt)
  clear hb2
  clear xa xb xc xd xe xf xg xh xi xj xl ya yb yc yd ye yf yg yh yi yj yl
  have xa : w2.cell? ⟨X, 0, none⟩ = some (.int .i64 n.op) := HOA.out.cell 0
  have xb : w2.cell? ⟨X, 1, none⟩ = some (.string n.tx) := HOA.out.cell 1
  have xc : w2.cell? ⟨X, 2, none⟩ = some (.int .u64 n.s0) := HOA.out.cell 2
  have xd : w2.cell? ⟨X, 3, none⟩ = some (.int .u64 n.s1) := HOA.out.cell 3
  have xe : w2.cell? ⟨X, 4, none⟩ = some (.int .u64 n.s2) := HOA.out.cell 4
  have xf : w2.cell? ⟨X, 5, none⟩ = some (.int .u64 n.s3) := HOA.out.cell 5
  have xg : w2.cell? ⟨X, 6, none⟩ = some (.slice ka nk ca) := HOA.out.cell 6
  have xh : w2.cell? ⟨X, 7, none⟩ = some (.int .i64 n.tg) := HOA.out.cell 7
  have xi : w2.cell? ⟨X, 8, none⟩ = some (.int .i64 (n.mo : Int)) := HOA.out.cell 8
  have xj : w2.cell? ⟨X, 9, none⟩ = some (.int .i64 n.ru) := HOA.out.cell 9
  have xl := HOA.out.lt
  have ya : w2.cell? ⟨X + 1, 0, none⟩ = some (.int .i64 n.op) := HOB.out.cell 0
  have yb : w2.cell? ⟨X + 1, 1, none⟩ = some (.string n.tx) := HOB.out.cell 1
  have yc : w2.cell? ⟨X + 1, 2, none⟩ = some (.int .u64 n.s0) := HOB.out.cell 2
  have yd : w2.cell? ⟨X + 1, 3, none⟩ = some (.int .u64 n.s1) := HOB.out.cell 3
  have ye : w2.cell? ⟨X + 1, 4, none⟩ = some (.int .u64 n.s2) := HOB.out.cell 4
  have yf : w2.cell? ⟨X + 1, 5, none⟩ = some (.int .u64 n.s3) := HOB.out.cell 5
  have yg : w2.cell? ⟨X + 1, 6, none⟩ = some (.slice kb nk cb) := HOB.out.cell 6
  have yh : w2.cell? ⟨X + 1, 7, none⟩ = some (.int .i64 n.tg) := HOB.out.cell 7
  have yi : w2.cell? ⟨X + 1, 8, none⟩ = some (.int .i64 (n.mo : Int)) := HOB.out.cell 8
  have yj : w2.cell? ⟨X + 1, 9, none⟩ = some (.int .i64 n.ru) := HOB.out.cell 9
  have yl := HOB.out.lt
  go_wp2
  go_ret
  exact ⟨rfl, HB2.out⟩
theorem same11_any (gr : Gj) (a b : Gv) (hm : (gr.ms.length : Int) ≤ 1000) (hnn : (gr.ns.length : Int) ≤ 1000) (hh : (gr.hs.length : Int) ≤ 1000) (hw : (gr.ws.length : Int) ≤ 1000) (hk : ∀ x ∈ gr.ns, (x.ks.length : Int) ≤ 1000) (w : World) (hA : dG w gr a) (hB : dG w gr b) :
    Calls Tryz.prog 10 #[grv gr a, grv gr b] w fun e w' => e = .returned (.bool true) ∧ Below w.heap.size w w' := by
  have HA := Lib.hid hA
  have HB := Lib.hid hB
  have HI := Lib.hid (fun W (hb : Below w.heap.size w W) => ints11_any gr.ws a.wo b.wo a.wc b.wc hw W (hA.2.2.1.low hb) (hB.2.2.1.low hb))
  have HK := Lib.hid hk
  unfold grv
  obtain ⟨nms, hnms⟩ : ∃ z, gr.ms.length = z := ⟨_, rfl⟩
  obtain ⟨nns, hnns⟩ : ∃ z, gr.ns.length = z := ⟨_, rfl⟩
  obtain ⟨nhs, hnhs⟩ : ∃ z, gr.hs.length = z := ⟨_, rfl⟩
  obtain ⟨nws, hnws⟩ : ∃ z, gr.ws.length = z := ⟨_, rfl⟩
  obtain ⟨st, hst⟩ : ∃ z, gr.st = z := ⟨_, rfl⟩
  have HGM := Lib.hid (fun k (hk : k < nms) => (show ∃ x, gr.ms[k]? = some x from ⟨_, List.getElem?_eq_getElem (by omega)⟩))
  have HGN := Lib.hid (fun k (hk : k < nns) => (show ∃ x, gr.ns[k]? = some x from ⟨_, List.getElem?_eq_getElem (by omega)⟩))
  have HGH := Lib.hid (fun k (hk : k < nhs) => (show ∃ x, gr.hs[k]? = some x from ⟨_, List.getElem?_eq_getElem (by omega)⟩))
  rw [hnms, hnns, hnhs, hnws, hst]
  rw [hnws] at HI hw
  rw [hnms] at hm
  rw [hnns] at hnn
  rw [hnhs] at hh
  clear hA hB hk hnms hnns hnhs hnws hst
  go_enter Tryz.func10, Tryz.ntmps10
  have hbl : Below w.heap.size w ((w.alloc (.cells #[.slice a.mo nms a.mc, .slice a.no nns a.nc, .slice a.ho nhs a.hc, .slice a.wo nws a.wc, .int .i64 st] 41)).alloc (.cells #[.slice b.mo nms b.mc, .slice b.no nns b.nc, .slice b.ho nhs b.hc, .slice b.wo nws b.wc, .int .i64 st] 41)) := ((Below.refl _ _).alloc (Nat.le_refl _) _).alloc (by simp) _
  have HOA := Lib.hid ((Own.fresh w 41 [.slice a.mo nms a.mc, .slice a.no nns a.nc, .slice a.ho nhs a.hc, .slice a.wo nws a.wc, .int .i64 st]).on_alloc (.cells #[.slice b.mo nms b.mc, .slice b.no nns b.nc, .slice b.ho nhs b.hc, .slice b.wo nws b.wc, .int .i64 st] 41))
  have hof := Own.fresh (w.alloc (.cells #[.slice a.mo nms a.mc, .slice a.no nns a.nc, .slice a.ho nhs a.hc, .slice a.wo nws a.wc, .int .i64 st] 41)) 41 [.slice b.mo nms b.mc, .slice b.no nns b.nc, .slice b.ho nhs b.hc, .slice b.wo nws b.wc, .int .i64 st]
  have hsz : (w.alloc (.cells #[.slice a.mo nms a.mc, .slice a.no nns a.nc, .slice a.ho nhs a.hc, .slice a.wo nws a.wc, .int .i64 st] 41)).heap.size = w.heap.size + 1 := by simp
  rw [hsz] at hof
  have HOB := Lib.hid hof
  clear hof hsz
  go_upto_region 1 with fail
  have e9 : (w.alloc (.cells #[.slice a.mo nms a.mc, .slice a.no nns a.nc, .slice a.ho nhs a.hc, .slice a.wo nws a.wc, .int .i64 st] 41)).heap.size = w.heap.size + 1 := by simp
  try rw [e9]
  clear e9
  generalize World.alloc (World.alloc w _) _ = w1 at *
  obtain ⟨X, hX⟩ : ∃ X, w.heap.size = X := ⟨_, rfl⟩
  have HXX := Lib.hid hX
  rw [hX] at HOA HOB
  try rw [hX]
  clear hX
  have HB1 := Lib.hid hbl
  clear hbl
  obtain ⟨x0, x1, x2, x3, x4, xl⟩ := oG HOA.out
  have y0 : w1.cell? ⟨X + 1, 0, none⟩ = some (.slice b.mo nms b.mc) := HOB.out.cell 0
  have y1 : w1.cell? ⟨X + 1, 1, none⟩ = some (.slice b.no nns b.nc) := HOB.out.cell 1
  have y2 : w1.cell? ⟨X + 1, 2, none⟩ = some (.slice b.ho nhs b.hc) := HOB.out.cell 2
  have y3 : w1.cell? ⟨X + 1, 3, none⟩ = some (.slice b.wo nws b.wc) := HOB.out.cell 3
  have y4 : w1.cell? ⟨X + 1, 4, none⟩ = some (.int .i64 st) := HOB.out.cell 4
  have yl := HOB.out.lt
  go_wp2_with fail
  refine (HI.out w1 HB1.out).mono ?_
  rintro e w2 ⟨rfl, hb2⟩
  have HB2 := Lib.hid (HB1.out.trans (hb2.mono HB1.out.size))
  have HOA := Lib.hid (HOA.out.under hb2 HOA.out.lt)
  have HOB := Lib.hid (HOB.out.under hb2 HOB.out.lt)
  clear hb2
  clear x0 x1 x2 x3 x4 xl y0 y1 y2 y3 y4 yl
  obtain ⟨x0, x1, x2, x3, x4, xl⟩ := oG HOA.out
  have y0 : w2.cell? ⟨X + 1, 0, none⟩ = some (.slice b.mo nms b.mc) := HOB.out.cell 0
  have y1 : w2.cell? ⟨X + 1, 1, none⟩ = some (.slice b.no nns b.nc) := HOB.out.cell 1
  have y2 : w2.cell? ⟨X + 1, 2, none⟩ = some (.slice b.ho nhs b.hc) := HOB.out.cell 2
  have y3 : w2.cell? ⟨X + 1, 3, none⟩ = some (.slice b.wo nws b.wc) := HOB.out.cell 3
  have y4 : w2.cell? ⟨X + 1, 4, none⟩ = some (.int .i64 st) := HOB.out.cell 4
  have yl := HOB.out.lt
  go_wp2_with fail
  go_loopw [4, 5] (fun b4 b5 wr => ∃ k : Nat, b4 = .bool false ∧ b5 = .int .i64 (k : Int) ∧ (k : Int) ≤ nms ∧ Hid (Below w2.heap.size w2 wr)) (fun _ b5 _ => nms - (intOf b5).toNat)
  case atStart => exact ⟨0, rfl, rfl, by omega, Lib.hid (Below.refl _ _)⟩
  case round =>
    obtain ⟨k, rfl, rfl, hk2, HBR⟩ := hrel
    have hw1 : IntKind.i64.wrap ((k : Int) + 1) = (k : Int) + 1 := by rw [IntKind.wrap_i64]; omega
    obtain ⟨wa, hwr⟩ : ∃ z, z = wr := ⟨_, rfl⟩
    subst hwr
    have HOA := Lib.hid (HOA.out.under HBR.out HOA.out.lt)
    have HOB := Lib.hid (HOB.out.under HBR.out HOB.out.lt)
    have HBC := Lib.hid (HB2.out.trans (HBR.out.mono HB2.out.size))
    clear x0 x1 x2 x3 x4 xl y0 y1 y2 y3 y4 yl
    obtain ⟨x0, x1, x2, x3, x4, xl⟩ := oG HOA.out
    have y0 : wa.cell? ⟨X + 1, 0, none⟩ = some (.slice b.mo nms b.mc) := HOB.out.cell 0
    have y1 : wa.cell? ⟨X + 1, 1, none⟩ = some (.slice b.no nns b.nc) := HOB.out.cell 1
    have y2 : wa.cell? ⟨X + 1, 2, none⟩ = some (.slice b.ho nhs b.hc) := HOB.out.cell 2
    have y3 : wa.cell? ⟨X + 1, 3, none⟩ = some (.slice b.wo nws b.wc) := HOB.out.cell 3
    have y4 : wa.cell? ⟨X + 1, 4, none⟩ = some (.int .i64 st) := HOB.out.cell 4
    have yl := HOB.out.lt
    by_cases h1 : (k : Int) < nms
    · obtain ⟨x, hx⟩ := HGM.out k (by omega)
      obtain ⟨g, off, ea, hg1, _, c1⟩ := (HA.out.below HBC.out).2.2.2 k x hx
      obtain ⟨g', off', eb, hg2, _, c2⟩ := (HB.out.below HBC.out).2.2.2 k x hx
      rw [ea] at x0
      rw [eb] at y0
      clear hx ea eb
      go_wp2_with fail
      go_quiet (fail)
      go_wp2
      go_roundw
      case rel => exact ⟨k + 1, rfl, by go_num, by omega, Lib.hid (below_drewN HBR.out nq)⟩
      case measure => simp [intOf]; omega
    · have h1f : decide ((k : Int) < (nms : Int)) = false := decide_eq_false h1
      have HBa := Lib.hid HBC.out
      go_wp2_with fail
      go_loopw [4, 6] (fun b4 b5 wr => ∃ k : Nat, b4 = .bool false ∧ b5 = .int .i64 (k : Int) ∧ (k : Int) ≤ nns ∧ Hid (Below wa.heap.size wa wr)) (fun _ b5 _ => nns - (intOf b5).toNat)
      case atStart => exact ⟨0, rfl, rfl, by omega, Lib.hid (Below.refl _ _)⟩
      case round =>
        obtain ⟨k, rfl, rfl, hk2, HBR⟩ := hrel
        have hw1 : IntKind.i64.wrap ((k : Int) + 1) = (k : Int) + 1 := by rw [IntKind.wrap_i64]; omega
        obtain ⟨wb, hwr⟩ : ∃ z, z = wr := ⟨_, rfl⟩
        subst hwr
        have HOA := Lib.hid (HOA.out.under HBR.out HOA.out.lt)
        have HOB := Lib.hid (HOB.out.under HBR.out HOB.out.lt)
        have HBC := Lib.hid (HBa.out.trans (HBR.out.mono HBa.out.size))
        clear x0 x1 x2 x3 x4 xl y0 y1 y2 y3 y4 yl
        obtain ⟨x0, x1, x2, x3, x4, xl⟩ := oG HOA.out
        have y0 : wb.cell? ⟨X + 1, 0, none⟩ = some (.slice b.mo nms b.mc) := HOB.out.cell 0
        have y1 : wb.cell? ⟨X + 1, 1, none⟩ = some (.slice b.no nns b.nc) := HOB.out.cell 1
        have y2 : wb.cell? ⟨X + 1, 2, none⟩ = some (.slice b.ho nhs b.hc) := HOB.out.cell 2
        have y3 : wb.cell? ⟨X + 1, 3, none⟩ = some (.slice b.wo nws b.wc) := HOB.out.cell 3
        have y4 : wb.cell? ⟨X + 1, 4, none⟩ = some (.int .i64 st) := HOB.out.cell 4
        have yl := HOB.out.lt
        by_cases h1 : (k : Int) < nns
        · obtain ⟨x, hx⟩ := HGN.out k (by omega)
          obtain ⟨g, off, ka, ca, ea, hg1, _, c0, c1, c2, c3, c4, c5, c6, c7, c8, c9, hka⟩ := (HA.out.below HBC.out).1 k x hx
          obtain ⟨g', off', kb, cb, eb, hg2, _, d0, d1, d2, d3, d4, d5, d6, d7, d8, d9, hkb⟩ := (HB.out.below HBC.out).1 k x hx
          rw [ea] at x1
          rw [eb] at y1
          have HKL := Lib.hid (HK.out x (List.mem_of_getElem? hx))
          have HND := Lib.hid (fun W (hb : Below wb.heap.size wb W) => node11_any x ka kb ca cb HKL.out W (hka.low hb) (hkb.low hb))
          clear hx ea eb hka hkb
          obtain ⟨nk, hnk⟩ : ∃ z, x.ks.length = z := ⟨_, rfl⟩
          rw [hnk] at c6 d6 HND
          clear hnk
          go_upto_region 11 with fail
          have HC := Lib.hid (And.intro hg1 ( And.intro x1 ( And.intro xl ( And.intro hg2 ( And.intro y1 ( And.intro yl ( And.intro c0 ( And.intro c1 ( And.intro c2 ( And.intro c3 ( And.intro c4 ( And.intro c5 ( And.intro c6 ( And.intro c7 ( And.intro c8 ( And.intro c9 ( And.intro d0 ( And.intro d1 ( And.intro d2 ( And.intro d3 ( And.intro d4 ( And.intro d5 ( And.intro d6 ( And.intro d7 ( And.intro d8 (d9))))))))))))))))))))))))))
          clear hg1 x1 xl hg2 y1 yl c0 c1 c2 c3 c4 c5 c6 c7 c8 c9 d0 d1 d2 d3 d4 d5 d6 d7 d8 d9 x0 x2 x3 x4 y0 y2 y3 y4
          refine bX (fun Wx => Below wb.heap.size wb Wx) 11 (by kernel_rfl) ?_
          have HS := Lib.hid (show Below wb.heap.size wb (World.drew wb) from (Below.refl _ _).drew)
          refine tC 0 rfl HS.out ?_
          go_simp
          refine aI.takeD 1 [3, 4, 10, 11] rfl (v := ?_) (Or.inl ⟨by rfl, ?_⟩) HS.out ?_; rotate_left; · intro W hW; obtain ⟨hg1, x1, xl, hg2, y1, yl, c0, c1, c2, c3, c4, c5, c6, c7, c8, c9, d0, d1, d2, d3, d4, d5, d6, d7, d8, d9⟩ := HC.out; have hg1 := Nat.lt_of_lt_of_le hg1 hW.size; have x1 := aC x1 hW; have xl := Nat.lt_of_lt_of_le xl hW.size; have hg2 := Nat.lt_of_lt_of_le hg2 hW.size; have y1 := aC y1 hW; have yl := Nat.lt_of_lt_of_le yl hW.size; have c0 := aC c0 hW; have c1 := aC c1 hW; have c2 := aC c2 hW; have c3 := aC c3 hW; have c4 := aC c4 hW; have c5 := aC c5 hW; have c6 := aC c6 hW; have c7 := aC c7 hW; have c8 := aC c8 hW; have c9 := aC c9 hW; have d0 := aC d0 hW; have d1 := aC d1 hW; have d2 := aC d2 hW; have d3 := aC d3 hW; have d4 := aC d4 hW; have d5 := aC d5 hW; have d6 := aC d6 hW; have d7 := aC d7 hW; have d8 := aC d8 hW; have d9 := aC d9 hW; go_simp; try with_reducible rfl
          go_simp
          refine tC 2 rfl HS.out ?_
          go_simp
          refine tC 3 rfl HS.out ?_
          go_simp
          refine aI.takeD 4 [10, 11] rfl (v := ?_) (Or.inl ⟨by rfl, ?_⟩) HS.out ?_; rotate_left; · intro W hW; obtain ⟨hg1, x1, xl, hg2, y1, yl, c0, c1, c2, c3, c4, c5, c6, c7, c8, c9, d0, d1, d2, d3, d4, d5, d6, d7, d8, d9⟩ := HC.out; have hg1 := Nat.lt_of_lt_of_le hg1 hW.size; have x1 := aC x1 hW; have xl := Nat.lt_of_lt_of_le xl hW.size; have hg2 := Nat.lt_of_lt_of_le hg2 hW.size; have y1 := aC y1 hW; have yl := Nat.lt_of_lt_of_le yl hW.size; have c0 := aC c0 hW; have c1 := aC c1 hW; have c2 := aC c2 hW; have c3 := aC c3 hW; have c4 := aC c4 hW; have c5 := aC c5 hW; have c6 := aC c6 hW; have c7 := aC c7 hW; have c8 := aC c8 hW; have c9 := aC c9 hW; have d0 := aC d0 hW; have d1 := aC d1 hW; have d2 := aC d2 hW; have d3 := aC d3 hW; have d4 := aC d4 hW; have d5 := aC d5 hW; have d6 := aC d6 hW; have d7 := aC d7 hW; have d8 := aC d8 hW; have d9 := aC d9 hW; go_simp; try with_reducible rfl
          go_simp
          refine tC 5 rfl HS.out ?_
          go_simp
          refine aI.takeD 6 [8, 9, 10, 11] rfl (v := ?_) (Or.inl ⟨by rfl, ?_⟩) HS.out ?_; rotate_left; · intro W hW; obtain ⟨hg1, x1, xl, hg2, y1, yl, c0, c1, c2, c3, c4, c5, c6, c7, c8, c9, d0, d1, d2, d3, d4, d5, d6, d7, d8, d9⟩ := HC.out; have hg1 := Nat.lt_of_lt_of_le hg1 hW.size; have x1 := aC x1 hW; have xl := Nat.lt_of_lt_of_le xl hW.size; have hg2 := Nat.lt_of_lt_of_le hg2 hW.size; have y1 := aC y1 hW; have yl := Nat.lt_of_lt_of_le yl hW.size; have c0 := aC c0 hW; have c1 := aC c1 hW; have c2 := aC c2 hW; have c3 := aC c3 hW; have c4 := aC c4 hW; have c5 := aC c5 hW; have c6 := aC c6 hW; have c7 := aC c7 hW; have c8 := aC c8 hW; have c9 := aC c9 hW; have d0 := aC d0 hW; have d1 := aC d1 hW; have d2 := aC d2 hW; have d3 := aC d3 hW; have d4 := aC d4 hW; have d5 := aC d5 hW; have d6 := aC d6 hW; have d7 := aC d7 hW; have d8 := aC d8 hW; have d9 := aC d9 hW; go_simp; try with_reducible rfl
          go_simp
          refine tC 7 rfl HS.out ?_
          go_simp
          refine tC 8 rfl HS.out ?_
          go_simp
          refine aI.takeD 9 [10, 11] rfl (v := ?_) (Or.inl ⟨by rfl, ?_⟩) HS.out ?_; rotate_left; · intro W hW; obtain ⟨hg1, x1, xl, hg2, y1, yl, c0, c1, c2, c3, c4, c5, c6, c7, c8, c9, d0, d1, d2, d3, d4, d5, d6, d7, d8, d9⟩ := HC.out; have hg1 := Nat.lt_of_lt_of_le hg1 hW.size; have x1 := aC x1 hW; have xl := Nat.lt_of_lt_of_le xl hW.size; have hg2 := Nat.lt_of_lt_of_le hg2 hW.size; have y1 := aC y1 hW; have yl := Nat.lt_of_lt_of_le yl hW.size; have c0 := aC c0 hW; have c1 := aC c1 hW; have c2 := aC c2 hW; have c3 := aC c3 hW; have c4 := aC c4 hW; have c5 := aC c5 hW; have c6 := aC c6 hW; have c7 := aC c7 hW; have c8 := aC c8 hW; have c9 := aC c9 hW; have d0 := aC d0 hW; have d1 := aC d1 hW; have d2 := aC d2 hW; have d3 := aC d3 hW; have d4 := aC d4 hW; have d5 := aC d5 hW; have d6 := aC d6 hW; have d7 := aC d7 hW; have d8 := aC d8 hW; have d9 := aC d9 hW; go_simp; try with_reducible rfl
          go_simp
          refine aI.one (i := 10) (by kernel_rfl) (bB (f := 30) (vs := #[.agg #[.int .i64 x.op, .string x.tx, .int .u64 x.s0, .int .u64 x.s1, .int .u64 x.s2, .int .u64 x.s3, .slice ka nk ca, .int .i64 x.tg, .int .i64 (x.mo : Int), .int .i64 x.ru], .agg #[.int .i64 x.op, .string x.tx, .int .u64 x.s0, .int .u64 x.s1, .int .u64 x.s2, .int .u64 x.s3, .slice kb nk cb, .int .i64 x.tg, .int .i64 (x.mo : Int), .int .i64 x.ru]]) rfl (by kernel_rfl) (by go_simp) ((HND.out _ HS.out).mono ?_))
          rintro e w4 ⟨he, hb⟩
          refine ⟨_, he, .inr (.inr (HS.out.trans (hb.mono HS.out.size))), ?_⟩
          have HS := Lib.hid (HS.out.trans (hb.mono HS.out.size))
          clear hb
          go_simp
          refine aI.one (i := 11) (by kernel_rfl) (aY (v := .bool false) (w' := w4) rfl (by kernel_rfl) (by go_simp; try rfl) ?_)
          refine ⟨.inl rfl, ?_⟩
          go_simp
          refine aI.done (by kernel_rfl) ?_ _
          go_simp
          try go_wp2
          go_roundw
          case rel => exact ⟨k + 1, rfl, by go_num, by omega, Lib.hid (HBR.out.trans (HS.out.mono HBR.out.size))⟩
          case measure => simp [intOf]; omega
        · have h1f : decide ((k : Int) < (nns : Int)) = false := decide_eq_false h1
          have HBb := Lib.hid HBC.out
          go_wp2_with fail
          go_loopw [4, 7] (fun b4 b5 wr => ∃ k : Nat, b4 = .bool false ∧ b5 = .int .i64 (k : Int) ∧ (k : Int) ≤ nhs ∧ Hid (Below wb.heap.size wb wr)) (fun _ b5 _ => nhs - (intOf b5).toNat)
          case atStart => exact ⟨0, rfl, rfl, by omega, Lib.hid (Below.refl _ _)⟩
          case round =>
            obtain ⟨k, rfl, rfl, hk2, HBR⟩ := hrel
            have hw1 : IntKind.i64.wrap ((k : Int) + 1) = (k : Int) + 1 := by rw [IntKind.wrap_i64]; omega
            obtain ⟨wc, hwr⟩ : ∃ z, z = wr := ⟨_, rfl⟩
            subst hwr
            have HOA := Lib.hid (HOA.out.under HBR.out HOA.out.lt)
            have HOB := Lib.hid (HOB.out.under HBR.out HOB.out.lt)
            have HBC := Lib.hid (HBb.out.trans (HBR.out.mono HBb.out.size))
            clear x0 x1 x2 x3 x4 xl y0 y1 y2 y3 y4 yl
            obtain ⟨x0, x1, x2, x3, x4, xl⟩ := oG HOA.out
            have y0 : wc.cell? ⟨X + 1, 0, none⟩ = some (.slice b.mo nms b.mc) := HOB.out.cell 0
            have y1 : wc.cell? ⟨X + 1, 1, none⟩ = some (.slice b.no nns b.nc) := HOB.out.cell 1
            have y2 : wc.cell? ⟨X + 1, 2, none⟩ = some (.slice b.ho nhs b.hc) := HOB.out.cell 2
            have y3 : wc.cell? ⟨X + 1, 3, none⟩ = some (.slice b.wo nws b.wc) := HOB.out.cell 3
            have y4 : wc.cell? ⟨X + 1, 4, none⟩ = some (.int .i64 st) := HOB.out.cell 4
            have yl := HOB.out.lt
            by_cases h1 : (k : Int) < nhs
            · obtain ⟨x, hx⟩ := HGH.out k (by omega)
              obtain ⟨g, off, ea, hg1, _, c1, c2, c3⟩ := (HA.out.below HBC.out).2.1 k x hx
              obtain ⟨g', off', eb, hg2, _, d1, d2, d3⟩ := (HB.out.below HBC.out).2.1 k x hx
              rw [ea] at x2
              rw [eb] at y2
              clear hx ea eb
              go_wp2_with fail
              go_quiet (fail)
              go_wp2
              go_roundw
              case rel => exact ⟨k + 1, rfl, by go_num, by omega, Lib.hid (below_drewN HBR.out nq)⟩
              case measure => simp [intOf]; omega
            · have h1f : decide ((k : Int) < (nhs : Int)) = false := decide_eq_false h1
              have HBc := Lib.hid HBC.out
              go_wp2
              go_ret
              exact ⟨rfl, HBC.out⟩
end Go.Proofs.YthkdnehgamefiaaGreat
