/- A grammar that is put together: an expression's nodes, walked. -/
import Derived.Test.YtbjgojdpfehnmaaJnF
namespace Go.Proofs.Ytbjgojdpfehnmaa
set_option linter.unusedVariables false
open Go.RowKit Go.Sort
theorem setK_len (N : List Nj) (n : Nat) (ks : List Nat) : (setK N n ks).length = N.length := by unfold setK; simp
theorem kidsF_len {P : Ex → List Nj → Pt} (hP : ∀ y N, N.length ≤ (P y N).1.length) : ∀ (K : List Ex) (N : List Nj) (ks : List Nat), N.length ≤ (kidsF P K N ks).1.length
 | [], N, ks => Nat.le_refl _
 | y :: r, N, ks => by
  have h1 := hP y N
  unfold kidsF
  cases hp : P y N with
  | mk N1 q =>
   obtain ⟨F1, n1⟩ := q
   rw [hp] at h1
   cases F1 with
   | none => exact Nat.le_trans h1 (kidsF_len hP r N1 (ks ++ [n1]))
   | some f => exact h1
theorem endK_len (n : Nat) (r : Pk) : (endK n r).1.length = r.1.length := by
 obtain ⟨N, F, ks⟩ := r
 cases F with
 | none => exact setK_len N n ks
 | some f => rfl
theorem putN_len (ML : List Md) (F : List Nat) (mod : Nat) (ru : Int) : ∀ (d : Nat) (e : Ex) (N : List Nj), N.length ≤ (putN ML F mod ru d e N).1.length
 | 0, e, N => Nat.le_refl _
 | d + 1, e, N => by
  unfold putN
  split
  ·
   exact Nat.le_refl _
  ·
   cases toO ML F mod e with
   | none => exact Nat.le_refl _
   | some tt =>
    simp only []
    rw [endK_len]
    exact Nat.le_trans (by simp) (kidsF_len (putN_len ML F mod ru d) e.kids _ [])
theorem jput_any (ML : List Md) (FL : List Nat) (mo : Option Addr) (mc : Nat) (w0 : World) (D0 : Nat) (hM : HasMs w0 D0 mo ML) (hfew : Few ML) (hFL : FL.length = ML.length) (hFb : ∀ x ∈ FL, x ≤ 1000000000) (g : Nat) (mod : Nat) (hmod : mod ≤ 1000000) (ru : Int) (rows : Rw) (hr5 : rows 5 = (FL.length, knrow FL)) (st : Int) :
  ∀ (d : Nat) (x : Ex) (ko : Option Addr) (kc : Nat), Fw d x → HasK w0 d ko x.kids → ∀ (w : World) (ct : Nat → Nat) (N : List Nj), Jn w0 w g ct rows (.slice mo ML.length mc) st N none →
  Calls Try.prog 48 #[.pointer (some ⟨g, 0, none⟩), exv x ko kc, .int .i64 (mod : Int), .int .i64 ru] w (JPo w0 g rows (.slice mo ML.length mc) st (putN ML FL mod ru d x N) w ct)
 | 0, x, ko, kc, h, _, _, _, _, _ => h.no.elim
 | nd + 1, .mk o t a b c d K, ko, kc, h, hK, w, ct, N, hJ => by
  rw [putN_succ]
  exact jput_step ML FL mo mc w0 D0 hM hfew hFL hFb g mod hmod ru rows hr5 st (putN ML FL mod ru nd) nd o a b c d t K (putN_len ML FL mod ru nd)
   (fun y hy yo yc hky W ct' N' hJ' => by
    obtain ⟨k, hk⟩ := List.mem_iff_getElem?.1 hy
    exact jput_any ML FL mo mc w0 D0 hM hfew hFL hFb g mod hmod ru rows hr5 st nd y yo yc (h.kid (k := k) hk) hky W ct' N' hJ')
   h.len.2 h.len.1 ko kc hK w ct N hJ
end Go.Proofs.Ytbjgojdpfehnmaa
