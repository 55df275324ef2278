import Derived.Test.YthkdnehgamefiaaGreatJpF
import Derived.Test.YthkdnehgamefiaaGreatJy
namespace Go.Proofs.YthkdnehgamefiaaGreat
set_option linter.unusedVariables false
open Go.RowKit Go.Sort
theorem kidsF_few {P:Ex->List Nj->Pt} (hP:∀ y N,N.length<=160->(P y N).1.length<=160):∀ (K:List Ex) (N:List Nj) (ks:List Nat),N.length<=160->(kV P K N ks).1.length<=160
 | [],N,ks,h=>h
 | y :: r,N,ks,h=>by
  have h1:=hP y N h;unfold kV
  cases hp:P y N with
  | mk N1 q =>
   obtain ⟨F1,n1⟩:=q;rw [hp] at h1
   cases F1 with
   | none=>exact kidsF_few hP r N1 (ks ++ [n1]) h1
   | some f=>exact h1
theorem putN_few (ML:List Md) (F:List Nat) (mod:Nat) (ru:Int):∀ (d:Nat) (e:Ex) (N:List Nj),N.length<=160->(uS ML F mod ru d e N).1.length<=160
 | 0,e,N,h=>h
 | d + 1,e,N,h=>by
  unfold uS;split
  · exact h
  ·
   next h2 =>
   cases toO ML F mod e with
   | none=>exact h
   | some tt =>
    simp only [];rw [A9m];exact kidsF_few (putN_few ML F mod ru d) e.kids _ [] (by simp;omega)
theorem padd_any (ML:List Md) (FL:List Nat) (mo:Option Addr) (mc:Nat) (w0:World) (D0:Nat) (hM:fK w0 D0 mo ML) (hfew:Few ML) (hmx:Mx w0) (hFL:FL.length=ML.length) (hFb:∀ x ∈ FL,x<=1000000000) (g:Nat) (mod:Nat) (hmod:mod<=1000000) (ru:Int) (rows:Rw) (hr5:rows 5=(FL.length,lD FL)) (st:Int) :
  ∀ (d:Nat) (x:Ex) (ko:Option Addr) (kc:Nat),Fw d x->aV w0 d ko x.kids->∀ (w:World) (ct:Nat->Nat) (N:List Nj),N.length<=160->Jp w0 w g ct rows (.slice mo ML.length mc) st N none →
  Calls Tryz.prog 85 #[.pointer (some ⟨g,0,none⟩),exv x ko kc,.int .i64 (mod:Int),.int .i64 ru] w (JAo w0 g rows (.slice mo ML.length mc) st (uS ML FL mod ru d x N) w ct)
 | 0,x,ko,kc,h,_,_,_,_,_,_=>h.no.elim
 | nd + 1,.mk o t a b c d K,ko,kc,h,hK,w,ct,N,h160,hJ=>by
  rw [A8F]
  exact padd_step ML FL mo mc w0 D0 hM hfew hmx hFL hFb g mod hmod ru rows hr5 st (uS ML FL mod ru nd) nd o a b c d t K (A1T ML FL mod ru nd) (putN_few ML FL mod ru nd)
   (fun y hy yo yc hky W ct' N' h' hJ'=>by
    obtain ⟨k,hk⟩:=List.mem_iff_getElem?.1 hy
    exact padd_any ML FL mo mc w0 D0 hM hfew hmx hFL hFb g mod hmod ru rows hr5 st nd y yo yc (h.kid (k:=k) hk) hky W ct' N' h' hJ')
   h.len.2 h.len.1 ko kc hK w ct N h160 hJ
end Go.Proofs.YthkdnehgamefiaaGreat
