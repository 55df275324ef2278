import Derived.Test.YthkdnehgamefiaaGreatHt
import Derived.Test.YthkdnehgamefiaaGreatHu
namespace Go.Proofs.YthkdnehgamefiaaGreat
set_option linter.unusedVariables false
set_option maxRecDepth 1000000
open Go.RowKit Go.Sort
def fit (M:Nat):Nat->Ex->Bool
 | 0,_=>false
 | n + 1,x=>decide (x.kids.length<=M) && x.kids.all (fit M n)
theorem rQ {M n:Nat} {x y:Ex} (h:fit M (n + 1) x=true) {k:Nat} (hy:x.kids[k]?=some y):fit M n y=true:=by unfold fit at h;rw [Bool.and_eq_true] at h;exact List.all_eq_true.1 h.2 y (aM hy)
theorem Db {M n:Nat} {x:Ex} (h:fit M n x=true):x.kids.length<=M:=by
 cases n with
 | zero=>cases h
 | succ n =>
  unfold fit at h;rw [Bool.and_eq_true,decide_eq_true_eq] at h;exact h.1
theorem En {M:Nat}:∀ {n m:Nat} {x:Ex},fit M n x=true->n<=m->fit M m x=true
 | 0,m,x,h,_=>by cases h
 | n + 1,0,x,h,hm=>by omega
 | n + 1,m + 1,x,h,hm=>by unfold fit at h ⊢;rw [Bool.and_eq_true] at h ⊢;exact ⟨h.1,List.all_eq_true.2 fun y hy=>En (List.all_eq_true.1 h.2 y hy) (by omega)⟩
theorem aV.fit {M:Nat} {w:World}:∀ {n m:Nat} {x:Ex} {ao:Option Addr},fit M n x=true->aV w m ao x.kids->aV w n ao x.kids
 | 0,m,x,ao,h,_=>by cases h
 | n + 1,0,x,ao,h,hk=>by have h0:x.kids=[]:=hk;rw [h0];exact aV.nil _ _ _
 | n + 1,m + 1,x,ao,h,hk=>fun k y hy=>by obtain ⟨g,off,ko,kc,e,hg,c0,c1,c2,c3,c4,c5,c6,hr⟩:=hk k y hy;exact ⟨g,off,ko,kc,e,hg,c0,c1,c2,c3,c4,c5,c6,aV.fit (rQ h hy) hr⟩
def Ft (M n:Nat) (r:Rs):Prop:=∀ x m,r=.ok (x,m)->fit M n x=true
theorem Ft.err {M n:Nat} (e:Int × Int):Ft M n (.error e):=fun x m h=>by cases h
theorem Ft.ok {M n k:Nat} {x:Ex} (h:fit M n x=true):Ft M n (.ok (x,k)):=fun y m e=>by
 obtain ⟨rfl,rfl⟩:x=y/\k=m:=by simpa using e
 exact h
theorem Ft.more {M n m:Nat} {r:Rs} (h:Ft M n r) (hm:n<=m):Ft M m r:=fun x k e=>En (h x k e) hm
theorem Em {M n:Nat} {op:Int} {t:ByteArray} {a b c d:Int}:fit M (n + 1) (.mk op t a b c d [])=true:=by unfold fit;simp [Ex.kids]
theorem Ti {M n:Nat} {op:Int} {t:ByteArray} {a b c d:Int} {x:Ex} (hM:1<=M) (h:fit M n x=true):fit M (n + 1) (.mk op t a b c d [x])=true:=by unfold fit;simp [Ex.kids,h,hM]
theorem A9w {M n:Nat} {op:Int} {t:ByteArray} {a b c d:Int} {K:List Ex} (hM:K.length<=M) (h:∀ x ∈ K,fit M n x=true):fit M (n + 1) (.mk op t a b c d K)=true:=by unfold fit;rw [Bool.and_eq_true,decide_eq_true_eq];exact ⟨hM,List.all_eq_true.2 h⟩
theorem B6M {M n:Nat} (L:List Tok) (k:Nat):Ft M (n + 1) (yX L k):=by
 unfold yX;split
 ·
  split
  ·
   split
   · exact Ft.ok Em
   · exact Ft.err _
  · exact Ft.ok Em
 · exact Ft.err _
theorem B2R {M n:Nat} {L:List Tok} {X:Nat->Rs} {big:Bool} (hX:∀ j,Ft M (n + 1) (X j)) (k:Nat):Ft M (n + 1) (tyZ L X big k):=by
 unfold tyZ;split
 · exact Ft.ok Em
 split
 · exact Ft.ok Em
 split
 · exact B6M L k
 split
 · exact Ft.ok Em
 split
 ·
  split
  · exact Ft.err _
  ·
   cases hx:X (k + 1) with
   | error e=>exact Ft.err e
   | ok p =>
    obtain ⟨x,m⟩:=p;show Ft M (n + 1) (if isS L m [41]=true then _ else _);split
    · exact Ft.ok (hX _ _ _ hx)
    · exact Ft.err _
 · exact Ft.err _
theorem Ft.kid {M n:Nat} {op:Int} {t:ByteArray} (hM:1<=M) {r:Rs} (h:Ft M n r):Ft M (n + 1) (Qh (fun e=>.mk op t 0 0 0 0 [e]) r):=by
 cases r with
 | error e=>exact Ft.err e
 | ok p =>
  obtain ⟨x,m⟩:=p;exact Ft.ok (Ti hM (h x m rfl))
theorem B6m {M n:Nat} (hM:1<=M) {L:List Tok} {X:Nat->Rs} {big:Bool} (hX:∀ j,Ft M (n + 1) (X j)) (k:Nat):Ft M (n + 2) (jG L X big k):=by
 unfold jG
 cases hp:tyZ L X big k with
 | error e=>exact Ft.err e
 | ok p =>
  obtain ⟨x,m⟩:=p;have h1:=B2R hX k x m hp;show Ft M (n + 2) (if isS L m [42]=true then _ else if isS L m [43]=true then _ else if isS L m [63]=true then _ else _);split
  · exact Ft.ok (Ti hM h1)
  split
  · exact Ft.ok (Ti hM h1)
  split
  · exact Ft.ok (Ti hM h1)
  · exact Ft.ok (En h1 (by omega))
theorem A6A {M n:Nat} (hM:1<=M) {L:List Tok} {X:Nat->Rs} {big:Bool} (hX:∀ j,Ft M (n + 1) (X j)) (k:Nat):Ft M (n + 3) (preO L X big k):=by
 have hS:=B6m (big:=big) (L:=L) hM hX;unfold preO;split
 · exact (hS (k + 1)).kid hM
 split
 · exact (hS (k + 1)).kid hM
 split
 ·
  cases hp:jG L X big (k + 1) with
  | error e=>exact Ft.err e
  | ok p =>
   obtain ⟨x,m⟩:=p;have h1:=hS (k + 1) x m hp;show Ft M (n + 3) (if isS L m [126]=true then _ else _);split
   · exact Ft.ok (Ti hM h1)
   · exact Ft.err _
 split
 ·
  split
  · exact (hS (k + 2)).kid hM
  · exact Ft.err _
 · exact (hS k).more (by omega)
theorem B0x {M n:Nat} {L:List Tok} {c:Nat->Bool} {nx:Nat->Rs} (hc:∀ j,c j=true->j < L.length) (hb:∀ j,Bd L j (nx j)) (hf:∀ j,Ft M n (nx j)):∀ (f:Nat) (A K:List Ex) (k m:Nat),A.length<=k->k<=L.length->(∀ x ∈ A,fit M n x=true)->lsL c nx f A k=.ok (K,m)->K.length<=L.length/\∀ x ∈ K,fit M n x=true
 | 0,A,K,k,m,hA,hk,hx,h=>by simp [lsL] at h;obtain ⟨rfl,rfl⟩:=h;exact ⟨by omega,hx⟩
 | f + 1,A,K,k,m,hA,hk,hx,h=>by
  unfold lsL at h;split at h
  ·
   cases hq:nx k with
   | error e=>simp [hq] at h
   | ok p =>
    obtain ⟨x,n1⟩:=p;have h1:=hb k x n1 hq;simp only [hq] at h;refine B0x hc hb hf f _ K n1 m (by rw [List.length_append];simp;omega) h1.2 (fun y hy=>?_) h;rw [List.mem_append,List.mem_singleton] at hy;rcases hy with hy | rfl
    · exact hx y hy
    · exact hf k y n1 hq
  · simp at h;obtain ⟨rfl,rfl⟩:=h;exact ⟨by omega,hx⟩
theorem VO {M n:Nat} {L:List Tok} {c:Nat->Bool} {nx:Nat->Rs} {k:Nat} {r:Rs} {op:Int} (hM:L.length<=M) (hc:∀ j,c j=true->j < L.length) (hb:∀ j,Bd L j (nx j)) (hf:∀ j,Ft M n (nx j)) (hr:Bd L k r) (hr2:Ft M n r):Ft M (n + 1) (Ox op (lsO c (L.length + 1) nx r)):=by
 cases r with
 | error e=>exact Ft.err e
 | ok p =>
  obtain ⟨x,m⟩:=p;show Ft M (n + 1) (Ox op (lsL c nx (L.length + 1) [x] m))
  cases hl:lsL c nx (L.length + 1) [x] m with
  | error e=>exact Ft.err e
  | ok p =>
   obtain ⟨K,m2⟩:=p;have h1:=hr x m rfl;have h2:=B0x hc hb hf _ _ K m m2 (by show 1<=m;omega) h1.2 (fun y hy=>by rw [List.mem_singleton] at hy;subst hy;exact hr2 y m rfl) hl;refine Ft.ok ?_;by_cases e:K.length=1
   · obtain ⟨y,rfl⟩:=List.length_eq_one_iff.1 e;exact En (h2.2 y (List.mem_singleton.2 rfl)) (by omega)
   · rw [uM e];exact A9w (by omega) h2.2
theorem FW {M:Nat} {L:List Tok} (hM:1<=M) (hL:L.length<=M):∀ d k,Ft M (5 + 4 * d) (exO L d k)
 | 0,k=>by
  show Ft M 5 (chO L (lC L (preO L (fun _=>.error (0,0)) true)) k);have hp:∀ j,Ft M 3 (preO L (fun _=>.error (0,0)) true j):=A6A (n:=0) hM fun j=>Ft.err _;have bp:∀ j,Bd L j (preO L (fun _=>.error (0,0)) true j):=Dk fun j=>Bd.err _;have hs:∀ j,Ft M 4 (lC L (preO L (fun _=>.error (0,0)) true) j):=fun j=>by rw [Ie];exact VO (n:=3) hL (fun j h=>Rh h) bp hp (bp j) (hp j)
  have bs:∀ j,Bd L j (lC L (preO L (fun _=>.error (0,0)) true) j):=Og bp;rw [Px];exact VO (n:=4) hL (fun j h=>xB h) (fun j=>(bs (j + 1)).low (by omega)) (fun j=>hs (j + 1)) (bs k) (hs k)
 | d + 1,k=>by
  show Ft M (5 + 4 * (d + 1)) (chO L (lC L (preO L (exO L d) false)) k);have hp:∀ j,Ft M (4 + 4 * d + 3) (preO L (exO L d) false j):=A6A (n:=4 + 4 * d) hM fun j=>(FW hM hL d j).more (by omega);have bp:∀ j,Bd L j (preO L (exO L d) false j):=Dk (Py d);have hs:∀ j,Ft M (4 + 4 * d + 4) (lC L (preO L (exO L d) false) j):=fun j=>by rw [Ie];exact VO (n:=4 + 4 * d + 3) hL (fun j h=>Rh h) bp hp (bp j) (hp j)
  have bs:∀ j,Bd L j (lC L (preO L (exO L d) false) j):=Og bp;rw [Px];exact (VO (n:=4 + 4 * d + 4) hL (fun j h=>xB h) (fun j=>(bs (j + 1)).low (by omega)) (fun j=>hs (j + 1)) (bs k) (hs k)).more (by omega)
def made (w:World) (os:List Obj):World:=os.foldl World.alloc w
theorem kC:∀ (os:List Obj) (w:World) (i:Nat) (t:TypeId) (cs:List Value),os[i]?=some (.cells cs.toArray t)->Own (made w os) (w.heap.size + i) t cs
 | [],w,i,t,cs,h=>by simp at h
 | o :: os,w,0,t,cs,h=>by
  simp at h;subst h;have key:∀ (os:List Obj) (W:World),Own W w.heap.size t cs->Own (made W os) w.heap.size t cs:=by
   intro os
   induction os with
   | nil=>intro W h;exact h
   | cons o os ih=>intro W h;exact ih _ (h.on_alloc o)
  exact key os _ (Own.fresh w t cs)
 | o :: os,w,i + 1,t,cs,h=>by have g:=kC os (w.alloc o) i t cs (by simpa using h);rw [show (w.alloc o).heap.size + i=w.heap.size + (i + 1) by simp;omega] at g;exact g
theorem lQ (w:World):∀ (os:List Obj) (W:World),Below w.heap.size w W->Below w.heap.size w (made W os)
 | [],W,h=>h
 | o :: os,W,h=>lQ w os _ (h.alloc h.size o)
theorem But.set4 (w:World) (g:Nat) (u0 u1 u2 u3:Value):But (fun j=>j=g) w (set4 w g u0 u1 u2 u3) :=
 ((((But.refl (fun j=>j=g) w).setCell (p:=⟨g,0,none⟩) (fun _=>rfl) u0).setCell (p:=⟨g,1,none⟩) (fun _=>rfl) u1).setCell (p:=⟨g,2,none⟩) (fun _=>rfl) u2).setCell (p:=⟨g,3,none⟩) (fun _=>rfl) u3
def rdO (L:List Tok) (k:Nat):Rs:=match exO L 12 k with
 | .error e=>.error e
 | .ok (x,m)=>if 12 < bJ 60 x then jW L 3 k else .ok (x,m)
def RdE (D:Nat) (r:Rs) (e:Ending) (w':World):Prop:=match r with
 | .ok (x,m)=>∃ ko kc n,e=.returned (.tuple #[exv x ko kc,.int .i64 (m:Int),.agg #[.int .i64 0,.int .i64 0,.int .i64 0,.int .i64 0]])/\dD w' D n ko x.kids
 | .error f=>e=.returned (.tuple #[exv ex0 none 0,.int .i64 0,.agg #[.int .i64 f.1,.int .i64 f.2,.int .i64 0,.int .i64 0]])/\f.1 ≠ 0
def rdQ (L:List Tok) (k:Nat):Rs->Rs
 | .error e=>.error e
 | .ok (x,m)=>if 12 < bJ 60 x then jW L 3 k else .ok (x,m)
theorem Xu {N:Nat} {L:List Tok} (HN:∀ k,(tkA L k).kd ≠ 0->k < N) {k:Nat} {s:List UInt8} (h:isS L k s=true):k < N:=by unfold isS at h;rw [Bool.and_eq_true,beq_iff_eq] at h;exact HN k (by rw [h.1];decide)
def Be (N k:Nat) (r:Rs):Prop:=∀ x m,r=.ok (x,m)->k < m/\m<=N
theorem Be.err {N k:Nat} (e:Int × Int):Be N k (.error e):=fun x m h=>by cases h
theorem Be.ok {N k n:Nat} {x:Ex} (h:k < n) (h':n<=N):Be N k (.ok (x,n)):=fun y m e=>by
 obtain ⟨rfl,rfl⟩:x=y/\n=m:=by simpa using e
 exact ⟨h,h'⟩
theorem Be.low {N k k':Nat} {r:Rs} (h:Be N k r) (hk:k'<=k):Be N k' r:=fun x m e=>⟨by have:=(h x m e).1;omega,(h x m e).2⟩
theorem Be.map {N k:Nat} {r:Rs} {f:Ex->Ex} (h:Be N k r):Be N k (Qh f r):=by
 cases r with
 | error e=>exact Be.err e
 | ok p =>
  obtain ⟨x,m⟩:=p;exact Be.ok (h x m rfl).1 (h x m rfl).2
theorem B6K {N:Nat} {L:List Tok} (HN:∀ k,(tkA L k).kd ≠ 0->k < N) {k:Nat} (h:(tkA L k).kd=1):Be N k (yX L k):=by
 have h0:k < N:=HN _ (by rw [h];decide);unfold yX;split
 ·
  split
  ·
   split
   · rename_i h3;simp at h3;have:=HN (k + 2) (by rw [h3.1];decide);exact Be.ok (by omega) (by omega)
   · exact Be.err _
  · exact Be.ok (by omega) (by omega)
 · exact Be.err _
theorem A1M {N:Nat} {L:List Tok} (HN:∀ k,(tkA L k).kd ≠ 0->k < N) {X:Nat->Rs} {big:Bool} (hX:∀ j,Be N j (X j)) (k:Nat):Be N k (tyZ L X big k):=by
 unfold tyZ;split
 · rename_i h;have:=HN (k) (by rw [h];decide);exact Be.ok (by omega) (by omega)
 split
 · rename_i h;have:=HN (k) (by rw [h];decide);exact Be.ok (by omega) (by omega)
 split
 · rename_i h;exact B6K HN h
 split
 · rename_i h;have:=Xu HN h;exact Be.ok (by omega) (by omega)
 split
 ·
  split
  · exact Be.err _
  ·
   cases hx:X (k + 1) with
   | error e=>exact Be.err e
   | ok p =>
    obtain ⟨x,m⟩:=p;have h1:=hX (k + 1) x m hx;show Be N k (if isS L m [41]=true then _ else _);split
    · rename_i h2;have:=Xu HN h2;exact Be.ok (by omega) (by omega)
    · exact Be.err _
 · exact Be.err _
theorem B6k {N:Nat} {L:List Tok} (HN:∀ k,(tkA L k).kd ≠ 0->k < N) {X:Nat->Rs} {big:Bool} (hX:∀ j,Be N j (X j)) (k:Nat):Be N k (jG L X big k):=by
 unfold jG
 cases hp:tyZ L X big k with
 | error e=>exact Be.err e
 | ok p =>
  obtain ⟨x,m⟩:=p;have h1:=A1M HN hX k x m hp;show Be N k (if isS L m [42]=true then _ else if isS L m [43]=true then _ else if isS L m [63]=true then _ else _);split
  · rename_i h2;have:=Xu HN h2;exact Be.ok (by omega) (by omega)
  split
  · rename_i h2;have:=Xu HN h2;exact Be.ok (by omega) (by omega)
  split
  · rename_i h2;have:=Xu HN h2;exact Be.ok (by omega) (by omega)
  · exact Be.ok h1.1 h1.2
theorem WQ {N:Nat} {L:List Tok} (HN:∀ k,(tkA L k).kd ≠ 0->k < N) {X:Nat->Rs} {big:Bool} (hX:∀ j,Be N j (X j)) (k:Nat):Be N k (preO L X big k):=by
 have hS:=B6k HN (big:=big) hX;unfold preO;split
 · exact ((hS (k + 1)).low (by omega)).map
 split
 · exact ((hS (k + 1)).low (by omega)).map
 split
 ·
  cases hp:jG L X big (k + 1) with
  | error e=>exact Be.err e
  | ok p =>
   obtain ⟨x,m⟩:=p;have h1:=hS (k + 1) x m hp;show Be N k (if isS L m [126]=true then _ else _);split
   · rename_i h2;have:=Xu HN h2;exact Be.ok (by omega) (by omega)
   · exact Be.err _
 split
 ·
  split
  · exact ((hS (k + 2)).low (by omega)).map
  · exact Be.err _
 · exact hS k
theorem A6R {N:Nat} {L:List Tok} (HN:∀ k,(tkA L k).kd ≠ 0->k < N) {pre:Nat->Rs} (hp:∀ j,Be N j (pre j)):∀ (f:Nat) (A K:List Ex) (k m:Nat),k<=N->yY L pre f A k=.ok (K,m)->k<=m/\m<=N
 | 0,A,K,k,m,hk,h=>by simp [yY] at h;omega
 | f + 1,A,K,k,m,hk,h=>by
  unfold yY at h;split at h
  ·
   cases hq:pre k with
   | error e=>simp [hq] at h
   | ok p =>
    obtain ⟨x,n⟩:=p;have h1:=hp k x n hq;simp only [hq] at h;have h2:=A6R HN hp f _ K n m h1.2 h;omega
  · simp at h;omega
theorem XF {N:Nat} {L:List Tok} (HN:∀ k,(tkA L k).kd ≠ 0->k < N) {pre:Nat->Rs} (hp:∀ j,Be N j (pre j)) (k:Nat):Be N k (lC L pre k):=by
 unfold lC
 cases hq:pre k with
 | error e=>exact Be.err e
 | ok p =>
  obtain ⟨x,n⟩:=p;have h1:=hp k x n hq
  cases hl:yY L pre (L.length + 1) [x] n with
  | error e=>simp only [hl];exact Be.err e
  | ok p =>
   obtain ⟨K,m⟩:=p;have h2:=A6R HN hp _ _ K n m h1.2 hl;simp only [hl];exact Be.ok (by omega) (by omega)
theorem A9W {N:Nat} {L:List Tok} (HN:∀ k,(tkA L k).kd ≠ 0->k < N) {pre:Nat->Rs} (hp:∀ j,Be N j (pre j)):∀ (f:Nat) (A K:List Ex) (k m:Nat),k<=N->chL L pre f A k=.ok (K,m)->k<=m/\m<=N
 | 0,A,K,k,m,hk,h=>by simp [chL] at h;omega
 | f + 1,A,K,k,m,hk,h=>by
  unfold chL at h;split at h
  ·
   cases hq:pre (k + 1) with
   | error e=>simp [hq] at h
   | ok p =>
    obtain ⟨x,n⟩:=p;have h1:=hp (k + 1) x n hq;simp only [hq] at h;have h2:=A9W HN hp f _ K n m h1.2 h;omega
  · simp at h;omega
theorem A9a {N:Nat} {L:List Tok} (HN:∀ k,(tkA L k).kd ≠ 0->k < N) {pre:Nat->Rs} (hp:∀ j,Be N j (pre j)) (k:Nat):Be N k (chO L pre k):=by
 unfold chO
 cases hq:pre k with
 | error e=>exact Be.err e
 | ok p =>
  obtain ⟨x,n⟩:=p;have h1:=hp k x n hq
  cases hl:chL L pre (L.length + 1) [x] n with
  | error e=>simp only [hl];exact Be.err e
  | ok p =>
   obtain ⟨K,m⟩:=p;have h2:=A9W HN hp _ _ K n m h1.2 hl;simp only [hl];exact Be.ok (by omega) (by omega)
theorem Jg {N:Nat} {L:List Tok} (HN:∀ k,(tkA L k).kd ≠ 0->k < N):∀ d k,Be N k (exO L d k)
 | 0,k=>A9a HN (XF HN (WQ HN fun j=>Be.err _)) k
 | d + 1,k=>A9a HN (XF HN (WQ HN (Jg HN d))) k
def Oy (a b c d:Int):Bool:=decide (0<=a/\a < 18446744073709551616) && decide (0<=b/\b < 18446744073709551616) && decide (0<=c/\c < 18446744073709551616) && decide (0<=d/\d < 18446744073709551616)
theorem A9v {x:bO} (h:fits x):Oy (x.1:Int) (x.2.1:Int) (x.2.2.1:Int) (x.2.2.2:Int)=true:=by obtain ⟨h1,h2,h3,h4⟩:=h;unfold P64 at h1 h2 h3 h4;unfold Oy;rw [aT (by omega),aT (by omega),aT (by omega),aT (by omega)];rfl
def txs (T:Nat):Nat->Ex->Bool
 | 0,_=>true
 | n + 1,x=>(decide (x.text.size<=T) && Oy x.s0 x.s1 x.s2 x.s3) && x.kids.all (txs T n)
def TxA (T:Nat) (x:Ex):Prop:=∀ n,txs T n x=true
theorem TxA.text {T:Nat} {x:Ex} (h:TxA T x):x.text.size<=T:=by have:=h 1;unfold txs at this;rw [Bool.and_eq_true,Bool.and_eq_true,decide_eq_true_eq] at this;exact this.1.1
theorem TxA.sets {T:Nat} {x:Ex} (h:TxA T x):Oy x.s0 x.s1 x.s2 x.s3=true:=by have:=h 1;unfold txs at this;rw [Bool.and_eq_true,Bool.and_eq_true] at this;exact this.1.2
theorem TxA.kid {T:Nat} {x y:Ex} (h:TxA T x) (hy:y ∈ x.kids):TxA T y:=fun n=>by have:=h (n + 1);unfold txs at this;rw [Bool.and_eq_true] at this;exact List.all_eq_true.1 this.2 y hy
theorem TxA.list {T:Nat} {op:Int} {t:ByteArray} {a b c d:Int} {K:List Ex} (ht:t.size<=T) (h:∀ x ∈ K,TxA T x) (hf:Oy a b c d=true:=by rfl):TxA T (.mk op t a b c d K):=fun n=>by
 cases n with
 | zero=>rfl
 | succ n =>
  unfold txs;rw [Bool.and_eq_true,Bool.and_eq_true,decide_eq_true_eq];exact ⟨⟨ht,hf⟩,List.all_eq_true.2 fun x hx=>h x hx n⟩
theorem TxA.leaf {T:Nat} {op:Int} {t:ByteArray} {a b c d:Int} (ht:t.size<=T) (hf:Oy a b c d=true:=by rfl):TxA T (.mk op t a b c d []):=TxA.list ht (fun x hx=>absurd hx List.not_mem_nil) hf
theorem TxA.one {T:Nat} {op:Int} {t:ByteArray} {a b c d:Int} {x:Ex} (ht:t.size<=T) (h:TxA T x) (hf:Oy a b c d=true:=by rfl):TxA T (.mk op t a b c d [x]):=TxA.list ht (fun y hy=>by
 rw [List.mem_singleton] at hy;subst hy
 exact h) hf
def Tr (T:Nat) (r:Rs):Prop:=∀ x m,r=.ok (x,m)->TxA T x
theorem Tr.err {T:Nat} (e:Int × Int):Tr T (.error e):=fun x m h=>by cases h
theorem Tr.ok {T k:Nat} {x:Ex} (h:TxA T x):Tr T (.ok (x,k)):=fun y m e=>by
 obtain ⟨rfl,rfl⟩:x=y/\k=m:=by simpa using e
 exact h
theorem Ot {x:ByteArray} (h:bN x=true):x.size<=12:=by unfold bN at h;rw [Bool.and_eq_true] at h;have:=of_decide_eq_true h.2;omega
def Tk (T:Nat) (t:Tok):Prop:=t.tx.size<=T/\fits t.st
theorem B3b {T:Nat} {L:List Tok} (hL:∀ t ∈ L,Tk T t) (k:Nat):Tk T (tkA L k):=by
 unfold tkA;rw [List.getD_eq_getElem?_getD]
 cases h:L[k]? with
 | none=>exact ⟨Nat.zero_le _,nD⟩
 | some t=>exact hL t (aM h)
theorem B3c {T:Nat} {L:List Tok} (hL:∀ t ∈ L,Tk T t) (k:Nat):(tkA L k).tx.size<=T:=(B3b hL k).1
theorem B6O {T:Nat} (hT:26<=T) (L:List Tok) (k:Nat):Tr T (yX L k):=by
 unfold yX;split
 ·
  rename_i h1;have w1:=Ot h1;split
  ·
   split
   · rename_i h2;rw [Bool.and_eq_true] at h2;have w2:=Ot h2.2;refine Tr.ok (TxA.leaf ?_);have h58:(⟨#[58,58]⟩:ByteArray).size=2:=rfl;simp only [ByteArray.size_append,h58];omega
   · exact Tr.err _
  · exact Tr.ok (TxA.leaf (by omega))
 · exact Tr.err _
theorem B2U {T:Nat} (hT:26<=T) {L:List Tok} (hL:∀ t ∈ L,Tk T t) {X:Nat->Rs} {big:Bool} (hX:∀ j,Tr T (X j)) (k:Nat):Tr T (tyZ L X big k):=by
 unfold tyZ;split
 · exact Tr.ok (TxA.leaf (B3c hL k))
 split
 · exact Tr.ok (TxA.leaf (Nat.zero_le _) (A9v (B3b hL k).2))
 split
 · exact B6O hT L k
 split
 · exact Tr.ok (TxA.leaf (Nat.zero_le _))
 split
 ·
  split
  · exact Tr.err _
  ·
   cases hx:X (k + 1) with
   | error e=>exact Tr.err e
   | ok p =>
    obtain ⟨x,m⟩:=p;show Tr T (if isS L m [41]=true then _ else _);split
    · exact Tr.ok (hX _ _ _ hx)
    · exact Tr.err _
 · exact Tr.err _
theorem Tr.kid {T:Nat} {op:Int} {t:ByteArray} (ht:t.size<=T) {r:Rs} (h:Tr T r):Tr T (Qh (fun e=>.mk op t 0 0 0 0 [e]) r):=by
 cases r with
 | error e=>exact Tr.err e
 | ok p =>
  obtain ⟨x,m⟩:=p;exact Tr.ok (TxA.one ht (h x m rfl))
theorem B6n {T:Nat} (hT:26<=T) {L:List Tok} (hL:∀ t ∈ L,Tk T t) {X:Nat->Rs} {big:Bool} (hX:∀ j,Tr T (X j)) (k:Nat):Tr T (jG L X big k):=by
 unfold jG
 cases hp:tyZ L X big k with
 | error e=>exact Tr.err e
 | ok p =>
  obtain ⟨x,m⟩:=p;have h1:=B2U hT hL hX k x m hp;show Tr T (if isS L m [42]=true then _ else if isS L m [43]=true then _ else if isS L m [63]=true then _ else _);split
  · exact Tr.ok (TxA.one (Nat.zero_le _) h1)
  split
  · exact Tr.ok (TxA.one (Nat.zero_le _) h1)
  split
  · exact Tr.ok (TxA.one (Nat.zero_le _) h1)
  · exact Tr.ok h1
theorem A6C {T:Nat} (hT:26<=T) {L:List Tok} (hL:∀ t ∈ L,Tk T t) {X:Nat->Rs} {big:Bool} (hX:∀ j,Tr T (X j)) (k:Nat):Tr T (preO L X big k):=by
 have hS:=B6n (big:=big) hT hL hX;unfold preO;split
 · exact (hS (k + 1)).kid (Nat.zero_le _)
 split
 · exact (hS (k + 1)).kid (Nat.zero_le _)
 split
 ·
  cases hp:jG L X big (k + 1) with
  | error e=>exact Tr.err e
  | ok p =>
   obtain ⟨x,m⟩:=p;have h1:=hS (k + 1) x m hp;show Tr T (if isS L m [126]=true then _ else _);split
   · exact Tr.ok (TxA.one (Nat.zero_le _) h1)
   · exact Tr.err _
 split
 ·
  split
  · exact (hS (k + 2)).kid (B3c hL k)
  · exact Tr.err _
 · exact hS k
theorem B0y {T:Nat} {c:Nat->Bool} {nx:Nat->Rs} (hf:∀ j,Tr T (nx j)):∀ (f:Nat) (A K:List Ex) (k m:Nat),(∀ x ∈ A,TxA T x)->lsL c nx f A k=.ok (K,m)->∀ x ∈ K,TxA T x
 | 0,A,K,k,m,hx,h=>by simp [lsL] at h;obtain ⟨rfl,rfl⟩:=h;exact hx
 | f + 1,A,K,k,m,hx,h=>by
  unfold lsL at h;split at h
  ·
   cases hq:nx k with
   | error e=>simp [hq] at h
   | ok p =>
    obtain ⟨x,n1⟩:=p;simp only [hq] at h;refine B0y hf f _ K n1 m (fun y hy=>?_) h;rw [List.mem_append,List.mem_singleton] at hy;rcases hy with hy | rfl
    · exact hx y hy
    · exact hf k y n1 hq
  · simp at h;obtain ⟨rfl,rfl⟩:=h;exact hx
theorem VP {T:Nat} {n:Nat} {c:Nat->Bool} {nx:Nat->Rs} {r:Rs} {op:Int} (hf:∀ j,Tr T (nx j)) (hr:Tr T r):Tr T (Ox op (lsO c n nx r)):=by
 cases r with
 | error e=>exact Tr.err e
 | ok p =>
  obtain ⟨x,m⟩:=p;show Tr T (Ox op (lsL c nx n [x] m))
  cases hl:lsL c nx n [x] m with
  | error e=>exact Tr.err e
  | ok p =>
   obtain ⟨K,m2⟩:=p;have h2:=B0y hf _ _ K m m2 (fun y hy=>by rw [List.mem_singleton] at hy;subst hy;exact hr y m rfl) hl;refine Tr.ok ?_;by_cases e:K.length=1
   · obtain ⟨y,rfl⟩:=List.length_eq_one_iff.1 e;exact h2 y (List.mem_singleton.2 rfl)
   · rw [uM e];exact TxA.list (Nat.zero_le _) h2
theorem A3D {T:Nat} (hT:26<=T) {L:List Tok} (hL:∀ t ∈ L,Tk T t):∀ d k,Tr T (exO L d k)
 | 0,k=>by
  show Tr T (chO L (lC L (preO L (fun _=>.error (0,0)) true)) k);have hp:∀ j,Tr T (preO L (fun _=>.error (0,0)) true j):=A6C hT hL fun j=>Tr.err _;have hs:∀ j,Tr T (lC L (preO L (fun _=>.error (0,0)) true) j):=fun j=>by rw [Ie];exact VP hp (hp j)
  rw [Px];exact VP (fun j=>hs (j + 1)) (hs k)
 | d + 1,k=>by
  show Tr T (chO L (lC L (preO L (exO L d) false)) k);have hp:∀ j,Tr T (preO L (exO L d) false j):=A6C hT hL fun j=>A3D hT hL d j;have hs:∀ j,Tr T (lC L (preO L (exO L d) false) j):=fun j=>by rw [Ie];exact VP hp (hp j)
  rw [Px];exact VP (fun j=>hs (j + 1)) (hs k)
theorem B8e {T:Nat} (hT:26<=T) {L:List Tok} (hL:∀ t ∈ L,Tk T t) (hn:L.length<=90000) (k:Nat):∀ x m,rdO L k=.ok (x,m)->TxA T x/\fit 90001 53 x=true:=fun x m h=>by
 unfold rdO at h
 cases hq:exO L 12 k with
 | error e=>simp [hq] at h
 | ok p =>
  obtain ⟨y,m'⟩:=p;simp only [hq] at h;split at h
  · cases h
  · obtain ⟨rfl,rfl⟩:y=x/\m'=m:=(by simpa using h);exact ⟨A3D hT hL 12 k _ _ hq,FW (M:=90001) (by omega) (by omega) 12 k _ _ hq⟩
end Go.Proofs.YthkdnehgamefiaaGreat
