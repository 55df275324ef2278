import Derived.Test.YthkdnehgamefiaaGreatHt
import Derived.Test.YthkdnehgamefiaaGreatHu
namespace Go.Proofs.YthkdnehgamefiaaGreat
set_option linter.unusedVariables false
set_option maxHeartbeats 1600000
open Go.RowKit Go.Sort
def fit (M:Nat):Nat->Ex->Bool
 | 0,_=>false
 | n + 1,x=>decide (x.kids.length<=M) && x.kids.all (fit M n)
theorem rQ {M n:Nat} {x y:Ex} (h:fit M (n + 1) x=true) {k:Nat} (hy:x.kids[k]?=some y):fit M n y=true:=by unfold fit at h;rw [Bool.and_eq_true] at h;exact List.all_eq_true.1 h.2 y (aM hy)
theorem Db {M n:Nat} {x:Ex} (h:fit M n x=true):x.kids.length<=M:=by
 cases n with
 | zero=>cases h
 | succ n =>
  unfold fit at h;rw [Bool.and_eq_true,decide_eq_true_eq] at h;exact h.1
theorem En {M:Nat}:∀ {n m:Nat} {x:Ex},fit M n x=true->n<=m->fit M m x=true
 | 0,m,x,h,_=>by cases h
 | n + 1,0,x,h,hm=>by omega
 | n + 1,m + 1,x,h,hm=>by unfold fit at h ⊢;rw [Bool.and_eq_true] at h ⊢;exact ⟨h.1,List.all_eq_true.2 fun y hy=>En (List.all_eq_true.1 h.2 y hy) (by omega)⟩
theorem aV.fit {M:Nat} {w:World}:∀ {n m:Nat} {x:Ex} {ao:Option Addr},fit M n x=true->aV w m ao x.kids->aV w n ao x.kids
 | 0,m,x,ao,h,_=>by cases h
 | n + 1,0,x,ao,h,hk=>by have h0:x.kids=[]:=hk;rw [h0];exact aV.nil _ _ _
 | n + 1,m + 1,x,ao,h,hk=>fun k y hy=>by obtain ⟨g,off,ko,kc,e,hg,c0,c1,c2,c3,c4,c5,c6,hr⟩:=hk k y hy;exact ⟨g,off,ko,kc,e,hg,c0,c1,c2,c3,c4,c5,c6,aV.fit (rQ h hy) hr⟩
theorem Bv (M:Nat) (hM:M<=90001):∀ (n:Nat) (hn:n<=60) (x:Ex) (ko:Option Addr) (kc:Nat) (w:World),fit M n x=true->aV w n ko x.kids →
  Calls Tryz.prog 113 #[exv x ko kc] w fun e w'=>e=.returned (.int .i64 (bJ n x))/\Below w.heap.size w w'
 | 0,_,x,_,_,_,h,_=>by cases h
 | n + 1,hn,x,ko,kc,w,hf,hK=>by
  have IH:=aH (fun (y:Ex) (ao:Option Addr) (c:Nat) (W:World)=>Bv M hM n (by omega) y ao c W);have HK:=aH hK;have HF:=aH hf;have hl:=Db hf;obtain ⟨m,hm⟩:∃ m,x.kids.length=m:=⟨_,rfl⟩;have HM:=aH hm;have HB0:=aH (show Below w.heap.size w (w.alloc (.cells #[.int .i64 x.op,.string x.text,.int .u64 x.s0,.int .u64 x.s1,.int .u64 x.s2,.int .u64 x.s3,.slice ko m kc] 32)) from bA _);have HO:=aH (Own.fresh w 32 [.int .i64 x.op,.string x.text,.int .u64 x.s0,.int .u64 x.s1,.int .u64 x.s2,.int .u64 x.s3,.slice ko m kc]);unfold exv;rw [hm] at hl ⊢;clear hm hK hf;go_enter Tryz.func113,Tryz.ntmps113;go_wp2_with fail
  go_loopw [3,4] (fun b3 b9 wr=>∃ k:Nat,b9=.int .i64 (k:Int)/\(k:Int)<=m/\b3=.int .i64 ((x.kids.take k).foldl (fun m y=>max m (bJ n y)) 0)/\aQ (Below w.heap.size w wr)/\aQ (Own wr w.heap.size 32 [.int .i64 x.op,.string x.text,.int .u64 x.s0,.int .u64 x.s1,.int .u64 x.s2,.int .u64 x.s3,.slice ko m kc]))
   (fun _ b9 _=>m - (intOf b9).toNat)
  case atStart=>exact ⟨0,rfl,by omega,rfl,HB0,HO⟩
  case round =>
   obtain ⟨k,rfl,hk2,rfl,HB,HO1⟩:=hrel;clear HB0 HO;have o6:=HO1.o.cell 6;simp only [List.getElem?_cons_succ,List.getElem?_cons_zero] at o6;by_cases h2:(k:Int) < m
   ·
    obtain ⟨y,hy⟩:∃ y,x.kids[k]?=some y:=⟨_,aG (by have:=HM.o;omega)⟩;obtain ⟨g,off,kk,kd,rfl,hg,c0,c1,c2,c3,c4,c5,c6,hr⟩:=HK.o k y hy;have HR:=aH hr;have HFY:=aH (rQ HF.o hy);have HT:=aH (show (x.kids.take (k + 1)).foldl (fun m y=>max m (bJ n y)) 0=max ((x.kids.take k).foldl (fun m y=>max m (bJ n y)) 0) (bJ n y) from zY (fun m y=>max m (bJ n y)) 0 x.kids hy);have hb:=aH (qM n x k);have hs:=hb.o;have hs3:=mH n y;have HB9:=aH (And.intro hs hs3);clear hr hy hs hs3 hb ;generalize hq:((x.kids.take k).foldl (fun m y=>max m (bJ n y)) 0)=q at *;have HQ:=aH hq;clear hq;have e0:=aC c0 HB.o;have e1:=aC c1 HB.o;have e2:=aC c2 HB.o;have e3:=aC c3 HB.o;have e4:=aC c4 HB.o;have e5:=aC c5 HB.o;have e6:=aC c6 HB.o;have hgr:g < wr.heap.size:=aL hg HB.o.size;clear c0 c1 c2 c3 c4 c5 c6 hg;obtain ⟨z,hz⟩:∃ z,bJ n y=z:=⟨_,rfl⟩;have HZ:=aH hz;have hbnd:=HB9.o;rw [hz] at hbnd;rw [hz] at HT;clear hz HB9;go_wp2_with fail;refine (IH.o y kk kd _ HFY.o (aV.below (HB.o) HR.o)).mono ?_;rintro e w1 ⟨rfl,hb1⟩;rw [HZ.o];have HB1:=aH (aD (HB.o) hb1);have HO2:=aH (HO1.o.under hb1 HO1.o.lt);clear o6;clear hb1 e0 e1 e2 e3 e4 e5 e6;obtain ⟨hq0,hq1,hz0,hz1⟩:0<=q/\q<=1000/\0<=z/\z<=1000:=(by omega);clear hbnd;have HT2:=aH (HT.o);clear HT;go_wp2;all_goals go_roundw
    all_goals first
     | (case rel=>exact ⟨k + 1,by go_num,by omega,by rw [HT2.o] <;> (first | rfl | (congr 1;omega)),HB1,HO2⟩)
     | skip
    all_goals (simp [intOf];omega)
   · obtain rfl:k=m:=(by omega);have HE:=aH (show bJ (n + 1) x=(x.kids.take k).foldl (fun m y=>max m (bJ n y)) 0 + 1 from by rw [<- HM.o,Eo];rfl);have hb:=qM n x k;generalize hq:((x.kids.take k).foldl (fun m y=>max m (bJ n y)) 0)=q at *;clear hq;have hqb:0<=q/\q<=1000:=(by omega);clear hb;go_wp2;go_ret;exact ⟨eF HE.o.symm,HB.o⟩
def Ft (M n:Nat) (r:Rs):Prop:=∀ x m,r=.ok (x,m)->fit M n x=true
theorem Ft.err {M n:Nat} (e:Int × Int):Ft M n (.error e):=fun x m h=>by cases h
theorem Ft.ok {M n k:Nat} {x:Ex} (h:fit M n x=true):Ft M n (.ok (x,k)):=fun y m e=>by
 obtain ⟨rfl,rfl⟩:x=y/\k=m:=by simpa using e
 exact h
theorem Ft.more {M n m:Nat} {r:Rs} (h:Ft M n r) (hm:n<=m):Ft M m r:=fun x k e=>En (h x k e) hm
theorem Em {M n:Nat} {op:Int} {t:ByteArray} {a b c d:Int}:fit M (n + 1) (.mk op t a b c d [])=true:=by unfold fit;simp [Ex.kids]
theorem Ti {M n:Nat} {op:Int} {t:ByteArray} {a b c d:Int} {x:Ex} (hM:1<=M) (h:fit M n x=true):fit M (n + 1) (.mk op t a b c d [x])=true:=by unfold fit;simp [Ex.kids,h,hM]
theorem A9w {M n:Nat} {op:Int} {t:ByteArray} {a b c d:Int} {K:List Ex} (hM:K.length<=M) (h:∀ x ∈ K,fit M n x=true):fit M (n + 1) (.mk op t a b c d K)=true:=by unfold fit;rw [Bool.and_eq_true,decide_eq_true_eq];exact ⟨hM,List.all_eq_true.2 h⟩
theorem B6M {M n:Nat} (L:List Tok) (k:Nat):Ft M (n + 1) (yX L k):=by
 unfold yX;split
 ·
  split
  ·
   split
   · exact Ft.ok Em
   · exact Ft.err _
  · exact Ft.ok Em
 · exact Ft.err _
theorem B2R {M n:Nat} {L:List Tok} {X:Nat->Rs} {big:Bool} (hX:∀ j,Ft M (n + 1) (X j)) (k:Nat):Ft M (n + 1) (tyZ L X big k):=by
 unfold tyZ;split
 · exact Ft.ok Em
 split
 · exact Ft.ok Em
 split
 · exact B6M L k
 split
 · exact Ft.ok Em
 split
 ·
  split
  · exact Ft.err _
  ·
   cases hx:X (k + 1) with
   | error e=>exact Ft.err e
   | ok p =>
    obtain ⟨x,m⟩:=p;show Ft M (n + 1) (if isS L m [41]=true then _ else _);split
    · exact Ft.ok (hX _ _ _ hx)
    · exact Ft.err _
 · exact Ft.err _
theorem Ft.kid {M n:Nat} {op:Int} {t:ByteArray} (hM:1<=M) {r:Rs} (h:Ft M n r):Ft M (n + 1) (Qh (fun e=>.mk op t 0 0 0 0 [e]) r):=by
 cases r with
 | error e=>exact Ft.err e
 | ok p =>
  obtain ⟨x,m⟩:=p;exact Ft.ok (Ti hM (h x m rfl))
theorem B6m {M n:Nat} (hM:1<=M) {L:List Tok} {X:Nat->Rs} {big:Bool} (hX:∀ j,Ft M (n + 1) (X j)) (k:Nat):Ft M (n + 2) (jG L X big k):=by
 unfold jG
 cases hp:tyZ L X big k with
 | error e=>exact Ft.err e
 | ok p =>
  obtain ⟨x,m⟩:=p;have h1:=B2R hX k x m hp;show Ft M (n + 2) (if isS L m [42]=true then _ else if isS L m [43]=true then _ else if isS L m [63]=true then _ else _);split
  · exact Ft.ok (Ti hM h1)
  split
  · exact Ft.ok (Ti hM h1)
  split
  · exact Ft.ok (Ti hM h1)
  · exact Ft.ok (En h1 (by omega))
theorem A6A {M n:Nat} (hM:1<=M) {L:List Tok} {X:Nat->Rs} {big:Bool} (hX:∀ j,Ft M (n + 1) (X j)) (k:Nat):Ft M (n + 3) (preO L X big k):=by
 have hS:=B6m (big:=big) (L:=L) hM hX;unfold preO;split
 · exact (hS (k + 1)).kid hM
 split
 · exact (hS (k + 1)).kid hM
 split
 ·
  cases hp:jG L X big (k + 1) with
  | error e=>exact Ft.err e
  | ok p =>
   obtain ⟨x,m⟩:=p;have h1:=hS (k + 1) x m hp;show Ft M (n + 3) (if isS L m [126]=true then _ else _);split
   · exact Ft.ok (Ti hM h1)
   · exact Ft.err _
 split
 ·
  split
  · exact (hS (k + 2)).kid hM
  · exact Ft.err _
 · exact (hS k).more (by omega)
theorem B0x {M n:Nat} {L:List Tok} {c:Nat->Bool} {nx:Nat->Rs} (hc:∀ j,c j=true->j < L.length) (hb:∀ j,Bd L j (nx j)) (hf:∀ j,Ft M n (nx j)):∀ (f:Nat) (A K:List Ex) (k m:Nat),A.length<=k->k<=L.length->(∀ x ∈ A,fit M n x=true)->lsL c nx f A k=.ok (K,m)->K.length<=L.length/\∀ x ∈ K,fit M n x=true
 | 0,A,K,k,m,hA,hk,hx,h=>by simp [lsL] at h;obtain ⟨rfl,rfl⟩:=h;exact ⟨by omega,hx⟩
 | f + 1,A,K,k,m,hA,hk,hx,h=>by
  unfold lsL at h;split at h
  ·
   cases hq:nx k with
   | error e=>simp [hq] at h
   | ok p =>
    obtain ⟨x,n1⟩:=p;have h1:=hb k x n1 hq;simp only [hq] at h;refine B0x hc hb hf f _ K n1 m (by rw [List.length_append];simp;omega) h1.2 (fun y hy=>?_) h;rw [List.mem_append,List.mem_singleton] at hy;rcases hy with hy | rfl
    · exact hx y hy
    · exact hf k y n1 hq
  · simp at h;obtain ⟨rfl,rfl⟩:=h;exact ⟨by omega,hx⟩
theorem VO {M n:Nat} {L:List Tok} {c:Nat->Bool} {nx:Nat->Rs} {k:Nat} {r:Rs} {op:Int} (hM:L.length<=M) (hc:∀ j,c j=true->j < L.length) (hb:∀ j,Bd L j (nx j)) (hf:∀ j,Ft M n (nx j)) (hr:Bd L k r) (hr2:Ft M n r):Ft M (n + 1) (Ox op (lsO c (L.length + 1) nx r)):=by
 cases r with
 | error e=>exact Ft.err e
 | ok p =>
  obtain ⟨x,m⟩:=p;show Ft M (n + 1) (Ox op (lsL c nx (L.length + 1) [x] m))
  cases hl:lsL c nx (L.length + 1) [x] m with
  | error e=>exact Ft.err e
  | ok p =>
   obtain ⟨K,m2⟩:=p;have h1:=hr x m rfl;have h2:=B0x hc hb hf _ _ K m m2 (by show 1<=m;omega) h1.2 (fun y hy=>by rw [List.mem_singleton] at hy;subst hy;exact hr2 y m rfl) hl;refine Ft.ok ?_;by_cases e:K.length=1
   · obtain ⟨y,rfl⟩:=List.length_eq_one_iff.1 e;exact En (h2.2 y (List.mem_singleton.2 rfl)) (by omega)
   · rw [uM e];exact A9w (by omega) h2.2
theorem FW {M:Nat} {L:List Tok} (hM:1<=M) (hL:L.length<=M):∀ d k,Ft M (5 + 4 * d) (exO L d k)
 | 0,k=>by
  show Ft M 5 (chO L (lC L (preO L (fun _=>.error (0,0)) true)) k);have hp:∀ j,Ft M 3 (preO L (fun _=>.error (0,0)) true j):=A6A (n:=0) hM fun j=>Ft.err _;have bp:∀ j,Bd L j (preO L (fun _=>.error (0,0)) true j):=Dk fun j=>Bd.err _;have hs:∀ j,Ft M 4 (lC L (preO L (fun _=>.error (0,0)) true) j):=fun j=>by rw [Ie];exact VO (n:=3) hL (fun j h=>Rh h) bp hp (bp j) (hp j)
  have bs:∀ j,Bd L j (lC L (preO L (fun _=>.error (0,0)) true) j):=Og bp;rw [Px];exact VO (n:=4) hL (fun j h=>xB h) (fun j=>(bs (j + 1)).low (by omega)) (fun j=>hs (j + 1)) (bs k) (hs k)
 | d + 1,k=>by
  show Ft M (5 + 4 * (d + 1)) (chO L (lC L (preO L (exO L d) false)) k);have hp:∀ j,Ft M (4 + 4 * d + 3) (preO L (exO L d) false j):=A6A (n:=4 + 4 * d) hM fun j=>(FW hM hL d j).more (by omega);have bp:∀ j,Bd L j (preO L (exO L d) false j):=Dk (Py d);have hs:∀ j,Ft M (4 + 4 * d + 4) (lC L (preO L (exO L d) false) j):=fun j=>by rw [Ie];exact VO (n:=4 + 4 * d + 3) hL (fun j h=>Rh h) bp hp (bp j) (hp j)
  have bs:∀ j,Bd L j (lC L (preO L (exO L d) false) j):=Og bp;rw [Px];exact (VO (n:=4 + 4 * d + 4) hL (fun j h=>xB h) (fun j=>(bs (j + 1)).low (by omega)) (fun j=>hs (j + 1)) (bs k) (hs k)).more (by omega)
theorem A1a (X:Nat->Rs) (big:Bool) (dp:Int) (hd:0<=dp/\dp<=12) (hbig:big=decide (12<=dp)) (g:Nat) (lo:Option Addr) (lc:Nat) (L:List Tok) (hn:(L.length:Int)<=90000) (htx:∀ t ∈ L,t.tx.size<=1000000)
  (hXB:∀ j,Bd L j (X j)) (HX:big=false->∀ (m:Nat),m<=L.length->∀ W,Rd W g lo lc L m none->Calls Tryz.prog 112 #[.pointer (some ⟨g,0,none⟩),.int .i64 (dp + 1)] W fun e w'=>Out W g lo lc L (X m) e w')
  (k:Nat) (hk:k<=L.length) (w:World) (h:Rd w g lo lc L k none) :
  Calls Tryz.prog 112 #[.pointer (some ⟨g,0,none⟩),.int .i64 dp] w fun e w'=>Out w g lo lc L (chO L (lC L (preO L X big)) k) e w' :=
 B6H (lC L (preO L X big)) dp g lo lc L k hn hk
  (fun k1 hk1 W1 h1=>B8i (preO L X big) dp g lo lc L k1 hn hk1
   (fun k2 hk2 W2 h2=>B8g X big dp g lo lc L k2 hn hk2 htx
    (fun k3 hk3 W3 h3=>B8j X big dp g lo lc L k3 hn (fun x m e=>(A1L hXB k3 x m e).2)
     (fun W4 h4=>B6I X big dp hd hbig g lo lc L k3 hn hk3 htx (fun j x m hj e=>(hXB j x m e).2) HX W4 h4) W3 h3)
    (fun m x n e=>(A6Y hXB m x n e).2) W2 h2)
   (Dk hXB) W1 h1)
  (Og (Dk hXB)) w h
theorem B2c (g:Nat) (lo:Option Addr) (lc:Nat) (L:List Tok) (hn:(L.length:Int)<=90000) (htx:∀ t ∈ L,t.tx.size<=1000000):∀ (d:Nat) (hd:d<=12) (k:Nat) (hk:k<=L.length) (w:World) (h:Rd w g lo lc L k none),
  Calls Tryz.prog 112 #[.pointer (some ⟨g,0,none⟩),.int .i64 (12 - (d:Int))] w fun e w'=>Out w g lo lc L (exO L d k) e w'
 | 0,hd,k,hk,w,h=>A1a (fun _=>.error (0,0)) true (12 - ((0:Nat):Int)) (by omega) (by simp) g lo lc L hn htx (fun j=>Bd.err _) (fun h=>by cases h) k hk w h
 | d + 1,hd,k,hk,w,h=>A1a (exO L d) false (12 - ((d + 1:Nat):Int)) (by omega) (by simp;omega) g lo lc L hn htx (Py d)
   (fun _ m hm W hW=>by
    have:=B2c g lo lc L hn htx d (by omega) m hm W hW;rw [show (12 - ((d + 1:Nat):Int) + 1)=12 - (d:Int) by omega]
    exact this) k hk w h
def made (w:World) (os:List Obj):World:=os.foldl World.alloc w
theorem kC:∀ (os:List Obj) (w:World) (i:Nat) (t:TypeId) (cs:List Value),os[i]?=some (.cells cs.toArray t)->Own (made w os) (w.heap.size + i) t cs
 | [],w,i,t,cs,h=>by simp at h
 | o :: os,w,0,t,cs,h=>by
  simp at h;subst h;have key:∀ (os:List Obj) (W:World),Own W w.heap.size t cs->Own (made W os) w.heap.size t cs:=by
   intro os
   induction os with
   | nil=>intro W h;exact h
   | cons o os ih=>intro W h;exact ih _ (h.on_alloc o)
  exact key os _ (Own.fresh w t cs)
 | o :: os,w,i + 1,t,cs,h=>by have g:=kC os (w.alloc o) i t cs (by simpa using h);rw [show (w.alloc o).heap.size + i=w.heap.size + (i + 1) by simp;omega] at g;exact g
theorem lQ (w:World):∀ (os:List Obj) (W:World),Below w.heap.size w W->Below w.heap.size w (made W os)
 | [],W,h=>h
 | o :: os,W,h=>lQ w os _ (h.alloc h.size o)
theorem But.set4 (w:World) (g:Nat) (u0 u1 u2 u3:Value):But (fun j=>j=g) w (set4 w g u0 u1 u2 u3) :=
 ((((But.refl (fun j=>j=g) w).setCell (p:=⟨g,0,none⟩) (fun _=>rfl) u0).setCell (p:=⟨g,1,none⟩) (fun _=>rfl) u1).setCell (p:=⟨g,2,none⟩) (fun _=>rfl) u2).setCell (p:=⟨g,3,none⟩) (fun _=>rfl) u3
def rdO (L:List Tok) (k:Nat):Rs:=match exO L 12 k with
 | .error e=>.error e
 | .ok (x,m)=>if 12 < bJ 60 x then jW L 3 k else .ok (x,m)
def RdE (D:Nat) (r:Rs) (e:Ending) (w':World):Prop:=match r with
 | .ok (x,m)=>∃ ko kc n,e=.returned (.tuple #[exv x ko kc,.int .i64 (m:Int),.agg #[.int .i64 0,.int .i64 0,.int .i64 0,.int .i64 0]])/\dD w' D n ko x.kids
 | .error f=>e=.returned (.tuple #[exv ex0 none 0,.int .i64 0,.agg #[.int .i64 f.1,.int .i64 f.2,.int .i64 0,.int .i64 0]])/\f.1 ≠ 0
def rdQ (L:List Tok) (k:Nat):Rs->Rs
 | .error e=>.error e
 | .ok (x,m)=>if 12 < bJ 60 x then jW L 3 k else .ok (x,m)
set_option maxRecDepth 1000000 in
theorem Qt (lo:Option Addr) (lc:Nat) (L:List Tok) (k:Nat) (hn:(L.length:Int)<=90000) (hk:k < L.length) (htx:∀ t ∈ L,t.tx.size<=1000000) (w:World) (hT:sO w lo L) :
  Calls Tryz.prog 82 #[.slice lo L.length lc,.int .i64 (k:Int)] w fun e w'=>RdE w.heap.size (rdO L k) e w'/\Below w.heap.size w w':=by
 have HTX:=aH htx;obtain ⟨n,hnn⟩:∃ n,L.length=n:=⟨_,rfl⟩;have HLN:=aH hnn;obtain ⟨OS,hOS⟩:∃ OS:List Obj,OS=[.cells #[.int .i64 0,.string ⟨#[]⟩,.int .u64 0,.int .u64 0,.int .u64 0,.int .u64 0,.slice none 0 0] 32,.cells #[.int .i64 0,.int .i64 0,.int .i64 0,.int .i64 0] 44,.cells #[.slice lo n lc,.int .i64 (k:Int),.int .i64 0,.int .i64 0,.int .i64 0,.int .i64 0] 153]:=⟨_,rfl⟩;obtain ⟨A,hA⟩:∃ A,w.heap.size=A:=⟨_,rfl⟩;obtain ⟨F,hF⟩:∃ F,A + 1=F:=⟨_,rfl⟩;obtain ⟨g,hg⟩:∃ g,F + 1=g:=⟨_,rfl⟩;have HN:=aH (show A + 1=F/\F + 1=g/\w.heap.size=A from ⟨hF,hg,hA⟩);have HB:=aH (show Below A w (made w OS) by rw [<- hA];exact lQ w OS w (Below.refl _ _));have HA:=aH (show Own (made w OS) A 32 [.int .i64 0,.string ⟨#[]⟩,.int .u64 0,.int .u64 0,.int .u64 0,.int .u64 0,.slice none 0 0] by rw [<- hA];exact kC OS w 0 _ _ (by rw [hOS];rfl));have HF:=aH (show Own (made w OS) F 44 [.int .i64 0,.int .i64 0,.int .i64 0,.int .i64 0] by rw [<- hF,<- hA];exact kC OS w 1 _ _ (by rw [hOS];rfl))
 have HG:=aH (show Rd (made w OS) g lo lc L k none from by
  refine ⟨?_,hT.below (lQ w OS w (Below.refl _ _)),fun a e=>?_⟩
  · rw [hnn,<- hg,<- hF,<- hA];exact kC OS w 2 _ _ (by rw [hOS];rfl)
  ·
   obtain ⟨b,off,h1,h2,-⟩:=hT k L[k] (aG hk);rw [h1] at e;injection e with e;subst e;show b ≠ g
   omega)
 have HX:=aH (fun (W:World) (hW:Rd W g lo lc L k none)=>show Calls Tryz.prog 112 #[.pointer (some ⟨g,0,none⟩),.int .i64 0] W fun e w'=>Out W g lo lc L (exO L 12 k) e w' from B2c g lo lc L hn htx 12 (Nat.le_refl _) k (Nat.le_of_lt hk) W hW);have HFL:=aH (fun (W:World) (hW:Rd W g lo lc L k none)=>show Calls Tryz.prog 114 #[.pointer (some ⟨g,0,none⟩),.int .i64 3] W fun e w'=>e=.returned (.agg #[.int .i64 0,.string ⟨#[]⟩,.int .u64 0,.int .u64 0,.int .u64 0,.int .u64 0,.slice none 0 0])/\But (fun j=>j=g) W w'/\Rd w' g lo lc L k (some (3,((tkA L k).pos:Int))) from DI 3 g lo lc L k (by omega) (by omega) W hW);have HSP:=aH (show rdO L k=rdQ L k (exO L 12 k) from rfl);have HBD:=aH (Py (L:=L) 12 k);have HFT:=aH (FW (M:=90001) (L:=L) (by omega) (by omega) 12 k);have hW:((w.alloc (.cells #[.int .i64 0,.string ⟨#[]⟩,.int .u64 0,.int .u64 0,.int .u64 0,.int .u64 0,.slice none 0 0] 32)).alloc (.cells #[.int .i64 0,.int .i64 0,.int .i64 0,.int .i64 0] 44)).alloc (.cells #[.slice lo n lc,.int .i64 (k:Int),.int .i64 0,.int .i64 0,.int .i64 0,.int .i64 0] 153)=made w OS:=by rw [hOS];rfl
 have k0:decide ((k:Int) < 0)=false:=aF (by omega);have k1:decide ((n:Int)<=k)=false:=aF (by omega);have k1n:decide (n<=k)=false:=aF (by omega);rw [hnn];generalize exO L 12 k=r at *;generalize rdO L k=RES at *;clear hOS hT hk hnn htx;go_enter Tryz.func82,Tryz.ntmps82;go_upto_region 4 with fail;try rw [hA]
 clear hA hF hg hW;generalize made w OS=w1 at *;go_wp2_with fail;refine (HX.o _ HG.o).mono ?_;rintro e w2 ⟨hbu,X2,ko,kc,rfl,hq⟩;unfold exv;have HA2:=aH ((HA.o.but hbu (by have:=HN.o;omega)).on_alloc (.cells #[.int .i64 X2.op,.string X2.text,.int .u64 X2.s0,.int .u64 X2.s1,.int .u64 X2.s2,.int .u64 X2.s3,.slice ko X2.kids.length kc] 32));have HF2:=aH ((HF.o.but hbu (by have:=HN.o;omega)).on_alloc (.cells #[.int .i64 X2.op,.string X2.text,.int .u64 X2.s0,.int .u64 X2.s1,.int .u64 X2.s2,.int .u64 X2.s3,.slice ko X2.kids.length kc] 32));have HB2:=aH ((HB.o.trans (hbu.below (B:=A) (by have:=HG.o.1.lt;have:=HN.o;omega) (fun j hj=>by have:=HN.o;omega))).alloc (by have:=HG.o.1.lt;have:=hbu.size;have:=HN.o;omega) (.cells #[.int .i64 X2.op,.string X2.text,.int .u64 X2.s0,.int .u64 X2.s1,.int .u64 X2.s2,.int .u64 X2.s3,.slice ko X2.kids.length kc] 32));have HQ2:=aH (show jU w g lo lc L r w1.heap.size X2 ko (w2.alloc (.cells #[.int .i64 X2.op,.string X2.text,.int .u64 X2.s0,.int .u64 X2.s1,.int .u64 X2.s2,.int .u64 X2.s3,.slice ko X2.kids.length kc] 32)) from jU.below hq (bA _));have HE2:=aH (Own.fresh w2 32 [.int .i64 X2.op,.string X2.text,.int .u64 X2.s0,.int .u64 X2.s1,.int .u64 X2.s2,.int .u64 X2.s3,.slice ko X2.kids.length kc]);have HS2:=aH (show g < w1.heap.size/\w1.heap.size<=w2.heap.size from ⟨HG.o.1.lt,hbu.size⟩);clear hbu hq HA HF HG HB HX;go_upto_region 5 with fail;generalize w2.alloc _=w3 at *;generalize w2.heap.size=E at *
 cases r
 case error f =>
  obtain ⟨hf,kf,hR⟩:=HQ2.o;have HD2:=aH hR;have HNF:=aH hf;have HE:=aH (show RES=.error f from HSP.o);clear hR hf HQ2 HSP HBD HFT;obtain ⟨a0,a1,a2,a3,a4,a5,a6,e0,e1,e2,e3,e4,e5,e6⟩:=HA2.o.seven2;have al:=HA2.o.lt;obtain ⟨b0,b1,b2,b3,d0,d1,d2,d3⟩:=HF2.o.four;have bl:=HF2.o.lt;have ne1:¬ A=g:=by have:=HN.o;omega
  have ne2:¬ g=A:=by have:=HN.o;omega
  have ne3:¬ A=F:=by have:=HN.o;omega
  have ne4:¬ F=A:=by have:=HN.o;omega
  have ne5:¬ F=g:=by have:=HN.o;omega
  have ne6:¬ g=F:=by have:=HN.o;omega
  obtain ⟨c0,c1,c2,c3,c4,c5,cg⟩:=HD2.o.1.six_r;simp only [fE,fA] at c2 c3;have ef:(f.1 == 0)=false:=aN.2 HNF.o;have ef2:¬ f.1=0:=HNF.o;go_wp2_with fail;go_region;go_wp2;rw [aU,aW];have HFA:=(((fZ (p7 HA2.o))).but (But.set4 _ F (.int .i64 f.1) (.int .i64 f.2) (.int .i64 0) (.int .i64 0)) ne3).on_drew;have HFF:=((HF2.o.but (fZ (But.set7 _ A)) ne4).put4 (u0:=.int .i64 f.1) (u1:=.int .i64 f.2) (u2:=.int .i64 0) (u3:=.int .i64 0)).on_drew;have HBB:=(aR (bS HB2.o (Nat.le_refl _) (.int .i64 0) (.string ⟨#[]⟩) (.int .u64 0) (.int .u64 0) (.int .u64 0) (.int .u64 0) (.slice none 0 0)) (g:=F) (by have:=HN.o;omega) (.int .i64 f.1) (.int .i64 f.2) (.int .i64 0) (.int .i64 0)).drew;have HUU:=(((But.refl (fun j=>j=A\/j=F) w3).trans (fZ (But.set7 w3 A)) (fun j _ h=>.inl h)).trans (But.set4 _ F (.int .i64 f.1) (.int .i64 f.2) (.int .i64 0) (.int .i64 0)) (fun j _ h=>.inr h)).drew;clear a0 a1 a2 a3 a4 a5 a6 e0 e1 e2 e3 e4 e5 e6 al b0 b1 b2 b3 d0 d1 d2 d3 bl c0 c1 c2 c3 c4 c5 cg;generalize World.drew (set4 (bI _ _ _ _ _ _ _ _ _) F _ _ _ _)=w9 at *;obtain ⟨z0,z1,z2,z3,z4,z5,z6⟩:=HFA.seven;obtain ⟨y0,y1,y2,y3,-⟩:=HFF.four;refine bodyPost_ret (by simp [results,Tryz.results82,go_sem,z0,z1,z2,z3,z4,z5,z6,y0,y1,y2,y3];rfl) rfl ?_;rw [HE.o,HN.o.2.2];exact ⟨⟨rfl,HNF.o⟩,HBB⟩
 case ok pq =>
  obtain ⟨x,m⟩:=pq;obtain ⟨hR,hx,n2,hE2⟩:=HQ2.o;subst hx;have hml:=HBD.o x m rfl;have hfit:fit 90001 60 x=true:=En (HFT.o x m rfl) (by omega);have HDE:=aH (Bv 90001 (by omega) 60 (by omega) x ko kc w3 hfit (aV.fit hfit hE2.hask));have HD2:=aH hR;have HT2:=aH hE2;obtain ⟨dz,hdz⟩:∃ dz,bJ 60 x=dz:=⟨_,rfl⟩;have HSQ:=aH (show RES=if 12 < dz then jW L 3 k else .ok (x,m) from by rw [HSP.o,<- hdz];rfl);rw [hdz] at HDE;obtain ⟨c0,c1,c2,c3,c4,c5,cg⟩:=hR.1.six_r;have c2':w3.cell? ⟨g,2,none⟩=some (.int .i64 0):=c2;obtain ⟨m0,m1,m2,m3,m4,m5,m6,-⟩:=HE2.o.seven2;have ml:=HE2.o.lt;unfold exv at HDE;clear hdz hfit hR hE2 HQ2 HSP HBD HFT c2;go_wp2_with fail;refine HDE.o.mono ?_;rintro e w4 ⟨rfl,hb4⟩;have HA4:=aH (HA2.o.under hb4 HA2.o.lt);have HF4:=aH (HF2.o.under hb4 HF2.o.lt);have HB4:=aH (HB2.o.trans (hb4.mono (by have:=HA2.o.lt;omega)));have HD4:=aH (HD2.o.below hb4);have HE4:=aH (HE2.o.under hb4 HE2.o.lt);have HT4:=aH (dD.but (But.of_below (S:=fun _=>False) hb4) (fun _ h=>h.elim) HT2.o);clear hb4 HA2 HF2 HB2 HD2 HE2 HT2 HDE c0 c1 c2' c3 c4 c5 cg m0 m1 m2 m3 m4 m5 m6 ml;by_cases h12:12 < dz
  ·
   have HE:=aH (show RES=jW L 3 k from HSQ.o.trans (if_pos h12));obtain ⟨c0,c1,c2,c3,c4,c5,cg⟩:=HD4.o.1.six_r;have cf:w4.frozen? ⟨g,1,none⟩=false:=HD4.o.1.thaw 1;have H5:=aH (HD4.o.at1 k (.int .i64 (k:Int)) rfl);have HA5:=aH (HA4.o.off (p:=⟨g,1,none⟩) (by have:=HN.o;show A ≠ g;omega) (.int .i64 (k:Int)));have HF5:=aH (HF4.o.off (p:=⟨g,1,none⟩) (by have:=HN.o;show F ≠ g;omega) (.int .i64 (k:Int)));have HB5:=aH (HB4.o.setCell (p:=⟨g,1,none⟩) (by have:=HN.o;show A<=g;omega) (.int .i64 (k:Int)));go_upto_region 7 with fail;clear c0 c1 c2 c3 c4 c5 cg cf HA4 HF4 HB4 HD4 HE4 HT4;generalize World.setCell w4 _ _=w5 at *;go_wp2_with fail;refine (HFL.o _ H5.o).mono ?_;rintro e w6 ⟨rfl,hbu,hrd⟩;have HA6:=aH (HA5.o.but hbu (by have:=HN.o;omega));have HF6:=aH (HF5.o.but hbu (by have:=HN.o;omega));have HB6:=aH (HB5.o.trans (hbu.below (B:=A) (by have:=HA5.o.lt;omega) (fun j hj=>by have:=HN.o;omega)));have HD6:=aH hrd;have HNF:=aH (show (3:Int) ≠ 0 by decide);clear hbu hrd HA5 HF5 HB5 H5;obtain ⟨a0,a1,a2,a3,a4,a5,a6,e0,e1,e2,e3,e4,e5,e6⟩:=HA6.o.seven2;have al:=HA6.o.lt;obtain ⟨b0,b1,b2,b3,d0,d1,d2,d3⟩:=HF6.o.four;have bl:=HF6.o.lt;have ne1:¬ A=g:=(by have:=HN.o;omega);have ne2:¬ g=A:=(by have:=HN.o;omega);have ne3:¬ A=F:=(by have:=HN.o;omega);have ne4:¬ F=A:=(by have:=HN.o;omega);have ne5:¬ F=g:=(by have:=HN.o;omega);have ne6:¬ g=F:=(by have:=HN.o;omega);obtain ⟨c0,c1,c2,c3,c4,c5,cg⟩:=HD6.o.1.six_r;simp only [fE,fA] at c2 c3
   skip
   go_wp2_with fail;go_region;go_wp2;rw [aU,aW];have HFA:=(((fZ (p7 HA6.o))).but (But.set4 _ F (.int .i64 3) (.int .i64 ((tkA L k).pos:Int)) (.int .i64 0) (.int .i64 0)) ne3).on_drew;have HFF:=((HF6.o.but (fZ (But.set7 _ A)) ne4).put4 (u0:=.int .i64 3) (u1:=.int .i64 ((tkA L k).pos:Int)) (u2:=.int .i64 0) (u3:=.int .i64 0)).on_drew;have HBB:=(aR (bS HB6.o (Nat.le_refl _) (.int .i64 0) (.string ⟨#[]⟩) (.int .u64 0) (.int .u64 0) (.int .u64 0) (.int .u64 0) (.slice none 0 0)) (g:=F) (by have:=HN.o;omega) (.int .i64 3) (.int .i64 ((tkA L k).pos:Int)) (.int .i64 0) (.int .i64 0)).drew;have HUU:=(((But.refl (fun j=>j=A\/j=F) w6).trans (fZ (But.set7 w6 A)) (fun j _ h=>.inl h)).trans (But.set4 _ F (.int .i64 3) (.int .i64 ((tkA L k).pos:Int)) (.int .i64 0) (.int .i64 0)) (fun j _ h=>.inr h)).drew;clear a0 a1 a2 a3 a4 a5 a6 e0 e1 e2 e3 e4 e5 e6 al b0 b1 b2 b3 d0 d1 d2 d3 bl c0 c1 c2 c3 c4 c5 cg;generalize World.drew (set4 (bI _ _ _ _ _ _ _ _ _) F _ _ _ _)=w9 at *;obtain ⟨z0,z1,z2,z3,z4,z5,z6⟩:=HFA.seven;obtain ⟨y0,y1,y2,y3,-⟩:=HFF.four;refine bodyPost_ret (by simp [results,Tryz.results82,go_sem,z0,z1,z2,z3,z4,z5,z6,y0,y1,y2,y3];rfl) rfl ?_;rw [HE.o,HN.o.2.2];exact ⟨⟨rfl,HNF.o⟩,HBB⟩
  · have HE:=aH (show RES=.ok (x,m) from HSQ.o.trans (if_neg h12));have h12':decide (12 < dz)=false:=aF h12;have ne7:¬ A=E:=(by have:=HN.o;have:=HS2.o;omega);have ne8:¬ E=A:=(by have:=HN.o;have:=HS2.o;omega);have ne9:¬ F=E:=(by have:=HN.o;have:=HS2.o;omega);have neA:¬ E=F:=(by have:=HN.o;have:=HS2.o;omega);obtain ⟨a0,a1,a2,a3,a4,a5,a6,e0,e1,e2,e3,e4,e5,e6⟩:=HA4.o.seven2;have al:=HA4.o.lt;obtain ⟨b0,b1,b2,b3,d0,d1,d2,d3⟩:=HF4.o.four;have bl:=HF4.o.lt;have ne1:¬ A=g:=(by have:=HN.o;omega);have ne2:¬ g=A:=(by have:=HN.o;omega);have ne3:¬ A=F:=(by have:=HN.o;omega);have ne4:¬ F=A:=(by have:=HN.o;omega);have ne5:¬ F=g:=(by have:=HN.o;omega);have ne6:¬ g=F:=(by have:=HN.o;omega);obtain ⟨c0,c1,c2,c3,c4,c5,cg⟩:=HD4.o.1.six_r;simp only [fE,fA] at c2 c3;obtain ⟨m0,m1,m2,m3,m4,m5,m6,-⟩:=HE4.o.seven2;have ml:=HE4.o.lt;go_wp2_with fail;go_region;go_wp2;rw [aU,aW];have HFA:=(((fX (p7 HA4.o) x ko kc)).but (But.set4 _ F (.int .i64 0) (.int .i64 0) (.int .i64 0) (.int .i64 0)) ne3).on_drew;have HFF:=((HF4.o.but (fX (But.set7 _ A) x ko kc) ne4).put4 (u0:=.int .i64 0) (u1:=.int .i64 0) (u2:=.int .i64 0) (u3:=.int .i64 0)).on_drew;have HBB:=(aR (bS HB4.o (Nat.le_refl _) (.int .i64 x.op) (.string x.text) (.int .u64 x.s0) (.int .u64 x.s1) (.int .u64 x.s2) (.int .u64 x.s3) (.slice ko x.kids.length kc)) (g:=F) (by have:=HN.o;omega) (.int .i64 0) (.int .i64 0) (.int .i64 0) (.int .i64 0)).drew;have HUU:=(((But.refl (fun j=>j=A\/j=F) w4).trans (fX (But.set7 w4 A) x ko kc) (fun j _ h=>.inl h)).trans (But.set4 _ F (.int .i64 0) (.int .i64 0) (.int .i64 0) (.int .i64 0)) (fun j _ h=>.inr h)).drew;clear a0 a1 a2 a3 a4 a5 a6 e0 e1 e2 e3 e4 e5 e6 al b0 b1 b2 b3 d0 d1 d2 d3 bl c0 c1 c2 c3 c4 c5 cg;generalize World.drew (set4 (bI _ _ _ _ _ _ _ _ _) F _ _ _ _)=w9 at *;obtain ⟨z0,z1,z2,z3,z4,z5,z6⟩:=HFA.seven;obtain ⟨y0,y1,y2,y3,-⟩:=HFF.four;refine bodyPost_ret (by simp [results,Tryz.results82,go_sem,z0,z1,z2,z3,z4,z5,z6,y0,y1,y2,y3];rfl) rfl ?_;rw [HE.o,HN.o.2.2];exact ⟨⟨ko,kc,n2,rfl,dD.low (by have:=HN.o;have:=HS2.o;omega) (dD.but HUU (fun j hj=>by have:=HN.o;have:=HS2.o;omega) HT4.o)⟩,HBB⟩
theorem Xu {N:Nat} {L:List Tok} (HN:∀ k,(tkA L k).kd ≠ 0->k < N) {k:Nat} {s:List UInt8} (h:isS L k s=true):k < N:=by unfold isS at h;rw [Bool.and_eq_true,beq_iff_eq] at h;exact HN k (by rw [h.1];decide)
def Be (N k:Nat) (r:Rs):Prop:=∀ x m,r=.ok (x,m)->k < m/\m<=N
theorem Be.err {N k:Nat} (e:Int × Int):Be N k (.error e):=fun x m h=>by cases h
theorem Be.ok {N k n:Nat} {x:Ex} (h:k < n) (h':n<=N):Be N k (.ok (x,n)):=fun y m e=>by
 obtain ⟨rfl,rfl⟩:x=y/\n=m:=by simpa using e
 exact ⟨h,h'⟩
theorem Be.low {N k k':Nat} {r:Rs} (h:Be N k r) (hk:k'<=k):Be N k' r:=fun x m e=>⟨by have:=(h x m e).1;omega,(h x m e).2⟩
theorem Be.map {N k:Nat} {r:Rs} {f:Ex->Ex} (h:Be N k r):Be N k (Qh f r):=by
 cases r with
 | error e=>exact Be.err e
 | ok p =>
  obtain ⟨x,m⟩:=p;exact Be.ok (h x m rfl).1 (h x m rfl).2
theorem B6K {N:Nat} {L:List Tok} (HN:∀ k,(tkA L k).kd ≠ 0->k < N) {k:Nat} (h:(tkA L k).kd=1):Be N k (yX L k):=by
 have h0:k < N:=HN _ (by rw [h];decide);unfold yX;split
 ·
  split
  ·
   split
   · rename_i h3;simp at h3;have:=HN (k + 2) (by rw [h3.1];decide);exact Be.ok (by omega) (by omega)
   · exact Be.err _
  · exact Be.ok (by omega) (by omega)
 · exact Be.err _
theorem A1M {N:Nat} {L:List Tok} (HN:∀ k,(tkA L k).kd ≠ 0->k < N) {X:Nat->Rs} {big:Bool} (hX:∀ j,Be N j (X j)) (k:Nat):Be N k (tyZ L X big k):=by
 unfold tyZ;split
 · rename_i h;have:=HN (k) (by rw [h];decide);exact Be.ok (by omega) (by omega)
 split
 · rename_i h;have:=HN (k) (by rw [h];decide);exact Be.ok (by omega) (by omega)
 split
 · rename_i h;exact B6K HN h
 split
 · rename_i h;have:=Xu HN h;exact Be.ok (by omega) (by omega)
 split
 ·
  split
  · exact Be.err _
  ·
   cases hx:X (k + 1) with
   | error e=>exact Be.err e
   | ok p =>
    obtain ⟨x,m⟩:=p;have h1:=hX (k + 1) x m hx;show Be N k (if isS L m [41]=true then _ else _);split
    · rename_i h2;have:=Xu HN h2;exact Be.ok (by omega) (by omega)
    · exact Be.err _
 · exact Be.err _
theorem B6k {N:Nat} {L:List Tok} (HN:∀ k,(tkA L k).kd ≠ 0->k < N) {X:Nat->Rs} {big:Bool} (hX:∀ j,Be N j (X j)) (k:Nat):Be N k (jG L X big k):=by
 unfold jG
 cases hp:tyZ L X big k with
 | error e=>exact Be.err e
 | ok p =>
  obtain ⟨x,m⟩:=p;have h1:=A1M HN hX k x m hp;show Be N k (if isS L m [42]=true then _ else if isS L m [43]=true then _ else if isS L m [63]=true then _ else _);split
  · rename_i h2;have:=Xu HN h2;exact Be.ok (by omega) (by omega)
  split
  · rename_i h2;have:=Xu HN h2;exact Be.ok (by omega) (by omega)
  split
  · rename_i h2;have:=Xu HN h2;exact Be.ok (by omega) (by omega)
  · exact Be.ok h1.1 h1.2
theorem WQ {N:Nat} {L:List Tok} (HN:∀ k,(tkA L k).kd ≠ 0->k < N) {X:Nat->Rs} {big:Bool} (hX:∀ j,Be N j (X j)) (k:Nat):Be N k (preO L X big k):=by
 have hS:=B6k HN (big:=big) hX;unfold preO;split
 · exact ((hS (k + 1)).low (by omega)).map
 split
 · exact ((hS (k + 1)).low (by omega)).map
 split
 ·
  cases hp:jG L X big (k + 1) with
  | error e=>exact Be.err e
  | ok p =>
   obtain ⟨x,m⟩:=p;have h1:=hS (k + 1) x m hp;show Be N k (if isS L m [126]=true then _ else _);split
   · rename_i h2;have:=Xu HN h2;exact Be.ok (by omega) (by omega)
   · exact Be.err _
 split
 ·
  split
  · exact ((hS (k + 2)).low (by omega)).map
  · exact Be.err _
 · exact hS k
theorem A6R {N:Nat} {L:List Tok} (HN:∀ k,(tkA L k).kd ≠ 0->k < N) {pre:Nat->Rs} (hp:∀ j,Be N j (pre j)):∀ (f:Nat) (A K:List Ex) (k m:Nat),k<=N->yY L pre f A k=.ok (K,m)->k<=m/\m<=N
 | 0,A,K,k,m,hk,h=>by simp [yY] at h;omega
 | f + 1,A,K,k,m,hk,h=>by
  unfold yY at h;split at h
  ·
   cases hq:pre k with
   | error e=>simp [hq] at h
   | ok p =>
    obtain ⟨x,n⟩:=p;have h1:=hp k x n hq;simp only [hq] at h;have h2:=A6R HN hp f _ K n m h1.2 h;omega
  · simp at h;omega
theorem XF {N:Nat} {L:List Tok} (HN:∀ k,(tkA L k).kd ≠ 0->k < N) {pre:Nat->Rs} (hp:∀ j,Be N j (pre j)) (k:Nat):Be N k (lC L pre k):=by
 unfold lC
 cases hq:pre k with
 | error e=>exact Be.err e
 | ok p =>
  obtain ⟨x,n⟩:=p;have h1:=hp k x n hq
  cases hl:yY L pre (L.length + 1) [x] n with
  | error e=>simp only [hl];exact Be.err e
  | ok p =>
   obtain ⟨K,m⟩:=p;have h2:=A6R HN hp _ _ K n m h1.2 hl;simp only [hl];exact Be.ok (by omega) (by omega)
theorem A9W {N:Nat} {L:List Tok} (HN:∀ k,(tkA L k).kd ≠ 0->k < N) {pre:Nat->Rs} (hp:∀ j,Be N j (pre j)):∀ (f:Nat) (A K:List Ex) (k m:Nat),k<=N->chL L pre f A k=.ok (K,m)->k<=m/\m<=N
 | 0,A,K,k,m,hk,h=>by simp [chL] at h;omega
 | f + 1,A,K,k,m,hk,h=>by
  unfold chL at h;split at h
  ·
   cases hq:pre (k + 1) with
   | error e=>simp [hq] at h
   | ok p =>
    obtain ⟨x,n⟩:=p;have h1:=hp (k + 1) x n hq;simp only [hq] at h;have h2:=A9W HN hp f _ K n m h1.2 h;omega
  · simp at h;omega
theorem A9a {N:Nat} {L:List Tok} (HN:∀ k,(tkA L k).kd ≠ 0->k < N) {pre:Nat->Rs} (hp:∀ j,Be N j (pre j)) (k:Nat):Be N k (chO L pre k):=by
 unfold chO
 cases hq:pre k with
 | error e=>exact Be.err e
 | ok p =>
  obtain ⟨x,n⟩:=p;have h1:=hp k x n hq
  cases hl:chL L pre (L.length + 1) [x] n with
  | error e=>simp only [hl];exact Be.err e
  | ok p =>
   obtain ⟨K,m⟩:=p;have h2:=A9W HN hp _ _ K n m h1.2 hl;simp only [hl];exact Be.ok (by omega) (by omega)
theorem Jg {N:Nat} {L:List Tok} (HN:∀ k,(tkA L k).kd ≠ 0->k < N):∀ d k,Be N k (exO L d k)
 | 0,k=>A9a HN (XF HN (WQ HN fun j=>Be.err _)) k
 | d + 1,k=>A9a HN (XF HN (WQ HN (Jg HN d))) k
def Oy (a b c d:Int):Bool:=decide (0<=a/\a < 18446744073709551616) && decide (0<=b/\b < 18446744073709551616) && decide (0<=c/\c < 18446744073709551616) && decide (0<=d/\d < 18446744073709551616)
theorem A9v {x:bO} (h:fits x):Oy (x.1:Int) (x.2.1:Int) (x.2.2.1:Int) (x.2.2.2:Int)=true:=by obtain ⟨h1,h2,h3,h4⟩:=h;unfold P64 at h1 h2 h3 h4;unfold Oy;rw [aT (by omega),aT (by omega),aT (by omega),aT (by omega)];rfl
def txs (T:Nat):Nat->Ex->Bool
 | 0,_=>true
 | n + 1,x=>(decide (x.text.size<=T) && Oy x.s0 x.s1 x.s2 x.s3) && x.kids.all (txs T n)
def TxA (T:Nat) (x:Ex):Prop:=∀ n,txs T n x=true
theorem TxA.text {T:Nat} {x:Ex} (h:TxA T x):x.text.size<=T:=by have:=h 1;unfold txs at this;rw [Bool.and_eq_true,Bool.and_eq_true,decide_eq_true_eq] at this;exact this.1.1
theorem TxA.sets {T:Nat} {x:Ex} (h:TxA T x):Oy x.s0 x.s1 x.s2 x.s3=true:=by have:=h 1;unfold txs at this;rw [Bool.and_eq_true,Bool.and_eq_true] at this;exact this.1.2
theorem TxA.kid {T:Nat} {x y:Ex} (h:TxA T x) (hy:y ∈ x.kids):TxA T y:=fun n=>by have:=h (n + 1);unfold txs at this;rw [Bool.and_eq_true] at this;exact List.all_eq_true.1 this.2 y hy
theorem TxA.list {T:Nat} {op:Int} {t:ByteArray} {a b c d:Int} {K:List Ex} (ht:t.size<=T) (h:∀ x ∈ K,TxA T x) (hf:Oy a b c d=true:=by rfl):TxA T (.mk op t a b c d K):=fun n=>by
 cases n with
 | zero=>rfl
 | succ n =>
  unfold txs;rw [Bool.and_eq_true,Bool.and_eq_true,decide_eq_true_eq];exact ⟨⟨ht,hf⟩,List.all_eq_true.2 fun x hx=>h x hx n⟩
theorem TxA.leaf {T:Nat} {op:Int} {t:ByteArray} {a b c d:Int} (ht:t.size<=T) (hf:Oy a b c d=true:=by rfl):TxA T (.mk op t a b c d []):=TxA.list ht (fun x hx=>absurd hx List.not_mem_nil) hf
theorem TxA.one {T:Nat} {op:Int} {t:ByteArray} {a b c d:Int} {x:Ex} (ht:t.size<=T) (h:TxA T x) (hf:Oy a b c d=true:=by rfl):TxA T (.mk op t a b c d [x]):=TxA.list ht (fun y hy=>by
 rw [List.mem_singleton] at hy;subst hy
 exact h) hf
def Tr (T:Nat) (r:Rs):Prop:=∀ x m,r=.ok (x,m)->TxA T x
theorem Tr.err {T:Nat} (e:Int × Int):Tr T (.error e):=fun x m h=>by cases h
theorem Tr.ok {T k:Nat} {x:Ex} (h:TxA T x):Tr T (.ok (x,k)):=fun y m e=>by
 obtain ⟨rfl,rfl⟩:x=y/\k=m:=by simpa using e
 exact h
theorem Ot {x:ByteArray} (h:bN x=true):x.size<=12:=by unfold bN at h;rw [Bool.and_eq_true] at h;have:=of_decide_eq_true h.2;omega
def Tk (T:Nat) (t:Tok):Prop:=t.tx.size<=T/\fits t.st
theorem B3b {T:Nat} {L:List Tok} (hL:∀ t ∈ L,Tk T t) (k:Nat):Tk T (tkA L k):=by
 unfold tkA;rw [List.getD_eq_getElem?_getD]
 cases h:L[k]? with
 | none=>exact ⟨Nat.zero_le _,nD⟩
 | some t=>exact hL t (aM h)
theorem B3c {T:Nat} {L:List Tok} (hL:∀ t ∈ L,Tk T t) (k:Nat):(tkA L k).tx.size<=T:=(B3b hL k).1
theorem B6O {T:Nat} (hT:26<=T) (L:List Tok) (k:Nat):Tr T (yX L k):=by
 unfold yX;split
 ·
  rename_i h1;have w1:=Ot h1;split
  ·
   split
   · rename_i h2;rw [Bool.and_eq_true] at h2;have w2:=Ot h2.2;refine Tr.ok (TxA.leaf ?_);have h58:(⟨#[58,58]⟩:ByteArray).size=2:=rfl;simp only [ByteArray.size_append,h58];omega
   · exact Tr.err _
  · exact Tr.ok (TxA.leaf (by omega))
 · exact Tr.err _
theorem B2U {T:Nat} (hT:26<=T) {L:List Tok} (hL:∀ t ∈ L,Tk T t) {X:Nat->Rs} {big:Bool} (hX:∀ j,Tr T (X j)) (k:Nat):Tr T (tyZ L X big k):=by
 unfold tyZ;split
 · exact Tr.ok (TxA.leaf (B3c hL k))
 split
 · exact Tr.ok (TxA.leaf (Nat.zero_le _) (A9v (B3b hL k).2))
 split
 · exact B6O hT L k
 split
 · exact Tr.ok (TxA.leaf (Nat.zero_le _))
 split
 ·
  split
  · exact Tr.err _
  ·
   cases hx:X (k + 1) with
   | error e=>exact Tr.err e
   | ok p =>
    obtain ⟨x,m⟩:=p;show Tr T (if isS L m [41]=true then _ else _);split
    · exact Tr.ok (hX _ _ _ hx)
    · exact Tr.err _
 · exact Tr.err _
theorem Tr.kid {T:Nat} {op:Int} {t:ByteArray} (ht:t.size<=T) {r:Rs} (h:Tr T r):Tr T (Qh (fun e=>.mk op t 0 0 0 0 [e]) r):=by
 cases r with
 | error e=>exact Tr.err e
 | ok p =>
  obtain ⟨x,m⟩:=p;exact Tr.ok (TxA.one ht (h x m rfl))
theorem B6n {T:Nat} (hT:26<=T) {L:List Tok} (hL:∀ t ∈ L,Tk T t) {X:Nat->Rs} {big:Bool} (hX:∀ j,Tr T (X j)) (k:Nat):Tr T (jG L X big k):=by
 unfold jG
 cases hp:tyZ L X big k with
 | error e=>exact Tr.err e
 | ok p =>
  obtain ⟨x,m⟩:=p;have h1:=B2U hT hL hX k x m hp;show Tr T (if isS L m [42]=true then _ else if isS L m [43]=true then _ else if isS L m [63]=true then _ else _);split
  · exact Tr.ok (TxA.one (Nat.zero_le _) h1)
  split
  · exact Tr.ok (TxA.one (Nat.zero_le _) h1)
  split
  · exact Tr.ok (TxA.one (Nat.zero_le _) h1)
  · exact Tr.ok h1
theorem A6C {T:Nat} (hT:26<=T) {L:List Tok} (hL:∀ t ∈ L,Tk T t) {X:Nat->Rs} {big:Bool} (hX:∀ j,Tr T (X j)) (k:Nat):Tr T (preO L X big k):=by
 have hS:=B6n (big:=big) hT hL hX;unfold preO;split
 · exact (hS (k + 1)).kid (Nat.zero_le _)
 split
 · exact (hS (k + 1)).kid (Nat.zero_le _)
 split
 ·
  cases hp:jG L X big (k + 1) with
  | error e=>exact Tr.err e
  | ok p =>
   obtain ⟨x,m⟩:=p;have h1:=hS (k + 1) x m hp;show Tr T (if isS L m [126]=true then _ else _);split
   · exact Tr.ok (TxA.one (Nat.zero_le _) h1)
   · exact Tr.err _
 split
 ·
  split
  · exact (hS (k + 2)).kid (B3c hL k)
  · exact Tr.err _
 · exact hS k
theorem B0y {T:Nat} {c:Nat->Bool} {nx:Nat->Rs} (hf:∀ j,Tr T (nx j)):∀ (f:Nat) (A K:List Ex) (k m:Nat),(∀ x ∈ A,TxA T x)->lsL c nx f A k=.ok (K,m)->∀ x ∈ K,TxA T x
 | 0,A,K,k,m,hx,h=>by simp [lsL] at h;obtain ⟨rfl,rfl⟩:=h;exact hx
 | f + 1,A,K,k,m,hx,h=>by
  unfold lsL at h;split at h
  ·
   cases hq:nx k with
   | error e=>simp [hq] at h
   | ok p =>
    obtain ⟨x,n1⟩:=p;simp only [hq] at h;refine B0y hf f _ K n1 m (fun y hy=>?_) h;rw [List.mem_append,List.mem_singleton] at hy;rcases hy with hy | rfl
    · exact hx y hy
    · exact hf k y n1 hq
  · simp at h;obtain ⟨rfl,rfl⟩:=h;exact hx
theorem VP {T:Nat} {n:Nat} {c:Nat->Bool} {nx:Nat->Rs} {r:Rs} {op:Int} (hf:∀ j,Tr T (nx j)) (hr:Tr T r):Tr T (Ox op (lsO c n nx r)):=by
 cases r with
 | error e=>exact Tr.err e
 | ok p =>
  obtain ⟨x,m⟩:=p;show Tr T (Ox op (lsL c nx n [x] m))
  cases hl:lsL c nx n [x] m with
  | error e=>exact Tr.err e
  | ok p =>
   obtain ⟨K,m2⟩:=p;have h2:=B0y hf _ _ K m m2 (fun y hy=>by rw [List.mem_singleton] at hy;subst hy;exact hr y m rfl) hl;refine Tr.ok ?_;by_cases e:K.length=1
   · obtain ⟨y,rfl⟩:=List.length_eq_one_iff.1 e;exact h2 y (List.mem_singleton.2 rfl)
   · rw [uM e];exact TxA.list (Nat.zero_le _) h2
theorem A3D {T:Nat} (hT:26<=T) {L:List Tok} (hL:∀ t ∈ L,Tk T t):∀ d k,Tr T (exO L d k)
 | 0,k=>by
  show Tr T (chO L (lC L (preO L (fun _=>.error (0,0)) true)) k);have hp:∀ j,Tr T (preO L (fun _=>.error (0,0)) true j):=A6C hT hL fun j=>Tr.err _;have hs:∀ j,Tr T (lC L (preO L (fun _=>.error (0,0)) true) j):=fun j=>by rw [Ie];exact VP hp (hp j)
  rw [Px];exact VP (fun j=>hs (j + 1)) (hs k)
 | d + 1,k=>by
  show Tr T (chO L (lC L (preO L (exO L d) false)) k);have hp:∀ j,Tr T (preO L (exO L d) false j):=A6C hT hL fun j=>A3D hT hL d j;have hs:∀ j,Tr T (lC L (preO L (exO L d) false) j):=fun j=>by rw [Ie];exact VP hp (hp j)
  rw [Px];exact VP (fun j=>hs (j + 1)) (hs k)
theorem B8e {T:Nat} (hT:26<=T) {L:List Tok} (hL:∀ t ∈ L,Tk T t) (hn:L.length<=90000) (k:Nat):∀ x m,rdO L k=.ok (x,m)->TxA T x/\fit 90001 53 x=true:=fun x m h=>by
 unfold rdO at h
 cases hq:exO L 12 k with
 | error e=>simp [hq] at h
 | ok p =>
  obtain ⟨y,m'⟩:=p;simp only [hq] at h;split at h
  · cases h
  · obtain ⟨rfl,rfl⟩:y=x/\m'=m:=(by simpa using h);exact ⟨A3D hT hL 12 k _ _ hq,FW (M:=90001) (by omega) (by omega) 12 k _ _ hq⟩
end Go.Proofs.YthkdnehgamefiaaGreat
