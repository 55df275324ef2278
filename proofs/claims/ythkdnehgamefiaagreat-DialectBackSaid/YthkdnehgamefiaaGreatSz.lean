import Derived.Test.YthkdnehgamefiaaGreatHl
import Derived.Deep.Cut
namespace Go.Proofs.YthkdnehgamefiaaGreat
set_option linter.unusedVariables false
set_option maxHeartbeats 3200000
set_option maxRecDepth 100000
set_option maxRecDepth 1000000
open Go.RowKit Go.Sort
def Gl (f:Ex->Ex->Bool):List Ex->List Ex->Bool
 | [],[]=>true
 | a :: l,b :: m=>f a b && Gl f l m
 | _,_=>false
theorem Ak {f:Ex->Ex->Bool}:∀ {K L:List Ex},K.length=L.length->(∀ (j:Nat) (a b:Ex),K[j]?=some a->L[j]?=some b->f a b=true)->Gl f K L=true
 | [],[],_,_=>rfl
 | a :: l,b :: m,hl,h=>by unfold Gl;rw [h 0 a b rfl rfl,Ak (by simpa using hl) (fun j x y hx hy=>h (j + 1) x y (by simpa using hx) (by simpa using hy))];rfl
 | [],_ :: _,hl,_=>by simp at hl
 | _ :: _,[],hl,_=>by simp at hl
theorem Ll {f:Ex->Ex->Bool} {a b:Ex} (hf:f a b=false):∀ {j:Nat} {K L:List Ex},K[j]?=some a->L[j]?=some b->Gl f K L=false
 | 0,x :: l,y :: m,hx,hy=>by simp at hx hy;subst hx hy;unfold Gl;rw [hf];rfl
 | j + 1,x :: l,y :: m,hx,hy=>by unfold Gl;rw [Ll hf (j:=j) (by simpa using hx) (by simpa using hy)];simp
 | j,[],_,hx,_=>by simp at hx
 | j,_ :: _,[],_,hy=>by simp at hy
def Xn (x y:Ex):Bool:=x.op == y.op && x.text.toList == y.text.toList && (x.s0 == y.s0 && x.s1 == y.s1 && x.s2 == y.s2 && x.s3 == y.s3) && x.kids.length == y.kids.length
def iE:Nat->Ex->Ex->Bool
 | 0,_,_=>false
 | n + 1,x,y=>Xn x y && Gl (iE n) x.kids y.kids
theorem xO (n:Nat) (x y:Ex):iE (n + 1) x y=(Xn x y && Gl (iE n) x.kids y.kids):=rfl
theorem toList_eq {s t:ByteArray} (h:s.toList=t.toList):s=t:=by rw [ByteArray.toList_eq,ByteArray.toList_eq] at h;obtain ⟨⟨x⟩⟩:=s;obtain ⟨⟨y⟩⟩:=t;simp at h;rw [h]
theorem vO:∀ (n:Nat) (x y:Ex) (k1 k2:Option Addr) (kc lc:Nat) (w:World),grt n x=false->grt n y=false->aV w n k1 x.kids->aV w n k2 y.kids →
  Calls Tryz.prog 33 #[exv x k1 kc,exv y k2 lc] w fun e w'=>e=.returned (.bool (iE n x y))/\Below w.heap.size w w'
 | 0,x,_,_,_,_,_,_,h,_,_,_=>by cases h
 | n + 1,.mk o1 t1 a1 b1 c1 d1 K,.mk o2 t2 a2 b2 c2 d2 L,k1,k2,kc,lc,w,hf,hg,hK,hL=>by
  have IH:=aH (fun (x y:Ex) (ao bo:Option Addr) (c d:Nat) (W:World)=>vO n x y ao bo c d W);have HS:=aH (xO n (.mk o1 t1 a1 b1 c1 d1 K) (.mk o2 t2 a2 b2 c2 d2 L));have HD:=aH (show Xn (.mk o1 t1 a1 b1 c1 d1 K) (.mk o2 t2 a2 b2 c2 d2 L)=(o1 == o2 && t1.toList == t2.toList && (a1 == a2 && b1 == b2 && c1 == c2 && d1 == d2) && K.length == L.length) from rfl);have hl1:=(lY hf).1;have hl2:=(lY hg).1;have HK:=aH hK;have HL:=aH hL;have HF:=aH hf;have HG:=aH hg;unfold exv;simp only [Ex.kids,Ex.op,Ex.text,Ex.s0,Ex.s1,Ex.s2,Ex.s3] at hl1 hl2 HK HL HS ⊢;clear hK hL hf hg;obtain ⟨m,hm⟩:∃ m,K.length=m:=⟨_,rfl⟩;obtain ⟨m2,hm2⟩:∃ m2,L.length=m2:=⟨_,rfl⟩;have HM:=aH hm;have HM2:=aH hm2;rw [hm] at hl1 ⊢;rw [hm2] at hl2 ⊢;clear hm hm2;have two:∀ A B:Obj,Below w.heap.size w ((w.alloc A).alloc B):=fun A B=>(bA _).alloc (by simp) _;have H2:=aH two;clear two;by_cases e1:o1=o2
  ·
   subst e1;by_cases e2:t1.toList=t2.toList
   ·
    have e2':=toList_eq e2;clear e2;subst e2';by_cases e3:((a1=a2/\b1=b2)/\c1=c2)/\d1=d2
    ·
     obtain ⟨⟨⟨rfl,rfl⟩,rfl⟩,rfl⟩:=e3;by_cases e4:m=m2
     ·
      subst e4;have HT:=aH (show Xn (.mk o1 t1 a1 b1 c1 d1 K) (.mk o1 t1 a1 b1 c1 d1 L)=true by rw [HD.o,HM.o,HM2.o];simp);clear HD;have hb0:=H2.o (.cells #[.int .i64 o1,.string t1,.int .u64 a1,.int .u64 b1,.int .u64 c1,.int .u64 d1,.slice k1 m kc] 32) (.cells #[.int .i64 o1,.string t1,.int .u64 a1,.int .u64 b1,.int .u64 c1,.int .u64 d1,.slice k2 m lc] 32);have HO1:=aH ((Own.fresh w 32 [.int .i64 o1,.string t1,.int .u64 a1,.int .u64 b1,.int .u64 c1,.int .u64 d1,.slice k1 m kc]).on_alloc (.cells #[.int .i64 o1,.string t1,.int .u64 a1,.int .u64 b1,.int .u64 c1,.int .u64 d1,.slice k2 m lc] 32));have HO2:=aH (show Own ((w.alloc (.cells #[.int .i64 o1,.string t1,.int .u64 a1,.int .u64 b1,.int .u64 c1,.int .u64 d1,.slice k1 m kc] 32)).alloc (.cells #[.int .i64 o1,.string t1,.int .u64 a1,.int .u64 b1,.int .u64 c1,.int .u64 d1,.slice k2 m lc] 32)) (w.heap.size + 1) 32 [.int .i64 o1,.string t1,.int .u64 a1,.int .u64 b1,.int .u64 c1,.int .u64 d1,.slice k2 m lc] by have h:=Own.fresh (w.alloc (.cells #[.int .i64 o1,.string t1,.int .u64 a1,.int .u64 b1,.int .u64 c1,.int .u64 d1,.slice k1 m kc] 32)) 32 [.int .i64 o1,.string t1,.int .u64 a1,.int .u64 b1,.int .u64 c1,.int .u64 d1,.slice k2 m lc];rw [World.size_alloc] at h;exact h);have HB0:=aH hb0;clear H2 hb0;go_enter Tryz.func33,Tryz.ntmps33;go_wp2_with fail
      go_loopw [37] (fun b5 wr=>∃ k:Nat,b5=.int .i64 (k:Int)/\(k:Int)<=m/\aQ (∀ (j:Nat) (a b:Ex),j < k->K[j]?=some a->L[j]?=some b->iE n a b=true)/\aQ (Below w.heap.size w wr)/\aQ (Own wr w.heap.size 32 [.int .i64 o1,.string t1,.int .u64 a1,.int .u64 b1,.int .u64 c1,.int .u64 d1,.slice k1 m kc])/\aQ (Own wr (w.heap.size + 1) 32 [.int .i64 o1,.string t1,.int .u64 a1,.int .u64 b1,.int .u64 c1,.int .u64 d1,.slice k2 m lc]))
       (fun b5 _=>m - (intOf b5).toNat)
      case atStart=>exact ⟨0,rfl,by omega,aH (fun j a b h=>by omega),HB0,HO1,HO2⟩
      case round =>
       obtain ⟨k,rfl,hk2,HQ,HB,P1,P2⟩:=hrel;clear HB0 HO1 HO2;have p1:wr.cell? ⟨w.heap.size,6,none⟩=some (.slice k1 m kc):=P1.o.cell 6;have p2:wr.cell? ⟨w.heap.size + 1,6,none⟩=some (.slice k2 m lc):=P2.o.cell 6;by_cases h2:(k:Int) < m
       ·
        obtain ⟨y,hy⟩:∃ y,K[k]?=some y:=⟨_,aG (by have:=HM.o;omega)⟩;obtain ⟨z,hz⟩:∃ z,L[k]?=some z:=⟨_,aG (by have:=HM2.o;omega)⟩;obtain ⟨g,off,kk,kd,rfl,hg,u0,u1,u2,u3,u4,u5,u6,hr⟩:=HK.o k y hy;obtain ⟨g',off',kk',kd',rfl,hg',v0,v1,v2,v3,v4,v5,v6,hr'⟩:=HL.o k z hz;have HR:=aH hr;have HR':=aH hr';have HFY:=aH (mI HF.o hy);have HFZ:=aH (mI HG.o hz);obtain ⟨bb,hbb⟩:∃ bb,iE n y z=bb:=⟨_,rfl⟩;have HBB:=aH hbb;have HYZ:=aH (And.intro hy hz);clear hr hr' hy hz hbb;have e0:=aC u0 HB.o;have f0:=aC v0 HB.o;have e1:=aC u1 HB.o;have f1:=aC v1 HB.o;have e2:=aC u2 HB.o;have f2:=aC v2 HB.o;have e3:=aC u3 HB.o;have f3:=aC v3 HB.o;have e4:=aC u4 HB.o;have f4:=aC v4 HB.o;have e5:=aC u5 HB.o;have f5:=aC v5 HB.o;have e6:=aC u6 HB.o;have f6:=aC v6 HB.o;have hgr:g < wr.heap.size:=aL hg HB.o.size;have hgr':g' < wr.heap.size:=aL hg' HB.o.size;clear u0 u1 u2 u3 u4 u5 u6 v0 v1 v2 v3 v4 v5 v6 hg hg'
        cases bb
        ·
         have HN:=aH (show iE (n + 1) (.mk o1 t1 a1 b1 c1 d1 K) (.mk o1 t1 a1 b1 c1 d1 L)=false by rw [HS.o,Ll HBB.o HYZ.o.1 HYZ.o.2];simp);go_upto_region 6 with fail
         go_region_law ((go_simp;go_at_call 33;refine (IH.o y z kk kk' kd kd' _ HFY.o HFZ.o (aV.below (HB.o.trans ((Below.refl _ _).drew)) HR.o) (aV.below (HB.o.trans ((Below.refl _ _).drew)) HR'.o)).mono ?_;rintro e w1 ⟨rfl,hb1⟩;rw [HBB.o];have HB1:=aH (aD (HB.o.trans ((Below.refl _ _).drew)) hb1);clear hb1 e0 e1 e2 e3 e4 e5 e6 f0 f1 f2 f3 f4 f5 f6 p1 p2))
         all_goals go_wp2
         all_goals go_ret
         all_goals exact ⟨aJ HN.o.symm,HB1.o⟩
        ·
         have HQ1:aQ (∀ (j:Nat) (a b:Ex),j < k + 1->K[j]?=some a->L[j]?=some b->iE n a b=true):=aH (fun j a b hj ha hb=>by
          by_cases e:j=k
          ·
           subst e;rw [HYZ.o.1] at ha;rw [HYZ.o.2] at hb
           cases ha;cases hb
           exact HBB.o
          · exact HQ.o j a b (by omega) ha hb)
         go_upto_region 6 with fail
         go_region_law ((go_simp;go_at_call 33;refine (IH.o y z kk kk' kd kd' _ HFY.o HFZ.o (aV.below (HB.o.trans ((Below.refl _ _).drew)) HR.o) (aV.below (HB.o.trans ((Below.refl _ _).drew)) HR'.o)).mono ?_;rintro e w1 ⟨rfl,hb1⟩;rw [HBB.o];have HB1:=aH (aD (HB.o.trans ((Below.refl _ _).drew)) hb1);have Q1:=aH (P1.o.on_drew.under hb1 P1.o.on_drew.lt);have Q2:=aH (P2.o.on_drew.under hb1 P2.o.on_drew.lt);clear hb1 e0 e1 e2 e3 e4 e5 e6 f0 f1 f2 f3 f4 f5 f6 p1 p2))
         all_goals go_wp2
         all_goals go_roundw
         all_goals first
          | (case rel=>exact ⟨k + 1,by go_num,by omega,HQ1,HB1,Q1,Q2⟩)
          | skip
         all_goals (simp [intOf];omega)
       · obtain rfl:k=m:=(by omega);have HE:=aH (show iE (n + 1) (.mk o1 t1 a1 b1 c1 d1 K) (.mk o1 t1 a1 b1 c1 d1 L)=true by rw [HS.o,HT.o,Ak (by rw [HM.o,HM2.o]) (fun j a b ha hb=>HQ.o j a b (by have:=(aS.1 ha).1;have:=HM.o;omega) ha hb)];rfl);go_wp2;go_ret;exact ⟨aJ HE.o.symm,HB.o⟩
     · have HE:=aH (show iE (n + 1) (.mk o1 t1 a1 b1 c1 d1 K) (.mk o1 t1 a1 b1 c1 d1 L)=false by rw [HS.o,HD.o,HM.o,HM2.o,aN.2 e4];simp);have hne:((m:Int) != (m2:Int))=true:=(by rw [bne_iff_ne];omega);clear HS HD;go_enter Tryz.func33,Tryz.ntmps33;go_wp2;go_ret;exact ⟨aJ HE.o.symm,H2.o _ _⟩
    ·
     have HE:=aH (show iE (n + 1) (.mk o1 t1 a1 b1 c1 d1 K) (.mk o1 t1 a2 b2 c2 d2 L)=false by
      rw [HS.o,HD.o];have:(a1 == a2 && b1 == b2 && c1 == c2 && d1 == d2)=false:=by rw [Bool.eq_false_iff];intro h;apply e3;simpa [Bool.and_eq_true,and_assoc] using h
      rw [this];simp)
     clear HS HD;go_enter Tryz.func33,Tryz.ntmps33;go_wp2;go_ret;exact ⟨aJ HE.o.symm,H2.o _ _⟩
   · have HE:=aH (show iE (n + 1) (.mk o1 t1 a1 b1 c1 d1 K) (.mk o1 t2 a2 b2 c2 d2 L)=false by rw [HS.o,HD.o,aN.2 e2];simp);clear HS HD;go_enter Tryz.func33,Tryz.ntmps33;go_wp2;go_ret;exact ⟨aJ HE.o.symm,H2.o _ _⟩
  · have HE:=aH (show iE (n + 1) (.mk o1 t1 a1 b1 c1 d1 K) (.mk o2 t2 a2 b2 c2 d2 L)=false by rw [HS.o,HD.o,aN.2 e1];simp);clear HS HD;go_enter Tryz.func33,Tryz.ntmps33;go_wp2;go_ret;exact ⟨aJ HE.o.symm,H2.o _ _⟩
theorem xJ:∀ (n:Nat) (x y:Ex) (k1 k2:Option Addr) (kc lc:Nat) (w:World),grt n x=false->grt n y=false->aV w n k1 x.kids->aV w n k2 y.kids →
  Calls Tryz.prog 42 #[exv x k1 kc,exv y k2 lc] w fun e w'=>e=.returned (.bool (iE n x y))/\Below w.heap.size w w'
 | 0,x,_,_,_,_,_,_,h,_,_,_=>by cases h
 | n + 1,.mk o1 t1 a1 b1 c1 d1 K,.mk o2 t2 a2 b2 c2 d2 L,k1,k2,kc,lc,w,hf,hg,hK,hL=>by
  have IH:=aH (fun (x y:Ex) (ao bo:Option Addr) (c d:Nat) (W:World)=>xJ n x y ao bo c d W);have HS:=aH (xO n (.mk o1 t1 a1 b1 c1 d1 K) (.mk o2 t2 a2 b2 c2 d2 L));have HD:=aH (show Xn (.mk o1 t1 a1 b1 c1 d1 K) (.mk o2 t2 a2 b2 c2 d2 L)=(o1 == o2 && t1.toList == t2.toList && (a1 == a2 && b1 == b2 && c1 == c2 && d1 == d2) && K.length == L.length) from rfl);have hl1:=(lY hf).1;have hl2:=(lY hg).1;have HK:=aH hK;have HL:=aH hL;have HF:=aH hf;have HG:=aH hg;unfold exv;simp only [Ex.kids,Ex.op,Ex.text,Ex.s0,Ex.s1,Ex.s2,Ex.s3] at hl1 hl2 HK HL HS ⊢;clear hK hL hf hg;obtain ⟨m,hm⟩:∃ m,K.length=m:=⟨_,rfl⟩;obtain ⟨m2,hm2⟩:∃ m2,L.length=m2:=⟨_,rfl⟩;have HM:=aH hm;have HM2:=aH hm2;rw [hm] at hl1 ⊢;rw [hm2] at hl2 ⊢;clear hm hm2;have two:∀ A B:Obj,Below w.heap.size w ((w.alloc A).alloc B):=fun A B=>(bA _).alloc (by simp) _;have H2:=aH two;clear two;by_cases e1:o1=o2
  ·
   subst e1;by_cases e2:t1.toList=t2.toList
   ·
    have e2':=toList_eq e2;clear e2;subst e2';by_cases e3:((a1=a2/\b1=b2)/\c1=c2)/\d1=d2
    ·
     obtain ⟨⟨⟨rfl,rfl⟩,rfl⟩,rfl⟩:=e3;by_cases e4:m=m2
     ·
      subst e4;have HT:=aH (show Xn (.mk o1 t1 a1 b1 c1 d1 K) (.mk o1 t1 a1 b1 c1 d1 L)=true by rw [HD.o,HM.o,HM2.o];simp);clear HD;have hb0:=H2.o (.cells #[.int .i64 o1,.string t1,.int .u64 a1,.int .u64 b1,.int .u64 c1,.int .u64 d1,.slice k1 m kc] 32) (.cells #[.int .i64 o1,.string t1,.int .u64 a1,.int .u64 b1,.int .u64 c1,.int .u64 d1,.slice k2 m lc] 32);have HO1:=aH ((Own.fresh w 32 [.int .i64 o1,.string t1,.int .u64 a1,.int .u64 b1,.int .u64 c1,.int .u64 d1,.slice k1 m kc]).on_alloc (.cells #[.int .i64 o1,.string t1,.int .u64 a1,.int .u64 b1,.int .u64 c1,.int .u64 d1,.slice k2 m lc] 32));have HO2:=aH (show Own ((w.alloc (.cells #[.int .i64 o1,.string t1,.int .u64 a1,.int .u64 b1,.int .u64 c1,.int .u64 d1,.slice k1 m kc] 32)).alloc (.cells #[.int .i64 o1,.string t1,.int .u64 a1,.int .u64 b1,.int .u64 c1,.int .u64 d1,.slice k2 m lc] 32)) (w.heap.size + 1) 32 [.int .i64 o1,.string t1,.int .u64 a1,.int .u64 b1,.int .u64 c1,.int .u64 d1,.slice k2 m lc] by have h:=Own.fresh (w.alloc (.cells #[.int .i64 o1,.string t1,.int .u64 a1,.int .u64 b1,.int .u64 c1,.int .u64 d1,.slice k1 m kc] 32)) 32 [.int .i64 o1,.string t1,.int .u64 a1,.int .u64 b1,.int .u64 c1,.int .u64 d1,.slice k2 m lc];rw [World.size_alloc] at h;exact h);have HB0:=aH hb0;clear H2 hb0;go_enter Tryz.func42,Tryz.ntmps42;go_wp2_with fail
      go_loopw [5] (fun b5 wr=>∃ k:Nat,b5=.int .i64 (k:Int)/\(k:Int)<=m/\aQ (∀ (j:Nat) (a b:Ex),j < k->K[j]?=some a->L[j]?=some b->iE n a b=true)/\aQ (Below w.heap.size w wr)/\aQ (Own wr w.heap.size 32 [.int .i64 o1,.string t1,.int .u64 a1,.int .u64 b1,.int .u64 c1,.int .u64 d1,.slice k1 m kc])/\aQ (Own wr (w.heap.size + 1) 32 [.int .i64 o1,.string t1,.int .u64 a1,.int .u64 b1,.int .u64 c1,.int .u64 d1,.slice k2 m lc]))
       (fun b5 _=>m - (intOf b5).toNat)
      case atStart=>exact ⟨0,rfl,by omega,aH (fun j a b h=>by omega),HB0,HO1,HO2⟩
      case round =>
       obtain ⟨k,rfl,hk2,HQ,HB,P1,P2⟩:=hrel;clear HB0 HO1 HO2;have p1:wr.cell? ⟨w.heap.size,6,none⟩=some (.slice k1 m kc):=P1.o.cell 6;have p2:wr.cell? ⟨w.heap.size + 1,6,none⟩=some (.slice k2 m lc):=P2.o.cell 6;by_cases h2:(k:Int) < m
       ·
        obtain ⟨y,hy⟩:∃ y,K[k]?=some y:=⟨_,aG (by have:=HM.o;omega)⟩;obtain ⟨z,hz⟩:∃ z,L[k]?=some z:=⟨_,aG (by have:=HM2.o;omega)⟩;obtain ⟨g,off,kk,kd,rfl,hg,u0,u1,u2,u3,u4,u5,u6,hr⟩:=HK.o k y hy;obtain ⟨g',off',kk',kd',rfl,hg',v0,v1,v2,v3,v4,v5,v6,hr'⟩:=HL.o k z hz;have HR:=aH hr;have HR':=aH hr';have HFY:=aH (mI HF.o hy);have HFZ:=aH (mI HG.o hz);obtain ⟨bb,hbb⟩:∃ bb,iE n y z=bb:=⟨_,rfl⟩;have HBB:=aH hbb;have HYZ:=aH (And.intro hy hz);clear hr hr' hy hz hbb;have e0:=aC u0 HB.o;have f0:=aC v0 HB.o;have e1:=aC u1 HB.o;have f1:=aC v1 HB.o;have e2:=aC u2 HB.o;have f2:=aC v2 HB.o;have e3:=aC u3 HB.o;have f3:=aC v3 HB.o;have e4:=aC u4 HB.o;have f4:=aC v4 HB.o;have e5:=aC u5 HB.o;have f5:=aC v5 HB.o;have e6:=aC u6 HB.o;have f6:=aC v6 HB.o;have hgr:g < wr.heap.size:=aL hg HB.o.size;have hgr':g' < wr.heap.size:=aL hg' HB.o.size;clear u0 u1 u2 u3 u4 u5 u6 v0 v1 v2 v3 v4 v5 v6 hg hg'
        cases bb
        ·
         have HN:=aH (show iE (n + 1) (.mk o1 t1 a1 b1 c1 d1 K) (.mk o1 t1 a1 b1 c1 d1 L)=false by rw [HS.o,Ll HBB.o HYZ.o.1 HYZ.o.2];simp);go_upto_region 6 with fail
         go_region_law ((go_simp;go_at_call 42;refine (IH.o y z kk kk' kd kd' _ HFY.o HFZ.o (aV.below (HB.o.trans ((Below.refl _ _).drew)) HR.o) (aV.below (HB.o.trans ((Below.refl _ _).drew)) HR'.o)).mono ?_;rintro e w1 ⟨rfl,hb1⟩;rw [HBB.o];have HB1:=aH (aD (HB.o.trans ((Below.refl _ _).drew)) hb1);clear hb1 e0 e1 e2 e3 e4 e5 e6 f0 f1 f2 f3 f4 f5 f6 p1 p2))
         all_goals go_wp2
         all_goals go_ret
         all_goals exact ⟨aJ HN.o.symm,HB1.o⟩
        ·
         have HQ1:aQ (∀ (j:Nat) (a b:Ex),j < k + 1->K[j]?=some a->L[j]?=some b->iE n a b=true):=aH (fun j a b hj ha hb=>by
          by_cases e:j=k
          ·
           subst e;rw [HYZ.o.1] at ha;rw [HYZ.o.2] at hb
           cases ha;cases hb
           exact HBB.o
          · exact HQ.o j a b (by omega) ha hb)
         go_upto_region 6 with fail
         go_region_law ((go_simp;go_at_call 42;refine (IH.o y z kk kk' kd kd' _ HFY.o HFZ.o (aV.below (HB.o.trans ((Below.refl _ _).drew)) HR.o) (aV.below (HB.o.trans ((Below.refl _ _).drew)) HR'.o)).mono ?_;rintro e w1 ⟨rfl,hb1⟩;rw [HBB.o];have HB1:=aH (aD (HB.o.trans ((Below.refl _ _).drew)) hb1);have Q1:=aH (P1.o.on_drew.under hb1 P1.o.on_drew.lt);have Q2:=aH (P2.o.on_drew.under hb1 P2.o.on_drew.lt);clear hb1 e0 e1 e2 e3 e4 e5 e6 f0 f1 f2 f3 f4 f5 f6 p1 p2))
         all_goals go_wp2
         all_goals go_roundw
         all_goals first
          | (case rel=>exact ⟨k + 1,by go_num,by omega,HQ1,HB1,Q1,Q2⟩)
          | skip
         all_goals (simp [intOf];omega)
       · obtain rfl:k=m:=(by omega);have HE:=aH (show iE (n + 1) (.mk o1 t1 a1 b1 c1 d1 K) (.mk o1 t1 a1 b1 c1 d1 L)=true by rw [HS.o,HT.o,Ak (by rw [HM.o,HM2.o]) (fun j a b ha hb=>HQ.o j a b (by have:=(aS.1 ha).1;have:=HM.o;omega) ha hb)];rfl);go_wp2;go_ret;exact ⟨aJ HE.o.symm,HB.o⟩
     · have HE:=aH (show iE (n + 1) (.mk o1 t1 a1 b1 c1 d1 K) (.mk o1 t1 a1 b1 c1 d1 L)=false by rw [HS.o,HD.o,HM.o,HM2.o,aN.2 e4];simp);have hne:((m:Int) != (m2:Int))=true:=(by rw [bne_iff_ne];omega);clear HS HD;go_enter Tryz.func42,Tryz.ntmps42;go_wp2;go_ret;exact ⟨aJ HE.o.symm,H2.o _ _⟩
    ·
     have HE:=aH (show iE (n + 1) (.mk o1 t1 a1 b1 c1 d1 K) (.mk o1 t1 a2 b2 c2 d2 L)=false by
      rw [HS.o,HD.o];have:(a1 == a2 && b1 == b2 && c1 == c2 && d1 == d2)=false:=by rw [Bool.eq_false_iff];intro h;apply e3;simpa [Bool.and_eq_true,and_assoc] using h
      rw [this];simp)
     clear HS HD;go_enter Tryz.func42,Tryz.ntmps42;go_wp2;go_ret;exact ⟨aJ HE.o.symm,H2.o _ _⟩
   · have HE:=aH (show iE (n + 1) (.mk o1 t1 a1 b1 c1 d1 K) (.mk o1 t2 a2 b2 c2 d2 L)=false by rw [HS.o,HD.o,aN.2 e2];simp);clear HS HD;go_enter Tryz.func42,Tryz.ntmps42;go_wp2;go_ret;exact ⟨aJ HE.o.symm,H2.o _ _⟩
  · have HE:=aH (show iE (n + 1) (.mk o1 t1 a1 b1 c1 d1 K) (.mk o2 t2 a2 b2 c2 d2 L)=false by rw [HS.o,HD.o,aN.2 e1];simp);clear HS HD;go_enter Tryz.func42,Tryz.ntmps42;go_wp2;go_ret;exact ⟨aJ HE.o.symm,H2.o _ _⟩
end Go.Proofs.YthkdnehgamefiaaGreat
