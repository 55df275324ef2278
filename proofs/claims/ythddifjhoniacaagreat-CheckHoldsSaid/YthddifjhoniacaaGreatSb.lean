import Derived.Test.YthddifjhoniacaaGreatSa
namespace Go.Proofs.YthddifjhoniacaaGreat
set_option linter.unusedVariables false
set_option maxHeartbeats 6400000
set_option maxRecDepth 1000000
open Go.RowKit Go.Sort
theorem A9J (LD:Nx) (NU:Nat->Bool) (n k b:Nat) (L:List Nat) (R:List gX) (i:Nat) (h:L[i]?=some b) (s:Nx × Bool):eQ LD (Dy NU n k (L.drop i) ++ R) s=eQ LD ((if NU b=true then Dy NU n k (L.drop (i + 1)) else []) ++ R) (addN k (LD b) s):=by obtain ⟨h1,h2⟩:=aS.1 h;rw [List.drop_eq_getElem_cons h1,h2];rfl
theorem row_step (LD:Nx) (NU:Nat->Bool) (n k:Nat) (L:List Nat) (i:Nat) (h:L[i]?=some k) (s:Nx × Bool):eQ LD (yJ NU n (L.drop i)) s=eQ LD (Dy NU n k ((L.drop (i + 1)).drop 0) ++ yJ NU n (L.drop (i + 1))) s:=by obtain ⟨h1,h2⟩:=aS.1 h;rw [List.drop_eq_getElem_cons h1,h2];rfl
theorem B3U (gr:Gj) (a:Gv) (hg:Good gr) (E p u q C:Nat) (lo:Option Addr) (lc:Nat) (LD:Nx) (hLD:∀ j,((LD j).length:Int)<=1000/\∀ x ∈ LD j,0<=x/\x < (gr.ns.length:Int)) (n:Nat) (hn:n < gr.ns.length) (ks:List Nat) (ko:Option Addr) (kc:Nat) (hks:∀ k ∈ ks,k < gr.ns.length) (hkl:ks.length<=90001) (hkc:ks.length<=kc) (s:Nx × Bool) (w:World) (hS:Sh w E p u q C lo lc gr a LD s) (hk:nC w (fun b=>b < E) ko ks) :
  Calls Tryz.prog 45 #[.pointer (some ⟨p,0,none⟩),.int .i64 (n:Int),.slice ko ks.length kc] w (ShE E p u q C lo lc gr a LD (eQ LD (yJ (aZ gr) n ks) s) w):=by
 have HS0:=aH hS;have HK0:=aH hk;have HKS:=aH hks;have HNN:=aH hn;have HLD:=aH hLD;have HAD:=aH (fun (k:Nat) (hk:k < gr.ns.length) (L:List Int) v h1 h2 s W h3 h4=>A2D gr a hg E p u q C lo lc LD k hk L v h1 h2 s W h3 h4);have hn160:=hg.len;obtain ⟨nk,hnk⟩:∃ m,ks.length=m:=⟨_,rfl⟩;have HNK:=aH hnk;obtain ⟨RES,hRES⟩:∃ z,eQ LD (yJ (aZ gr) n ks) s=z:=⟨_,rfl⟩;have HRES:=aH (show RES=eQ LD (yJ (aZ gr) n (ks.drop 0)) s from by rw [<- hRES];rfl);obtain ⟨nn,hnn⟩:∃ z,gr.ns.length=z:=⟨_,rfl⟩;have HLN:=aH hnn;rw [hnn] at hn hn160;rw [hnk] at hkl hkc;rw [hnk,hRES];have hn1:decide ((n:Int) < (nn:Int))=true:=aT (by omega);have hn2:decide (n < nn)=true:=aT hn;clear hS hk hks hnk hRES hg hnn hLD;unfold ShE;unfold ShE at HAD;go_enter Tryz.func45,Tryz.ntmps45;go_wp2_with fail
 go_loopw [13] (fun v13 wr=>∃ (i:Nat) (t:Nx × Bool),v13=.int .i64 (i:Int)/\(i:Int)<=nk/\aQ (RES=eQ LD (yJ (aZ gr) n (ks.drop i)) t)/\aQ (Sh wr E p u q C lo lc gr a LD t)/\aQ (But (fun b=>b=p\/b=q) w wr)) (fun v13 _=>nk - (intOf v13).toNat)
 case atStart=>exact ⟨0,s,rfl,by omega,HRES,HS0,aH (But.refl _ _)⟩
 case round =>
  obtain ⟨i,t,rfl,hi,HR,HS,HB⟩:=hrel;by_cases hin:(i:Int) < nk
  ·
   have hi1:decide ((i:Int) < (nk:Int))=true:=aT hin;have hi2:decide (i < nk)=true:=aT (by omega);have hw1:IntKind.i64.wrap ((i:Int) + 1)=(i:Int) + 1:=wI;obtain ⟨k,hk⟩:∃ q,ks[i]?=some q:=⟨_,aG (by have:=HNK.o;omega)⟩;have hkn:k < gr.ns.length:=HKS.o k (aM hk);have HKN:=aH hkn;have HR1:=aH (HR.o.trans (row_step LD (aZ gr) n k ks i hk t));obtain ⟨kb,koff,hko,-,hbe,c0⟩:=HK0.o i k hk;have hko0:=hko;have c0:=HB.o.cell (by rintro (e | e);have e:kb=p:=e;have:=HS0.o.ep;omega;have e:kb=q:=e;have:=HS0.o.eq;omega) c0;have hbl:kb < wr.heap.size:=World.block_lt_of_cell? wr _ c0;have HBE:=aH (show kb < E from hbe)
   have HKC:=aH (show ∀ (j b:Nat),ks[j]?=some b->w.cell? ⟨kb,koff + j,none⟩=some (.int .i64 (b:Int)) from fun j b hj=>by
    obtain ⟨b2,off2,e,-,-,h⟩:=HK0.o j b hj;rw [hko0] at e;injection e with e;injection e with e1 e2;subst e1 e2
    exact h)
   obtain ⟨r,hr⟩:∃ r,ks.drop (i + 1)=r:=⟨_,rfl⟩;obtain ⟨nr,hnr⟩:∃ z,nk - (i + 1)=z:=⟨_,rfl⟩;have hrl:r.length=nr:=(by rw [<- hr,List.length_drop,HNK.o,hnr]);have HRL:=aH hrl;have HRD:=aH hr;have HNR:=aH hnr;rw [hr] at HR1;have hi3:(i:Int) + 1<=(nk:Int):=(by omega);have hi4:i + 1<=nk:=(by omega);have hi5:(nk:Int)<=(kc:Int):=(by omega);have hi6:(i:Int) + 1<=(kc:Int):=(by omega);have hi7:i + 1<=kc:=(by omega);have hnr9:nr<=90001:=(by omega);subst hko;clear hk hbe hko0 hr hrl;go_upto_region 4 with fail;clear c0 hbl
   go_cut [21,22,23] (fun s21 s22 s23 wx=>∃ (X:Option Addr) (cc:Nat),s21=.slice X nr cc/\s22=.int .i64 (nr:Int)/\s23=.int .i64 0/\aQ (∀ j,j < nr->X=some ⟨kb,koff + (i + 1),none⟩)/\wx=wr)
   case first =>
    by_cases hic:kc=i + 1
    ·
     have hic2:(kc:Int)=(i:Int) + 1:=(by omega);have hnr1:nk - (i + 1)=0:=(by omega);obtain rfl:nr=0:=(by omega);go_wp2_with fail
     go_meet
     exact ⟨_,_,rfl,rfl,rfl,aH (fun j hj=>absurd hj (Nat.not_lt_zero j)),rfl⟩
    ·
     have hic2:¬ ((kc:Int)=(i:Int) + 1):=(by omega);go_wp2_with fail
     go_meet
     exact ⟨_,_,rfl,rfl,rfl,aH (fun j hj=>rfl),rfl⟩
   case rest =>
   obtain ⟨X,cc,rfl,rfl,rfl,HXX,hwc⟩:=hcut;subst hwc
   go_upto_block 2 with fail
   go_cut [8] (fun s8 wx=>∃ (z:Bool) (t1:Nx × Bool),s8=.bool z/\aQ (RES=eQ LD ((if z=true then [((k,false,n):gX)] else []) ++ yJ (aZ gr) n r) t1)/\aQ (Sh wx E p u q C lo lc gr a LD t1)/\aQ (But (fun b=>b=p\/b=q) w wx))
   case first =>
    go_wp2_with fail
    go_loopw [8,23] (fun v8 v23 wr=>∃ (j:Nat) (t1:Nx × Bool),v8=.bool true/\v23=.int .i64 (j:Int)/\(j:Int)<=nr/\aQ (RES=eQ LD (Dy (aZ gr) n k (r.drop j) ++ yJ (aZ gr) n r) t1)/\aQ (Sh wr E p u q C lo lc gr a LD t1)/\aQ (But (fun b=>b=p\/b=q) w wr)) (fun _ v23 _=>nr - (intOf v23).toNat)
    case atStart=>exact ⟨0,t,rfl,rfl,by omega,HR1,HS,HB⟩
    case round =>
     obtain ⟨j,t1,rfl,rfl,hj,HR2,HS2,HB2⟩:=hrel;by_cases hjn:(j:Int) < nr
     ·
      have hj1:decide ((j:Int) < (nr:Int))=true:=aT hjn;have hj2:decide (j < nr)=true:=aT (by omega);have hj3:j < nr:=(by omega);have hw2:IntKind.i64.wrap ((j:Int) + 1)=(j:Int) + 1:=wI;obtain ⟨b,hb⟩:∃ q,r[j]?=some q:=⟨_,aG (by have:=HRL.o;omega)⟩;have hbk:ks[i + 1 + j]?=some b:=(by rw [<- HRD.o,List.getElem?_drop] at hb;exact hb);have hbn0:b < gr.ns.length:=HKS.o b (aM hbk);have HBN:=aH hbn0;have hbn:b < nn:=(by rw [<- HLN.o];exact hbn0);have hb1:decide ((b:Int) < (nn:Int))=true:=aT (by omega);have hb2:decide (b < nn)=true:=aT hbn;have HST:=aH (HR2.o.trans (A9J LD (aZ gr) n k b r (yJ (aZ gr) n r) j hb t1));have hX:=HXX.o j hj3;have c0:=HB2.o.cell (by have:=HBE.o;rintro (e | e);have e:kb=p:=e;have:=HS0.o.ep;omega;have e:kb=q:=e;have:=HS0.o.eq;omega) (HKC.o (i + 1 + j) b hbk);rw [<- Nat.add_assoc] at c0;have hbl:kb < wr.heap.size:=World.block_lt_of_cell? wr _ c0;have hrow:=HS2.o.own;have p5:wr.cell? ⟨p,5,none⟩=some (.slice (some ⟨u,0,none⟩) nn nn):=(by rw [<- HLN.o];exact hrow.cell 5);have p6:wr.cell? ⟨p,6,none⟩=some (.slice lo nn lc):=(by rw [<- HLN.o];exact hrow.cell 6);have pl:=hrow.lt;obtain ⟨lb,loff,lv,hlo,hlb,-,l0,hli⟩:=HS2.o.ld b hbn0;have HC:=aH (HAD.o k HKN.o (LD b) lv (HLD.o b).1 (HLD.o b).2 t1 wr HS2.o hli);have HUN:=aH (fun (W:World) (t:Nx × Bool) (h:Sh W E p u q C lo lc gr a LD t)=>show W.cell? ⟨u,b,none⟩=some (.bool (aZ gr b))/\u < W.heap.size/\W.cell? ⟨p,5,none⟩=some (.slice (some ⟨u,0,none⟩) nn nn)/\p < W.heap.size from ⟨(h.nu.cell b).trans (bH _ _ b HBN.o),h.nu.lt,by rw [<- HLN.o];exact h.own.cell 5,h.own.lt⟩);subst hX;subst hlo;clear hb hbk hbn0 hrow hli p5;go_wp2_with fail;refine HC.o.mono ?_;rintro e w4 ⟨he,hS4,hB4⟩;subst he;have HS4:=aH hS4;have HB4:=aH (HB2.o.trans hB4 (fun g _ h=>h));obtain ⟨u0,ul,p5,pl⟩:=HUN.o w4 _ hS4;clear hS4 hB4 p6 l0 hlb c0 hbl;obtain ⟨y,hy⟩:∃ z,aZ gr b=z:=⟨_,rfl⟩;rw [hy] at HST u0;clear hy
      cases y with
      | true =>
       have HR3:=aH (show RES=eQ LD (Dy (aZ gr) n k (r.drop (j + 1)) ++ yJ (aZ gr) n r) (addN k (LD b) t1) from HST.o);go_wp2
       go_roundw
       case rel=>exact ⟨j + 1,_,rfl,by go_num,by omega,HR3,HS4,HB4⟩
       case measure=>simp [intOf];omega
      | false =>
       have HR3:=aH (show RES=eQ LD ((if false=true then [((k,false,n):gX)] else []) ++ yJ (aZ gr) n r) (addN k (LD b) t1) from HST.o);go_wp2
       go_meet
       exact ⟨false,_,rfl,HR3,HS4,HB4⟩
     ·
      have hj1:decide ((j:Int) < (nr:Int))=false:=aF hjn;have hj2:decide (j < nr)=false:=aF (by omega)
      have HR3:=aH (show RES=eQ LD ((if true=true then [((k,false,n):gX)] else []) ++ yJ (aZ gr) n r) t1 from by
       rw [HR2.o,List.drop_of_length_le (by have:=HRL.o;omega)]
       rfl)
      go_wp2
      go_meet
      exact ⟨true,t1,rfl,HR3,HS2,HB2⟩
   case rest =>
    obtain ⟨z,t1,rfl,HR2,HS2,HB2⟩:=hcut
    cases z with
    | false =>
     have HR3:=aH (show RES=eQ LD (yJ (aZ gr) n (ks.drop (i + 1))) t1 from by rw [HRD.o,HR2.o];rfl);go_wp2
     go_roundw
     case rel=>exact ⟨i + 1,t1,by go_num,by omega,HR3,HS2,HB2⟩
     case measure=>simp [intOf];omega
    | true =>
     have HR3:=aH (show RES=eQ LD (yJ (aZ gr) n (ks.drop (i + 1))) (addN k (t1.1 n) t1) from by rw [HRD.o,HR2.o];rfl);obtain ⟨V,hV1,hV2⟩:=HS2.o.nx;have hrow:=HS2.o.own;have p7:wc.cell? ⟨p,7,none⟩=some (.slice (some ⟨q,0,none⟩) nn nn):=(by rw [<- HLN.o];exact hrow.cell 7);have pl:=hrow.lt;have q0:wc.cell? ⟨q,n,none⟩=some (V n):=(by rw [hV1.cell n,List.getElem?_map,List.getElem?_range HNN.o];rfl);have ql:=hV1.lt;have HC:=aH (HAD.o k HKN.o (t1.1 n) (V n) (by have:=HS2.o.len n;have:=HLN.o;omega) (HS2.o.ok n).2 t1 wc HS2.o (hV2 n HNN.o));clear hV1 hV2 hrow;go_wp2_with fail;refine HC.o.mono ?_;rintro e w4 ⟨he,hS4,hB4⟩;subst he;have HS4:=aH hS4;have HB4:=aH (HB2.o.trans hB4 (fun g _ h=>h));clear hS4 hB4 p7 pl q0 ql;go_wp2
     go_roundw
     case rel=>exact ⟨i + 1,_,by go_num,by omega,HR3,HS4,HB4⟩
     case measure=>simp [intOf];omega
  ·
   have hi1:decide ((i:Int) < (nk:Int))=false:=aF hin;have hi2:decide (i < nk)=false:=aF (by omega);have HE:=aH (show RES=t from by rw [HR.o,List.drop_of_length_le (by have:=HNK.o;omega)];rfl);go_wp2
   first
    | (go_end0;rw [HE.o];exact ⟨rfl,HS.o,HB.o⟩)
    | (refine bodyPost_ret (results_none rfl _ _ _) rfl ?_;rw [HE.o];exact ⟨rfl,HS.o,HB.o⟩)
theorem B8R (o:Int):o=9\/o=10\/o=11\/o=4\/(o=6\/o=7)\/((o == 9)=false/\(o == 10)=false/\(o == 11)=false/\(o == 4)=false/\(o == 6)=false/\(o == 7)=false):=by simp only [aN];omega
theorem B1C (LD:Nx) (n k:Nat) (L:List Nat) (i:Nat) (h:L[i]?=some k) (s:Nx × Bool):eQ LD ((L.drop i).map (fun k=>((k,false,n):gX))) s=eQ LD ((L.drop (i + 1)).map (fun k=>((k,false,n):gX))) (addN k (s.1 n) s):=by obtain ⟨h1,h2⟩:=aS.1 h;rw [List.drop_eq_getElem_cons h1,h2];rfl
theorem A8g (gr:Gj) (a:Gv) (hg:Good gr) (har:∀ x ∈ gr.ns,Ar x) (E p u q C:Nat) (lo:Option Addr) (lc:Nat) (LD:Nx) (hLD:∀ j,((LD j).length:Int)<=1000/\∀ x ∈ LD j,0<=x/\x < (gr.ns.length:Int)) (n:Nat) (hn:n < gr.ns.length) (s:Nx × Bool) (w:World) (hS:Sh w E p u q C lo lc gr a LD s) :
  Calls Tryz.prog 23 #[.pointer (some ⟨p,0,none⟩),.int .i64 (n:Int)] w (ShE E p u q C lo lc gr a LD (eQ LD (zF gr (aZ gr) n) s) w):=by
 obtain ⟨x,hx⟩:∃ x,gr.ns[n]?=some x:=⟨_,aG hn⟩;have hxm:=aM hx;have HS0:=aH hS;have HNN:=aH hn;have HLD:=aH hLD;have HGD:=aH hg;have HARX:=aH (har x hxm);have HKID:=aH (hg.kid x hxm);have HAC:=aH (show zF gr (aZ gr) n=(if x.op=9\/x.op=10 then [] else if x.op=11 then [((bY gr n,false,n):gX)] else if x.op=4 then yJ (aZ gr) n x.ks else if x.op=6\/x.op=7 then x.ks.flatMap (fun k=>[((k,true,k):gX),(k,false,n)]) else x.ks.map (fun k=>((k,false,n):gX))) from by unfold zF;rw [hx]);have HAD:=aH (fun (k:Nat) (hk:k < gr.ns.length) (L:List Int) v h1 h2 s W h3 h4=>A2D gr a hg E p u q C lo lc LD k hk L v h1 h2 s W h3 h4);have HRW:=aH (fun ks ko kc h1 h2 h3 s W h4 h5=>B3U gr a hg E p u q C lo lc LD hLD n hn ks ko kc h1 h2 h3 s W h4 h5);have HBO:=aH (fun W h=>pU gr a hg n hn W h);have HBL:=aH (jK hg hn);have hkl:=hg.kl x hxm;obtain ⟨b,off,ko,kc,hno,hb,hcap,c0,c1,c2,c3,c4,c5,c6,c7,c8,c9,hkk⟩:=hS.hg.1 n x hx;have HK:=aH hkk;have HCP:=aH hcap;have hrow:=hS.own;have hn160:=hg.len;obtain ⟨RES,hRES⟩:∃ z,eQ LD (zF gr (aZ gr) n) s=z:=⟨_,rfl⟩;rw [hRES];have HRS:=aH hRES;unfold ShE;unfold ShE at HAD HRW;unfold grv at HBO;obtain ⟨nn,hnn⟩:∃ z,gr.ns.length=z:=⟨_,rfl⟩;have HLN:=aH hnn;obtain ⟨nk,hnk⟩:∃ z,x.ks.length=z:=⟨_,rfl⟩;have HNK:=aH hnk;obtain ⟨op,hop⟩:∃ z,x.op=z:=⟨_,rfl⟩;have HOP:=aH hop;rw [hnk] at c6 hkl;rw [hop] at c0 HAC;rw [hnn] at hn hn160;have p1:w.cell? ⟨p,1,none⟩=some (.slice (some ⟨b,off,none⟩) nn a.nc):=by rw [<- hno,<- hnn];exact hrow.cell 1
 have pl:=hrow.lt;have hn1:decide ((n:Int) < (nn:Int))=true:=aT (by omega);have hn2:decide (n < nn)=true:=aT hn;have hbl:Below w.heap.size w (w.alloc (.cells #[.int .i64 op,.string x.tx,.int .u64 x.s0,.int .u64 x.s1,.int .u64 x.s2,.int .u64 x.s3,.slice ko nk kc,.int .i64 x.tg,.int .i64 (x.mo:Int),.int .i64 x.ru] 45)):=bA _;have HS2:=aH (hS.below hbl);have HB2:=aH (show But (fun b=>b=p\/b=q) w (w.alloc (.cells #[.int .i64 op,.string x.tx,.int .u64 x.s0,.int .u64 x.s1,.int .u64 x.s2,.int .u64 x.s3,.slice ko nk kc,.int .i64 x.tg,.int .i64 (x.mo:Int),.int .i64 x.ru] 45)) from But.of_below hbl);have HK2:=aH (hkk.below hbl);have HN2:=aH (Own.fresh w 45 [.int .i64 op,.string x.tx,.int .u64 x.s0,.int .u64 x.s1,.int .u64 x.s2,.int .u64 x.s3,.slice ko nk kc,.int .i64 x.tg,.int .i64 (x.mo:Int),.int .i64 x.ru]);have HXP:=aH (show p < w.heap.size/\q < w.heap.size from by obtain ⟨V,h1,-⟩:=hS.nx;exact ⟨hS.own.lt,h1.lt⟩);clear hx hxm hS hLD hg har hcap hkk hrow hRES hnn hnk hop hno hbl;go_enter Tryz.func23,Tryz.ntmps23;go_upto_region 1 with fail;obtain ⟨X,hX⟩:∃ z,w.heap.size=z:=⟨_,rfl⟩;rw [hX] at HN2 HXP;generalize w.alloc (.cells #[.int .i64 op,.string x.tx,.int .u64 x.s0,.int .u64 x.s1,.int .u64 x.s2,.int .u64 x.s3,.slice ko nk kc,.int .i64 x.tg,.int .i64 (x.mo:Int),.int .i64 x.ru] 45)=w2 at *;try rw [hX]
 clear hX c0 c1 c2 c3 c4 c5 c6 c7 c8 c9 hb p1 pl;have y0:w2.cell? ⟨X,0,none⟩=some (.int .i64 op):=HN2.o.cell 0;have y6:w2.cell? ⟨X,6,none⟩=some (.slice ko nk kc):=HN2.o.cell 6;have yl:=HN2.o.lt
 have HKS:=aH (fun (W:World) (t:Nx × Bool) (h:Sh W E p u q C lo lc gr a LD t)=>show ∃ V:Nat->Value,p < W.heap.size/\q < W.heap.size/\W.cell? ⟨p,0,none⟩=some (.slice a.mo gr.ms.length a.mc)/\W.cell? ⟨p,1,none⟩=some (.slice a.no nn a.nc)/\W.cell? ⟨p,2,none⟩=some (.slice a.ho gr.hs.length a.hc)/\W.cell? ⟨p,3,none⟩=some (.slice a.wo gr.ws.length a.wc)/\W.cell? ⟨p,4,none⟩=some (.int .i64 gr.st)/\W.cell? ⟨p,6,none⟩=some (.slice lo nn lc)/\W.cell? ⟨p,7,none⟩=some (.slice (some ⟨q,0,none⟩) nn nn)/\W.cell? ⟨q,n,none⟩=some (V n)/\aO W C (V n) (t.1 n) from by
  obtain ⟨V,h1,h2⟩:=h.nx;rw [<- HLN.o]
  exact ⟨V,h.own.lt,h1.lt,h.own.cell 0,h.own.cell 1,h.own.cell 2,h.own.cell 3,h.own.cell 4,h.own.cell 6,h.own.cell 7,by rw [h1.cell n,List.getElem?_map,List.getElem?_range HNN.o];rfl,h2 n HNN.o⟩)
 rcases B8R op with rfl | rfl | rfl | rfl | h67 | ⟨h9,h10,h11,h4,h6,h7⟩
 ·
  have HE:=aH (show RES=s from by rw [<- HRS.o,HAC.o];rfl);go_wp2
  go_end0
  rw [HE.o];exact ⟨rfl,HS2.o,HB2.o⟩
 ·
  have HE:=aH (show RES=s from by rw [<- HRS.o,HAC.o];rfl);go_wp2
  go_end0
  rw [HE.o];exact ⟨rfl,HS2.o,HB2.o⟩
 ·
  have HE:=aH (show RES=addN (bY gr n) (s.1 n) s from by rw [<- HRS.o,HAC.o];rfl);obtain ⟨V,pl,ql,p0,p1,p2,p3,p4,-,p7,q0,hI⟩:=HKS.o w2 s HS2.o;have HI:=aH hI;obtain ⟨B,hB⟩:∃ z,bY gr n=z:=⟨_,rfl⟩;rw [hB] at HBO HE HBL;have HC:=aH (fun W h1 h2=>HAD.o B HBL.o (s.1 n) (V n) (by have:=HS0.o.len n;have:=HLN.o;omega) (HS0.o.ok n).2 s W h1 h2);rw [HLN.o] at HBO;clear hB hI;go_upto_region 10 with fail;refine bX (fun Wx=>p < Wx.heap.size/\Wx.cell? ⟨p,0,none⟩=some (.slice a.mo gr.ms.length a.mc)/\Wx.cell? ⟨p,1,none⟩=some (.slice a.no nn a.nc)/\Wx.cell? ⟨p,2,none⟩=some (.slice a.ho gr.hs.length a.hc)/\Wx.cell? ⟨p,3,none⟩=some (.slice a.wo gr.ws.length a.wc)/\Wx.cell? ⟨p,4,none⟩=some (.int .i64 gr.st)/\Wx.cell? ⟨p,7,none⟩=some (.slice (some ⟨q,0,none⟩) nn nn)/\q < Wx.heap.size/\Wx.cell? ⟨q,n,none⟩=some (V n)) 14 (by kernel_rfl) ?_;have HSS:=aH (show p < (World.drew w2).heap.size/\(World.drew w2).cell? ⟨p,0,none⟩=some (.slice a.mo gr.ms.length a.mc)/\(World.drew w2).cell? ⟨p,1,none⟩=some (.slice a.no nn a.nc)/\(World.drew w2).cell? ⟨p,2,none⟩=some (.slice a.ho gr.hs.length a.hc)/\(World.drew w2).cell? ⟨p,3,none⟩=some (.slice a.wo gr.ws.length a.wc)/\(World.drew w2).cell? ⟨p,4,none⟩=some (.int .i64 gr.st)/\(World.drew w2).cell? ⟨p,7,none⟩=some (.slice (some ⟨q,0,none⟩) nn nn)/\q < (World.drew w2).heap.size/\(World.drew w2).cell? ⟨q,n,none⟩=some (V n) from ⟨pl,p0,p1,p2,p3,p4,p7,ql,q0⟩);clear pl ql p0 p1 p2 p3 p4 p7 q0 y0 y6 yl;refine tC 0 rfl HSS.o ?_;go_simp;refine tC 1 rfl HSS.o ?_;go_simp;refine tC 2 rfl HSS.o ?_;go_simp;refine tC 3 rfl HSS.o ?_;go_simp;refine tD 4 [6,14] rfl HSS.o ?_;go_simp;refine tC 5 rfl HSS.o ?_;go_simp;refine tC 7 rfl HSS.o ?_;go_simp;refine tC 8 rfl HSS.o ?_;go_simp;refine tC 9 rfl HSS.o ?_;go_simp;refine tD 10 [12,13,14] rfl HSS.o ?_;go_simp;refine tC 11 rfl HSS.o ?_;go_simp;refine tC 12 rfl HSS.o ?_;go_simp;refine tD 13 [14] rfl HSS.o ?_;go_simp;refine aI.one (i:=6) (by kernel_rfl) (bB (f:=44) (vs:=#[.agg #[.slice a.mo gr.ms.length a.mc,.slice a.no nn a.nc,.slice a.ho gr.hs.length a.hc,.slice a.wo gr.ws.length a.wc,.int .i64 gr.st],.int .i64 (n:Int)]) rfl (by kernel_rfl) (by go_simp) ((HBO.o (World.drew w2) ((HS2.o.hg.mono fun _ _ _=>trivial).below (Below.refl w2.heap.size w2).drew)).mono ?_));rintro e w3 ⟨he,hb3⟩;have HS3:=aH ((HS2.o.below (Below.refl w2.heap.size w2).drew).below hb3);have HB3:=aH (HB2.o.drew.then_below hb3);have HI3:=aH ((HI.o.below (Below.refl w2.heap.size w2).drew).below hb3);refine ⟨_,he,.inr (.inr ⟨aL HSS.o.1 hb3.size,aC HSS.o.2.1 hb3,aC HSS.o.2.2.1 hb3,aC HSS.o.2.2.2.1 hb3,aC HSS.o.2.2.2.2.1 hb3,aC HSS.o.2.2.2.2.2.1 hb3,aC HSS.o.2.2.2.2.2.2.1 hb3,aL HSS.o.2.2.2.2.2.2.2.1 hb3.size,aC HSS.o.2.2.2.2.2.2.2.2 hb3⟩),?_⟩;clear hb3 HSS;go_simp;refine aI.one (i:=14) (by kernel_rfl) (bB (f:=43) (vs:=#[.pointer (some ⟨p,0,none⟩),.int .i64 (B:Int),V n]) rfl (by kernel_rfl) (by go_simp) ((HC.o w3 HS3.o HI3.o).mono ?_));rintro e w4 ⟨he,hS4,hB4⟩;refine ⟨_,he,.inl rfl,?_⟩;have HS4:=aH hS4;have HB4:=aH (HB3.o.trans hB4 (fun g _ h=>h));clear hS4 hB4;refine aI.done (by kernel_rfl) ?_ _;go_simp;try go_wp2
  go_end0
  rw [HE.o];exact ⟨rfl,HS4.o,HB4.o⟩
 ·
  have HE:=aH (show RES=eQ LD (yJ (aZ gr) n x.ks) s from by rw [<- HRS.o,HAC.o];rfl);have HC:=aH (HRW.o x.ks ko kc HKID.o (by rw [HNK.o];exact hkl) HCP.o.2 s w2 HS2.o HK2.o);rw [HNK.o] at HC;go_wp2_with fail;refine HC.o.mono ?_;rintro e w4 ⟨he,hS4,hB4⟩;subst he;have HS4:=aH hS4;have HB4:=aH (HB2.o.trans hB4 (fun g _ h=>h));clear hS4 hB4;go_wp2
  go_end0
  rw [HE.o];exact ⟨rfl,HS4.o,HB4.o⟩
 ·
  rcases h67 with rfl | rfl
  all_goals
   have hn1k:nk=1:=(by have h:=HARX.o.kids;rw [HOP.o,HNK.o] at h;unfold dJ at h;simpa using h);subst hn1k;obtain ⟨k,hks⟩:∃ k,x.ks=[k]:=List.length_eq_one_iff.1 HNK.o;have HE:=aH (show RES=addN k ((addN k (LD k) s).1 n) (addN k (LD k) s) from by rw [<- HRS.o,HAC.o,hks];rfl);have hkn0:k < gr.ns.length:=HKID.o k (by rw [hks];exact List.mem_singleton.2 rfl);have HKN:=aH hkn0;have hkn:k < nn:=(by rw [<- HLN.o];exact hkn0);have hk1:decide ((k:Int) < (nn:Int))=true:=aT (by omega);have hk2:decide (k < nn)=true:=aT hkn;obtain ⟨b2,off2,hko,hb2,hbE,q0⟩:=HK2.o 0 k (by rw [hks];rfl);have q0:w2.cell? ⟨b2,off2,none⟩=some (.int .i64 (k:Int)):=q0;have HQ0:=aH q0;have HBE:=aH (show b2 < E from hbE);obtain ⟨lb,loff,lv,hlo,hlb,-,l0,hli⟩:=HS2.o.ld k hkn0;have HLI:=aH hli;have HC:=aH (fun W h1 h2=>HAD.o k HKN.o (LD k) lv (HLD.o k).1 (HLD.o k).2 s W h1 h2);have p6:w2.cell? ⟨p,6,none⟩=some (.slice lo nn lc):=(by rw [<- HLN.o];exact HS2.o.own.cell 6);have pl:=HS2.o.own.lt;subst hko;subst hlo;have HLO:=aH (show lb < w2.heap.size from hlb);clear hks hkn0 hli hbE;go_upto_region 15 with fail;refine bX (fun Wx=>X < Wx.heap.size/\Wx.cell? ⟨X,6,none⟩=some (.slice (some ⟨b2,off2,none⟩) 1 kc)/\b2 < Wx.heap.size/\Wx.cell? ⟨b2,off2,none⟩=some (.int .i64 (k:Int))/\p < Wx.heap.size/\Wx.cell? ⟨p,6,none⟩=some (.slice (some ⟨lb,loff,none⟩) nn lc)/\lb < Wx.heap.size/\Wx.cell? ⟨lb,loff + k,none⟩=some lv) 15 (by kernel_rfl) ?_;have HSS:=aH (show X < (World.drew w2).heap.size/\(World.drew w2).cell? ⟨X,6,none⟩=some (.slice (some ⟨b2,off2,none⟩) 1 kc)/\b2 < (World.drew w2).heap.size/\(World.drew w2).cell? ⟨b2,off2,none⟩=some (.int .i64 (k:Int))/\p < (World.drew w2).heap.size/\(World.drew w2).cell? ⟨p,6,none⟩=some (.slice (some ⟨lb,loff,none⟩) nn lc)/\lb < (World.drew w2).heap.size/\(World.drew w2).cell? ⟨lb,loff + k,none⟩=some lv from ⟨yl,y6,hb2,q0,pl,p6,hlb,l0⟩);clear pl p6 hlb l0 y0 y6 yl q0 hb2;refine tC 0 rfl HSS.o ?_;go_simp;refine tC 1 rfl HSS.o ?_;go_simp;refine tD 2 [3,4,15] rfl HSS.o ?_;go_simp;refine tC 3 rfl HSS.o ?_;go_simp;refine tD 4 [15] rfl HSS.o ?_;go_simp;refine tC 5 rfl HSS.o ?_;go_simp;refine tC 6 rfl HSS.o ?_;go_simp;refine tC 7 rfl HSS.o ?_;go_simp;refine tD 8 [13,14,15] rfl HSS.o ?_;go_simp;refine tC 9 rfl HSS.o ?_;go_simp;refine tD 10 [11,12,13,14,15] rfl HSS.o ?_;go_simp;refine tC 11 rfl HSS.o ?_;go_simp;refine tD 12 [13,14,15] rfl HSS.o ?_;go_simp;refine tC 13 rfl HSS.o ?_;go_simp;refine tD 14 [15] rfl HSS.o ?_;go_simp;refine aI.one (i:=15) (by kernel_rfl) (bB (f:=43) (vs:=#[.pointer (some ⟨p,0,none⟩),.int .i64 (k:Int),lv]) rfl (by kernel_rfl) (by go_simp) ((HC.o (World.drew w2) (HS2.o.below (Below.refl w2.heap.size w2).drew) (HLI.o.below (Below.refl w2.heap.size w2).drew)).mono ?_));rintro e w4 ⟨he,hS4,hB4⟩;refine ⟨_,he,.inl rfl,?_⟩;have hB5:But (fun b=>b=p\/b=q) w2 w4:=(But.of_below (Below.refl w2.heap.size w2).drew).trans hB4 (fun g _ h=>h);have HS4:=aH hS4;have HB4:=aH (HB2.o.trans hB5 (fun g _ h=>h));have HN4:=aH (HN2.o.but hB5 (by have:=HXP.o;rintro (e | e);have e:X=p:=e;omega;have e:X=q:=e;omega));have q0:=hB5.cell (by have:=HBE.o;rintro (e | e);have e:b2=p:=e;have:=HS0.o.ep;omega;have e:b2=q:=e;have:=HS0.o.eq;omega) HQ0.o;have hb2:b2 < w4.heap.size:=World.block_lt_of_cell? w4 _ q0;clear hS4 hB4 hB5 HSS;refine aI.done (by kernel_rfl) ?_ _;go_simp;generalize hT:addN k (LD k) s=T at *;clear hT;obtain ⟨V,pl,ql,-,-,-,-,-,-,p7,v0,hI⟩:=HKS.o w4 T HS4.o;have y6:w4.cell? ⟨X,6,none⟩=some (.slice (some ⟨b2,off2,none⟩) 1 kc):=HN4.o.cell 6;have yl:=HN4.o.lt;have HC2:=aH (HAD.o k HKN.o (T.1 n) (V n) (by have:=HS4.o.len n;have:=HLN.o;omega) (HS4.o.ok n).2 T (World.drew w4) (HS4.o.below (Below.refl w4.heap.size w4).drew) (hI.below (Below.refl w4.heap.size w4).drew));clear hI;try go_upto_region 16 with fail
   refine bX (fun Wx=>X < Wx.heap.size/\Wx.cell? ⟨X,6,none⟩=some (.slice (some ⟨b2,off2,none⟩) 1 kc)/\b2 < Wx.heap.size/\Wx.cell? ⟨b2,off2,none⟩=some (.int .i64 (k:Int))/\p < Wx.heap.size/\Wx.cell? ⟨p,7,none⟩=some (.slice (some ⟨q,0,none⟩) nn nn)/\q < Wx.heap.size/\Wx.cell? ⟨q,n,none⟩=some (V n)) 12 (by kernel_rfl) ?_;have HSS:=aH (show X < (World.drew w4).heap.size/\(World.drew w4).cell? ⟨X,6,none⟩=some (.slice (some ⟨b2,off2,none⟩) 1 kc)/\b2 < (World.drew w4).heap.size/\(World.drew w4).cell? ⟨b2,off2,none⟩=some (.int .i64 (k:Int))/\p < (World.drew w4).heap.size/\(World.drew w4).cell? ⟨p,7,none⟩=some (.slice (some ⟨q,0,none⟩) nn nn)/\q < (World.drew w4).heap.size/\(World.drew w4).cell? ⟨q,n,none⟩=some (V n) from ⟨yl,y6,hb2,q0,pl,p7,ql,v0⟩);clear pl ql p7 v0 y6 yl q0 hb2;refine tC 0 rfl HSS.o ?_;go_simp;refine tC 1 rfl HSS.o ?_;go_simp;refine tD 2 [3,4,12] rfl HSS.o ?_;go_simp;refine tC 3 rfl HSS.o ?_;go_simp;refine tD 4 [12] rfl HSS.o ?_;go_simp;refine tC 5 rfl HSS.o ?_;go_simp;refine tC 6 rfl HSS.o ?_;go_simp;refine tC 7 rfl HSS.o ?_;go_simp;refine tD 8 [10,11,12] rfl HSS.o ?_;go_simp;refine tC 9 rfl HSS.o ?_;go_simp;refine tC 10 rfl HSS.o ?_;go_simp;refine tD 11 [12] rfl HSS.o ?_;go_simp;refine aI.one (i:=12) (by kernel_rfl) (bB (f:=43) (vs:=#[.pointer (some ⟨p,0,none⟩),.int .i64 (k:Int),V n]) rfl (by kernel_rfl) (by go_simp) (HC2.o.mono ?_));rintro e w6 ⟨he,hS6,hB6⟩;refine ⟨_,he,.inl rfl,?_⟩;have HS6:=aH hS6;have HB6:=aH (HB4.o.drew.trans hB6 (fun g _ h=>h));clear hS6 hB6 HSS;refine aI.done (by kernel_rfl) ?_ _;go_simp;try go_wp2
   go_end0
   rw [HE.o];exact ⟨rfl,HS6.o,HB6.o⟩
 ·
  have HE0:=aH (show RES=eQ LD ((x.ks.drop 0).map (fun k=>((k,false,n):gX))) s from by
   simp only [aN] at h9 h10 h11 h4 h6 h7;rw [<- HRS.o,HAC.o,if_neg (fun h=>h.elim h9 h10),if_neg h11,if_neg h4,if_neg (fun h=>h.elim h6 h7)]
   rfl)
  have HB0:=aH (But.refl (fun b=>b=p\/b=q) w2);go_wp2_with fail
  go_loopw [20] (fun v20 wr=>∃ (i:Nat) (t:Nx × Bool),v20=.int .i64 (i:Int)/\(i:Int)<=nk/\aQ (RES=eQ LD ((x.ks.drop i).map (fun k=>((k,false,n):gX))) t)/\aQ (Sh wr E p u q C lo lc gr a LD t)/\aQ (But (fun b=>b=p\/b=q) w2 wr)) (fun v20 _=>nk - (intOf v20).toNat)
  case atStart=>exact ⟨0,s,rfl,by omega,HE0,HS2,HB0⟩
  case round =>
   obtain ⟨i,t,rfl,hi,HE1,HS,HB⟩:=hrel;clear HE0 HB0 y0 y6 yl;by_cases hin:(i:Int) < nk
   ·
    have hi1:decide ((i:Int) < (nk:Int))=true:=aT hin;have hi2:decide (i < nk)=true:=aT (by omega);have hw1:IntKind.i64.wrap ((i:Int) + 1)=(i:Int) + 1:=wI;obtain ⟨k,hk⟩:∃ q,x.ks[i]?=some q:=⟨_,aG (by have:=HNK.o;omega)⟩;have hkn0:k < gr.ns.length:=HKID.o k (aM hk);have HE2:=aH (HE1.o.trans (B1C LD n k x.ks i hk t));obtain ⟨b2,off2,hko,-,hbE,qq0⟩:=HK2.o i k hk;have q0:=HB.o.cell (by rintro (e | e);have e:b2=p:=e;have h:b2 < E:=hbE;have:=HS0.o.ep;omega;have e:b2=q:=e;have h:b2 < E:=hbE;have:=HS0.o.eq;omega) qq0;have hb2:b2 < wr.heap.size:=World.block_lt_of_cell? wr _ q0;obtain ⟨V,pl,ql,-,-,-,-,-,-,p7,v0,hI⟩:=HKS.o wr t HS.o;have HC:=aH (HAD.o k hkn0 (t.1 n) (V n) (by have:=HS.o.len n;have:=HLN.o;omega) (HS.o.ok n).2 t wr HS.o hI);subst hko;clear hk hkn0 hbE qq0 hI;go_wp2_with fail;refine HC.o.mono ?_;rintro e w4 ⟨he,hS4,hB4⟩;subst he;have HS4:=aH hS4;have HB4:=aH (HB.o.trans hB4 (fun g _ h=>h));clear hS4 hB4 pl ql p7 v0 q0 hb2;go_wp2
    go_roundw
    case rel=>exact ⟨i + 1,_,by go_num,by omega,HE2,HS4,HB4⟩
    case measure=>simp [intOf];omega
   ·
    have hi1:decide ((i:Int) < (nk:Int))=false:=aF hin;have hi2:decide (i < nk)=false:=aF (by omega);have HE:=aH (show RES=t from by rw [HE1.o,List.drop_of_length_le (by have:=HNK.o;omega)];rfl);have HB4:=aH (HB2.o.trans HB.o (fun g _ h=>h));go_wp2
    first
     | (go_end0;rw [HE.o];exact ⟨rfl,HS.o,HB4.o⟩)
     | (refine bodyPost_ret (results_none rfl _ _ _) rfl ?_;rw [HE.o];exact ⟨rfl,HS.o,HB4.o⟩)
 end Go.Proofs.YthddifjhoniacaaGreat
