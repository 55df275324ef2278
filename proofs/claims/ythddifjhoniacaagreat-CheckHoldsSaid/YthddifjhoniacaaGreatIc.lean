import Derived.Test.YthddifjhoniacaaGreatIa
namespace Go.Proofs.YthddifjhoniacaaGreat
set_option linter.unusedVariables false
set_option maxHeartbeats 9600000
set_option maxRecDepth 1000000
open Go.RowKit Go.Sort
theorem A2E (M:Nat->Bool) (N g:Nat) (hN:N<=160) (L:List Nat) (R:Nat->Prop) (ao:Option Addr) (c:Nat) (hL:∀ k ∈ L,k < N) (h9:L.length<=90001) (w:World) (hm:Own w g 4 (bZ M N)) (hk:nC w R ao L) :
  Calls Tryz.prog 76 #[.slice (some ⟨g,0,none⟩) N N,.slice ao L.length c] w fun e w'=>e=.returned (.bool (L.all M))/\w'=w:=by
 have HL:=aH hL;have HM:=aH hm;have HK:=aH hk;obtain ⟨n,hn⟩:∃ z,L.length=z:=⟨_,rfl⟩;have HN:=aH hn;obtain ⟨RES,hRES⟩:∃ z,L.all M=z:=⟨_,rfl⟩;have HRES:=aH hRES;rw [hn] at h9;rw [hRES,hn];clear hL hm hk hn hRES;go_enter Tryz.func76,Tryz.ntmps76;go_wp2_with fail
 go_loopw [5] (fun v5 wr=>∃ k:Nat,v5=.int .i64 (k:Int)/\(k:Int)<=n/\aQ ((L.take k).all M=true)/\wr=w) (fun v5 _=>n - (intOf v5).toNat)
 case atStart=>exact ⟨0,rfl,by omega,aH rfl,(by first | trivial | rfl)⟩
 case round =>
  obtain ⟨k,rfl,hk,HA,rfl⟩:=hrel;by_cases hkn:(k:Int) < n
  ·
   have hkn1:decide ((k:Int) < n)=true:=aT hkn;have hkn2:decide (k < n)=true:=aT (by omega);obtain ⟨x,hx⟩:∃ x,L[k]?=some x:=⟨_,aG (by have:=HN.o;omega)⟩;obtain ⟨b,off,hao,hb,-,c0⟩:=HK.o k x hx;have hxN:=HL.o x (aM hx);have HX:=aH hx;have m0:wr.cell? ⟨g,x,none⟩=some (.bool (M x)):=(by rw [HM.o.cell x];exact bH M N x hxN);have hgl:=HM.o.lt;have hx1:decide ((x:Int) < (N:Int))=true:=aT (by omega);have hx2:decide (x < N)=true:=aT hxN;have hw1:IntKind.i64.wrap ((k:Int) + 1)=(k:Int) + 1:=wI;obtain ⟨z,hz⟩:∃ z,M x=z:=⟨_,rfl⟩;have HZ:=aH hz;rw [hz] at m0;subst hao;clear hx hz
   cases z with
   | false =>
    have HE:=aH (show RES=false from by rw [<- HRES.o];exact A5V HX.o HZ.o);go_wp2;go_ret;rw [HE.o];exact ⟨rfl,rfl⟩
   | true =>
    have HA1:=aH (show (L.take (k + 1)).all M=true from by rw [Ma HX.o,HA.o,HZ.o];rfl);go_wp2
    go_roundw
    case rel=>exact ⟨k + 1,by go_num,by omega,HA1,(by first | trivial | rfl)⟩
    case measure=>simp [intOf];omega
  · have hkn1:decide ((k:Int) < n)=false:=aF hkn;have hkn2:decide (k < n)=false:=aF (by omega);have HE:=aH (show RES=true from by rw [<- HRES.o,<- HA.o,List.take_of_length_le (by have:=HN.o;omega)]);go_wp2;go_ret;rw [HE.o];exact ⟨rfl,rfl⟩
theorem A2Q (M:Nat->Bool) (N g:Nat) (hN:N<=160) (L:List Nat) (R:Nat->Prop) (ao:Option Addr) (c:Nat) (hL:∀ k ∈ L,k < N) (h9:L.length<=90001) (w:World) (hm:Own w g 4 (bZ M N)) (hk:nC w R ao L) :
  Calls Tryz.prog 75 #[.slice (some ⟨g,0,none⟩) N N,.slice ao L.length c] w fun e w'=>e=.returned (.bool (L.any M))/\w'=w:=by
 have HL:=aH hL;have HM:=aH hm;have HK:=aH hk;obtain ⟨n,hn⟩:∃ z,L.length=z:=⟨_,rfl⟩;have HN:=aH hn;obtain ⟨RES,hRES⟩:∃ z,L.any M=z:=⟨_,rfl⟩;have HRES:=aH hRES;rw [hn] at h9;rw [hRES,hn];clear hL hm hk hn hRES;go_enter Tryz.func75,Tryz.ntmps75;go_wp2_with fail
 go_loopw [5] (fun v5 wr=>∃ k:Nat,v5=.int .i64 (k:Int)/\(k:Int)<=n/\aQ ((L.take k).any M=false)/\wr=w) (fun v5 _=>n - (intOf v5).toNat)
 case atStart=>exact ⟨0,rfl,by omega,aH rfl,(by first | trivial | rfl)⟩
 case round =>
  obtain ⟨k,rfl,hk,HA,rfl⟩:=hrel;by_cases hkn:(k:Int) < n
  ·
   have hkn1:decide ((k:Int) < n)=true:=aT hkn;have hkn2:decide (k < n)=true:=aT (by omega);obtain ⟨x,hx⟩:∃ x,L[k]?=some x:=⟨_,aG (by have:=HN.o;omega)⟩;obtain ⟨b,off,hao,hb,-,c0⟩:=HK.o k x hx;have hxN:=HL.o x (aM hx);have HX:=aH hx;have m0:wr.cell? ⟨g,x,none⟩=some (.bool (M x)):=(by rw [HM.o.cell x];exact bH M N x hxN);have hgl:=HM.o.lt;have hx1:decide ((x:Int) < (N:Int))=true:=aT (by omega);have hx2:decide (x < N)=true:=aT hxN;have hw1:IntKind.i64.wrap ((k:Int) + 1)=(k:Int) + 1:=wI;obtain ⟨z,hz⟩:∃ z,M x=z:=⟨_,rfl⟩;have HZ:=aH hz;rw [hz] at m0;subst hao;clear hx hz
   cases z with
   | true =>
    have HE:=aH (show RES=true from by rw [<- HRES.o];exact GK HX.o HZ.o);go_wp2;go_ret;rw [HE.o];exact ⟨rfl,rfl⟩
   | false =>
    have HA1:=aH (show (L.take (k + 1)).any M=false from by rw [Ep HX.o,HA.o,HZ.o];rfl);go_wp2
    go_roundw
    case rel=>exact ⟨k + 1,by go_num,by omega,HA1,(by first | trivial | rfl)⟩
    case measure=>simp [intOf];omega
  · have hkn1:decide ((k:Int) < n)=false:=aF hkn;have hkn2:decide (k < n)=false:=aF (by omega);have HE:=aH (show RES=false from by rw [<- HRES.o,<- HA.o,List.take_of_length_le (by have:=HN.o;omega)]);go_wp2;go_ret;rw [HE.o];exact ⟨rfl,rfl⟩
theorem uQ (gr:Gj) (a:Gv) (hg:Good gr) (n:Nat) (hn:n < gr.ns.length) (w:World) (hG:dG w gr a) :
  Calls Tryz.prog 49 #[grv gr a,.int .i64 (n:Int)] w fun e w'=>e=.returned (.int .i64 (bY gr n:Int))/\Below w.heap.size w w':=by
 have HGD:=aH hg;obtain ⟨x,hx⟩:∃ x,gr.ns[n]?=some x:=⟨_,aG hn⟩;have HX:=aH hx;have HR:=aH (hg.ref x (aM hx))
 have HBO:=aH (show bY gr n=if x.op=11 then (match gr.hs[x.tg.toNat]? with
  | some h=>h.bo
  | none=>0) else n from by unfold bY;rw [hx];try rfl)
 have HB1:=gB w a gr;have HO1:=gO w a gr;obtain ⟨b,off,ko,kc,hno,hb,-,c0,-,-,-,-,-,-,c7,-,-,-⟩:=(hG.below HB1.o).1 n x hx;have HHS:=aH (hG.below HB1.o).2.1;have HNO:=aH hno;clear hno;unfold grv;obtain ⟨nn,nh,nms,nw,hnn,hnh,hnms,hnw⟩:=nG gr;have HNN:=aH (And.intro hnn hnh);have hn160:nn<=160:=by rw [<- hnn];exact hg.len
 rw [hnn] at hn;rw [hnn,hnh,hnms,hnw] at HB1 HO1 c0 c7 HHS hb;rw [hnn,hnh,hnms,hnw];have hn1:decide ((n:Int) < (nn:Int))=true:=aT (by omega);have hn2:decide (n < nn)=true:=aT hn;obtain ⟨B,hB⟩:∃ B,w.heap.size=B:=⟨_,rfl⟩;have HB:=aH hB;rw [hB] at HO1;obtain ⟨op,hop⟩:∃ z,x.op=z:=⟨_,rfl⟩;rw [hop] at c0 HR HBO;clear hx hg hG hnn hnh hnms hnw hop;go_enter Tryz.func49,Tryz.ntmps49;go_upto_region 1 with fail;generalize w.alloc (.cells #[.slice a.mo nms a.mc,.slice a.no nn a.nc,.slice a.ho nh a.hc,.slice a.wo nw a.wc,.int .i64 gr.st] 27)=w1 at *;try rw [hB]
 clear hB;have g1:w1.cell? ⟨B,1,none⟩=some (.slice a.no nn a.nc):=HO1.o.cell 1;have g2:w1.cell? ⟨B,2,none⟩=some (.slice a.ho nh a.hc):=HO1.o.cell 2;have hno:=HNO.o;rw [hno] at g1;have gl:=HO1.o.lt;by_cases h11:op=11
 ·
  subst h11;obtain ⟨t,h,ht,hh,hbo⟩:=HR.o rfl;obtain ⟨hb2,hoff,hho,hhl,-,d0,d1,d2⟩:=HHS.o t h hh;rw [ht] at c7;rw [hho] at g2;have htn:t < nh:=by have:=(aS.1 hh).1;have:=HNN.o.2;omega
  have ht1:decide ((t:Int) < (nh:Int))=true:=aT (by omega);have ht2:decide (t < nh)=true:=aT htn;have HE:=aH (show bY gr n=h.bo from by rw [HBO.o,if_pos rfl,ht,Int.toNat_natCast,hh]);clear ht hh hho hno;go_wp2_with fail;go_quiet (fail);have HB2:=aH (below_drewN HB1.o nq);go_wp2;go_ret;rw [HE.o];exact ⟨rfl,HB2.o⟩
 · have h11a:(op != 11)=true:=bne_iff_ne.2 h11;have h11b:(op == 11)=false:=aN.2 h11;have HE:=aH (show bY gr n=n from by rw [HBO.o,if_neg h11]);clear hno;go_wp2;go_ret;rw [HE.o];exact ⟨rfl,HB1.o⟩
theorem A8f (gr:Gj) (a:Gv) (hg:Good gr) (M:Nat->Bool) (n g:Nat) (hn:n < gr.ns.length) (w:World) (hG:dG w gr a) (hm:Own w g 4 (bZ M gr.ns.length)) :
  Calls Tryz.prog 53 #[grv gr a,.slice (some ⟨g,0,none⟩) gr.ns.length gr.ns.length,.int .i64 (n:Int)] w fun e w'=>e=.returned (.bool (tF gr M n))/\Below w.heap.size w w':=by
 obtain ⟨x,hx⟩:∃ x,gr.ns[n]?=some x:=⟨_,aG hn⟩;have HRU:=aH (show tF gr M n=if x.op=6\/x.op=8\/x.op=9\/x.op=10 then true else if x.op=4\/x.op=7\/x.op=12 then x.ks.all M else if x.op=5 then x.ks.any M else if x.op=11 then M (bY gr n) else false from by unfold tF;rw [hx]);have HB1:=gB w a gr;have HO1:=gO w a gr;have HM1:=aH (hm.under HB1.o hm.lt);have HG1:=aH (hG.below HB1.o);obtain ⟨b,off,ko,kc,hno,hb,-,c0,c1,c2,c3,c4,c5,c6,c7,c8,c9,hk⟩:=HG1.o.1 n x hx;have HK1:=aH hk;have HNO:=aH hno;have HQ:=aH (jK hg hn);have HAL:=aH (fun W h1 h2=>A2E M gr.ns.length g hg.len x.ks (fun _=>True) ko kc (hg.kid x (aM hx)) (hg.kl x (aM hx)) W h1 h2);have HON:=aH (fun W h1 h2=>A2Q M gr.ns.length g hg.len x.ks (fun _=>True) ko kc (hg.kid x (aM hx)) (hg.kl x (aM hx)) W h1 h2);have HBO:=aH (fun W h=>uQ gr a hg n hn W h);clear hno hk;unfold grv;unfold grv at HBO;obtain ⟨RES,hRES⟩:∃ z,tF gr M n=z:=⟨_,rfl⟩;obtain ⟨nn,nh,nms,nw,hnn,hnh,hnms,hnw⟩:=nG gr;obtain ⟨nk,hnk⟩:∃ z,x.ks.length=z:=⟨_,rfl⟩;obtain ⟨op,hop⟩:∃ z,x.op=z:=⟨_,rfl⟩;obtain ⟨q,hq⟩:∃ z,bY gr n=z:=⟨_,rfl⟩;have hn160:nn<=160:=by rw [<- hnn];exact hg.len
 rw [hnn] at hn;rw [hRES,hop,hq] at HRU;rw [hq,hnn] at HQ;rw [hnk,hnn] at HAL HON;rw [hnn,hnh,hnms,hnw,hq] at HBO;rw [hnn,hnh,hnms,hnw] at HB1 HO1 HM1 HG1 HK1 c0 c1 c2 c3 c4 c5 c6 c7 c8 c9 hb;rw [hnk] at c6;rw [hop] at c0;rw [hRES,hnn,hnh,hnms,hnw];have hn1:decide ((n:Int) < (nn:Int))=true:=aT (by omega);have hn2:decide (n < nn)=true:=aT hn;obtain ⟨B,hB⟩:∃ B,w.heap.size=B:=⟨_,rfl⟩;have HW1:=aH (show (w.alloc (.cells #[.slice a.mo nms a.mc,.slice a.no nn a.nc,.slice a.ho nh a.hc,.slice a.wo nw a.wc,.int .i64 gr.st] 27)).heap.size=B + 1 from by rw [<- hB];simp);rw [hB] at HO1;clear hx hg hG hm hRES hnn hnh hnms hnw hnk hop hq;go_enter Tryz.func53,Tryz.ntmps53;go_upto_region 1 with fail;generalize w.alloc (.cells #[.slice a.mo nms a.mc,.slice a.no nn a.nc,.slice a.ho nh a.hc,.slice a.wo nw a.wc,.int .i64 gr.st] 27)=w1 at *;try rw [hB]
 clear hB;obtain ⟨g0,g1,g2,g3,g4,gl⟩:=oG HO1.o;rw [HNO.o] at g1;have hbl:Below w1.heap.size w1 (w1.alloc (.cells #[.int .i64 op,.string x.tx,.int .u64 x.s0,.int .u64 x.s1,.int .u64 x.s2,.int .u64 x.s3,.slice ko nk kc,.int .i64 x.tg,.int .i64 (x.mo:Int),.int .i64 x.ru] 45)):=bA _;have HBL:=aH hbl;have HB2:=aH (HB1.o.trans (hbl.mono HB1.o.size));have HM2:=aH (HM1.o.under hbl HM1.o.lt);have HG2:=aH (HG1.o.below hbl);have HK2:=aH (HK1.o.below hbl);have HO2:=aH (HO1.o.under hbl HO1.o.lt);have HN2:=aH (Own.fresh w1 45 [.int .i64 op,.string x.tx,.int .u64 x.s0,.int .u64 x.s1,.int .u64 x.s2,.int .u64 x.s3,.slice ko nk kc,.int .i64 x.tg,.int .i64 (x.mo:Int),.int .i64 x.ru]);rw [HW1.o] at HN2;clear hbl;go_upto_region 2 with fail;generalize w1.alloc (.cells #[.int .i64 op,.string x.tx,.int .u64 x.s0,.int .u64 x.s1,.int .u64 x.s2,.int .u64 x.s3,.slice ko nk kc,.int .i64 x.tg,.int .i64 (x.mo:Int),.int .i64 x.ru] 45)=w2 at *;try rw [HW1.o]
 have y0:w2.cell? ⟨B + 1,0,none⟩=some (.int .i64 op):=HN2.o.cell 0;have y3:w2.cell? ⟨B + 1,6,none⟩=some (.slice ko nk kc):=HN2.o.cell 6;have yl:=HN2.o.lt;clear c0 c1 c2 c3 c4 c5 c6 c7 c8 c9 g0 g1 g2 g3 g4 gl hb HO1 HM1 HG1 HK1 HB1;rcases qR op with h | ⟨h1,h2,h3,hA,h4,h5,h6,h7,h8,h9,h10,h12,h13⟩
 ·
  rcases h with rfl | rfl | rfl | rfl | rfl | rfl | rfl | rfl | rfl | rfl | rfl | rfl | rfl
  · have HE:=aH (show RES=false from by rw [HRU.o];first | rfl | simp);go_wp2;go_ret;rw [HE.o];exact ⟨rfl,HB2.o⟩
  · have HE:=aH (show RES=false from by rw [HRU.o];first | rfl | simp);go_wp2;go_ret;rw [HE.o];exact ⟨rfl,HB2.o⟩
  · have HE:=aH (show RES=false from by rw [HRU.o];first | rfl | simp);go_wp2;go_ret;rw [HE.o];exact ⟨rfl,HB2.o⟩
  · have HE:=aH (show RES=M q from by rw [HRU.o];first | rfl | simp);obtain ⟨d0,d1,d2,d3,d4,dl⟩:=oG HO2.o;go_wp2_with fail;refine (HBO.o w2 HG2.o).mono ?_;rintro e w3 ⟨he,hb3⟩;subst he;have HM3:=aH (HM2.o.under hb3 HM2.o.lt);have HB3:=aH (HB2.o.trans (hb3.mono HB2.o.size));have hqn:=HQ.o;have m0:w3.cell? ⟨g,q,none⟩=some (.bool (M q)):=(by rw [HM3.o.cell q];exact bH M nn q hqn);have ml:=HM3.o.lt;have hq1:decide ((q:Int) < (nn:Int))=true:=aT (by omega);have hq2:decide (q < nn)=true:=aT hqn;obtain ⟨z,hz⟩:∃ z,M q=z:=⟨_,rfl⟩;rw [hz] at m0 HE;clear hb3 hz;go_wp2;go_ret;rw [HE.o];exact ⟨rfl,HB3.o⟩
  · have HE:=aH (show RES=x.ks.all M from by rw [HRU.o];first | rfl | simp);go_wp2_with fail;refine (HAL.o w2 HM2.o HK2.o).mono ?_;rintro e w3 ⟨he,hw3⟩;subst he;subst hw3;go_wp2;go_ret;rw [HE.o];exact ⟨rfl,HB2.o⟩
  · have HE:=aH (show RES=x.ks.any M from by rw [HRU.o];first | rfl | simp);go_wp2_with fail;refine (HON.o w2 HM2.o HK2.o).mono ?_;rintro e w3 ⟨he,hw3⟩;subst he;subst hw3;go_wp2;go_ret;rw [HE.o];exact ⟨rfl,HB2.o⟩
  · have HE:=aH (show RES=true from by rw [HRU.o];first | rfl | simp);go_wp2;go_ret;rw [HE.o];exact ⟨rfl,HB2.o⟩
  · have HE:=aH (show RES=x.ks.all M from by rw [HRU.o];first | rfl | simp);go_wp2_with fail;refine (HAL.o w2 HM2.o HK2.o).mono ?_;rintro e w3 ⟨he,hw3⟩;subst he;subst hw3;go_wp2;go_ret;rw [HE.o];exact ⟨rfl,HB2.o⟩
  · have HE:=aH (show RES=true from by rw [HRU.o];first | rfl | simp);go_wp2;go_ret;rw [HE.o];exact ⟨rfl,HB2.o⟩
  · have HE:=aH (show RES=true from by rw [HRU.o];first | rfl | simp);go_wp2;go_ret;rw [HE.o];exact ⟨rfl,HB2.o⟩
  · have HE:=aH (show RES=true from by rw [HRU.o];first | rfl | simp);go_wp2;go_ret;rw [HE.o];exact ⟨rfl,HB2.o⟩
  · have HE:=aH (show RES=x.ks.all M from by rw [HRU.o];first | rfl | simp);go_wp2_with fail;refine (HAL.o w2 HM2.o HK2.o).mono ?_;rintro e w3 ⟨he,hw3⟩;subst he;subst hw3;go_wp2;go_ret;rw [HE.o];exact ⟨rfl,HB2.o⟩
  · have HE:=aH (show RES=false from by rw [HRU.o];first | rfl | simp);go_wp2;go_ret;rw [HE.o];exact ⟨rfl,HB2.o⟩
 ·
  have HE:=aH (show RES=false from by
   simp only [aN] at h1 h2 h3 hA h4 h5 h6 h7 h8 h9 h10 h12 h13;rw [HRU.o]
   simp only [h4,h5,h6,h7,h8,h9,h10,hA,h12,if_false,or_self])
  go_wp2;go_ret;rw [HE.o];exact ⟨rfl,HB2.o⟩
theorem A8d (gr:Gj) (a:Gv) (hg:Good gr) (M:Nat->Bool) (n g:Nat) (hn:n < gr.ns.length) (w:World) (hG:dG w gr a) (hm:Own w g 4 (bZ M gr.ns.length)) :
  Calls Tryz.prog 52 #[grv gr a,.slice (some ⟨g,0,none⟩) gr.ns.length gr.ns.length,.int .i64 (n:Int)] w fun e w'=>e=.returned (.bool (sS gr M n))/\Below w.heap.size w w':=by
 obtain ⟨x,hx⟩:∃ x,gr.ns[n]?=some x:=⟨_,aG hn⟩;have HRU:=aH (show sS gr M n=if x.op=6\/x.op=8 then false else if x.op=4 then x.ks.any M else if x.op=5\/x.op=7\/x.op=12\/x.op=9 then x.ks.all M else if x.op=11 then M (bY gr n) else true from by unfold sS;rw [hx]);have HB1:=gB w a gr;have HO1:=gO w a gr;have HM1:=aH (hm.under HB1.o hm.lt);have HG1:=aH (hG.below HB1.o);obtain ⟨b,off,ko,kc,hno,hb,-,c0,c1,c2,c3,c4,c5,c6,c7,c8,c9,hk⟩:=HG1.o.1 n x hx;have HK1:=aH hk;have HNO:=aH hno;have HQ:=aH (jK hg hn);have HAL:=aH (fun W h1 h2=>A2E M gr.ns.length g hg.len x.ks (fun _=>True) ko kc (hg.kid x (aM hx)) (hg.kl x (aM hx)) W h1 h2);have HON:=aH (fun W h1 h2=>A2Q M gr.ns.length g hg.len x.ks (fun _=>True) ko kc (hg.kid x (aM hx)) (hg.kl x (aM hx)) W h1 h2);have HBO:=aH (fun W h=>uQ gr a hg n hn W h);clear hno hk;unfold grv;unfold grv at HBO;obtain ⟨RES,hRES⟩:∃ z,sS gr M n=z:=⟨_,rfl⟩;obtain ⟨nn,nh,nms,nw,hnn,hnh,hnms,hnw⟩:=nG gr;obtain ⟨nk,hnk⟩:∃ z,x.ks.length=z:=⟨_,rfl⟩;obtain ⟨op,hop⟩:∃ z,x.op=z:=⟨_,rfl⟩;obtain ⟨q,hq⟩:∃ z,bY gr n=z:=⟨_,rfl⟩;have hn160:nn<=160:=by rw [<- hnn];exact hg.len
 rw [hnn] at hn;rw [hRES,hop,hq] at HRU;rw [hq,hnn] at HQ;rw [hnk,hnn] at HAL HON;rw [hnn,hnh,hnms,hnw,hq] at HBO;rw [hnn,hnh,hnms,hnw] at HB1 HO1 HM1 HG1 HK1 c0 c1 c2 c3 c4 c5 c6 c7 c8 c9 hb;rw [hnk] at c6;rw [hop] at c0;rw [hRES,hnn,hnh,hnms,hnw];have hn1:decide ((n:Int) < (nn:Int))=true:=aT (by omega);have hn2:decide (n < nn)=true:=aT hn;obtain ⟨B,hB⟩:∃ B,w.heap.size=B:=⟨_,rfl⟩;have HW1:=aH (show (w.alloc (.cells #[.slice a.mo nms a.mc,.slice a.no nn a.nc,.slice a.ho nh a.hc,.slice a.wo nw a.wc,.int .i64 gr.st] 27)).heap.size=B + 1 from by rw [<- hB];simp);rw [hB] at HO1;clear hx hg hG hm hRES hnn hnh hnms hnw hnk hop hq;go_enter Tryz.func52,Tryz.ntmps52;go_upto_region 1 with fail;generalize w.alloc (.cells #[.slice a.mo nms a.mc,.slice a.no nn a.nc,.slice a.ho nh a.hc,.slice a.wo nw a.wc,.int .i64 gr.st] 27)=w1 at *;try rw [hB]
 clear hB;obtain ⟨g0,g1,g2,g3,g4,gl⟩:=oG HO1.o;rw [HNO.o] at g1;have hbl:Below w1.heap.size w1 (w1.alloc (.cells #[.int .i64 op,.string x.tx,.int .u64 x.s0,.int .u64 x.s1,.int .u64 x.s2,.int .u64 x.s3,.slice ko nk kc,.int .i64 x.tg,.int .i64 (x.mo:Int),.int .i64 x.ru] 45)):=bA _;have HBL:=aH hbl;have HB2:=aH (HB1.o.trans (hbl.mono HB1.o.size));have HM2:=aH (HM1.o.under hbl HM1.o.lt);have HG2:=aH (HG1.o.below hbl);have HK2:=aH (HK1.o.below hbl);have HO2:=aH (HO1.o.under hbl HO1.o.lt);have HN2:=aH (Own.fresh w1 45 [.int .i64 op,.string x.tx,.int .u64 x.s0,.int .u64 x.s1,.int .u64 x.s2,.int .u64 x.s3,.slice ko nk kc,.int .i64 x.tg,.int .i64 (x.mo:Int),.int .i64 x.ru]);rw [HW1.o] at HN2;clear hbl;go_upto_region 2 with fail;generalize w1.alloc (.cells #[.int .i64 op,.string x.tx,.int .u64 x.s0,.int .u64 x.s1,.int .u64 x.s2,.int .u64 x.s3,.slice ko nk kc,.int .i64 x.tg,.int .i64 (x.mo:Int),.int .i64 x.ru] 45)=w2 at *;try rw [HW1.o]
 have y0:w2.cell? ⟨B + 1,0,none⟩=some (.int .i64 op):=HN2.o.cell 0;have y3:w2.cell? ⟨B + 1,6,none⟩=some (.slice ko nk kc):=HN2.o.cell 6;have yl:=HN2.o.lt;clear c0 c1 c2 c3 c4 c5 c6 c7 c8 c9 g0 g1 g2 g3 g4 gl hb HO1 HM1 HG1 HK1 HB1;rcases qR op with h | ⟨h1,h2,h3,hA,h4,h5,h6,h7,h8,h9,h10,h12,h13⟩
 ·
  rcases h with rfl | rfl | rfl | rfl | rfl | rfl | rfl | rfl | rfl | rfl | rfl | rfl | rfl
  · have HE:=aH (show RES=true from by rw [HRU.o];first | rfl | simp);go_wp2;go_ret;rw [HE.o];exact ⟨rfl,HB2.o⟩
  · have HE:=aH (show RES=true from by rw [HRU.o];first | rfl | simp);go_wp2;go_ret;rw [HE.o];exact ⟨rfl,HB2.o⟩
  · have HE:=aH (show RES=true from by rw [HRU.o];first | rfl | simp);go_wp2;go_ret;rw [HE.o];exact ⟨rfl,HB2.o⟩
  · have HE:=aH (show RES=M q from by rw [HRU.o];first | rfl | simp);obtain ⟨d0,d1,d2,d3,d4,dl⟩:=oG HO2.o;go_wp2_with fail;refine (HBO.o w2 HG2.o).mono ?_;rintro e w3 ⟨he,hb3⟩;subst he;have HM3:=aH (HM2.o.under hb3 HM2.o.lt);have HB3:=aH (HB2.o.trans (hb3.mono HB2.o.size));have hqn:=HQ.o;have m0:w3.cell? ⟨g,q,none⟩=some (.bool (M q)):=(by rw [HM3.o.cell q];exact bH M nn q hqn);have ml:=HM3.o.lt;have hq1:decide ((q:Int) < (nn:Int))=true:=aT (by omega);have hq2:decide (q < nn)=true:=aT hqn;obtain ⟨z,hz⟩:∃ z,M q=z:=⟨_,rfl⟩;rw [hz] at m0 HE;clear hb3 hz;go_wp2;go_ret;rw [HE.o];exact ⟨rfl,HB3.o⟩
  · have HE:=aH (show RES=x.ks.any M from by rw [HRU.o];first | rfl | simp);go_wp2_with fail;refine (HON.o w2 HM2.o HK2.o).mono ?_;rintro e w3 ⟨he,hw3⟩;subst he;subst hw3;go_wp2;go_ret;rw [HE.o];exact ⟨rfl,HB2.o⟩
  · have HE:=aH (show RES=x.ks.all M from by rw [HRU.o];first | rfl | simp);go_wp2_with fail;refine (HAL.o w2 HM2.o HK2.o).mono ?_;rintro e w3 ⟨he,hw3⟩;subst he;subst hw3;go_wp2;go_ret;rw [HE.o];exact ⟨rfl,HB2.o⟩
  · have HE:=aH (show RES=false from by rw [HRU.o];first | rfl | simp);go_wp2;go_ret;rw [HE.o];exact ⟨rfl,HB2.o⟩
  · have HE:=aH (show RES=x.ks.all M from by rw [HRU.o];first | rfl | simp);go_wp2_with fail;refine (HAL.o w2 HM2.o HK2.o).mono ?_;rintro e w3 ⟨he,hw3⟩;subst he;subst hw3;go_wp2;go_ret;rw [HE.o];exact ⟨rfl,HB2.o⟩
  · have HE:=aH (show RES=false from by rw [HRU.o];first | rfl | simp);go_wp2;go_ret;rw [HE.o];exact ⟨rfl,HB2.o⟩
  · have HE:=aH (show RES=x.ks.all M from by rw [HRU.o];first | rfl | simp);go_wp2_with fail;refine (HAL.o w2 HM2.o HK2.o).mono ?_;rintro e w3 ⟨he,hw3⟩;subst he;subst hw3;go_wp2;go_ret;rw [HE.o];exact ⟨rfl,HB2.o⟩
  · have HE:=aH (show RES=true from by rw [HRU.o];first | rfl | simp);go_wp2;go_ret;rw [HE.o];exact ⟨rfl,HB2.o⟩
  · have HE:=aH (show RES=x.ks.all M from by rw [HRU.o];first | rfl | simp);go_wp2_with fail;refine (HAL.o w2 HM2.o HK2.o).mono ?_;rintro e w3 ⟨he,hw3⟩;subst he;subst hw3;go_wp2;go_ret;rw [HE.o];exact ⟨rfl,HB2.o⟩
  · have HE:=aH (show RES=true from by rw [HRU.o];first | rfl | simp);go_wp2;go_ret;rw [HE.o];exact ⟨rfl,HB2.o⟩
 ·
  have HE:=aH (show RES=true from by
   simp only [aN] at h1 h2 h3 hA h4 h5 h6 h7 h8 h9 h10 h12 h13;rw [HRU.o]
   simp only [h4,h5,h6,h7,h8,h9,hA,h12,if_false,or_self])
  go_wp2;go_ret;rw [HE.o];exact ⟨rfl,HB2.o⟩
theorem B3Q (gr:Gj) (a:Gv) (hg:Good gr)
  (w:World) (hG:dG w gr a) :
  Calls Tryz.prog 33 #[grv gr a,.bool false] w fun e w'=>∃ g,e=.returned (.slice (some ⟨g,0,none⟩) gr.ns.length gr.ns.length)/\Own w' g 4 (bZ (gK (tF gr) gr.ns.length (gr.ns.length + 1) (fun _=>false)) gr.ns.length)/\w.heap.size<=g/\Below w.heap.size w w':=by
 have HF:=aH (fun (M:Nat->Bool) (n g:Nat) (W:World) (hn:n < gr.ns.length) (h1:dG W gr a) (h2:Own W g 4 (bZ M gr.ns.length))=>A8f gr a hg M n g hn W h1 h2);have HB1:=gB w a gr;have HO1:=gO w a gr;have HG1:=aH ((hG.mono (T:=fun b=>b < w.heap.size) (fun _ h _=>h)).below HB1.o);obtain ⟨RES,hRES⟩:∃ z,gK (tF gr) gr.ns.length (gr.ns.length + 1) (fun _=>false)=z:=⟨_,rfl⟩;have HR0:=aH hRES;rw [hRES];unfold grv;unfold grv at HF;obtain ⟨nn,nh,nms,nw,hnn,hnh,hnms,hnw⟩:=nG gr;have hn160:(nn:Int)<=160:=by have:=hg.len;omega
 rw [hnn] at HR0;rw [hnn,hnh,hnms,hnw] at HF HB1 HO1 HG1;rw [hnn,hnh,hnms,hnw];obtain ⟨B,hB⟩:∃ B,w.heap.size=B:=⟨_,rfl⟩;have HW1:=aH (show (w.alloc (.cells #[.slice a.mo nms a.mc,.slice a.no nn a.nc,.slice a.ho nh a.hc,.slice a.wo nw a.wc,.int .i64 gr.st] 27)).heap.size=B + 1 from by rw [<- hB];simp);have HBE:=aH hB;rw [hB] at HO1;clear hg hG hRES hnn hnh hnms hnw;have hmk:∀ W:World,(Instr.makeSlice 39 (.int .i64 (nn:Int)) (.int .i64 (nn:Int))).run Tryz.prog W=.ok (.slice (some ⟨W.heap.size,0,none⟩) nn nn) (W.alloc (.cells (Array.replicate nn (Value.bool false)) 4)):=fun W=>mY nn (by omega) W;go_enter Tryz.func33,Tryz.ntmps33;go_upto_region 1 with fail;generalize w.alloc (.cells #[.slice a.mo nms a.mc,.slice a.no nn a.nc,.slice a.ho nh a.hc,.slice a.wo nw a.wc,.int .i64 gr.st] 27)=w1 at *;try rw [hB]
 clear hB;have g0:w1.cell? ⟨B,0,none⟩=some (.slice a.mo nms a.mc):=HO1.o.cell 0;have g1:w1.cell? ⟨B,1,none⟩=some (.slice a.no nn a.nc):=HO1.o.cell 1;have gl:=HO1.o.lt;have hbl:Below w1.heap.size w1 (w1.alloc (.cells (Array.replicate nn (Value.bool false)) 4)):=bA _;have HB2:=aH (HB1.o.trans (hbl.mono HB1.o.size));have HG2:=aH (HG1.o.below hbl);have HO2:=aH (HO1.o.under hbl HO1.o.lt);have HM2:=aH (show Own (w1.alloc (.cells (Array.replicate nn (Value.bool false)) 4)) (B + 1) 4 (bZ (fun _=>false) nn) by rw [nT,<- List.toArray_replicate,<- HW1.o];exact Own.fresh w1 4 _);clear hbl;go_upto_region 3 with fail;generalize w1.alloc (.cells (Array.replicate nn (Value.bool false)) 4)=w2 at *;try rw [HW1.o]
 clear g0 g1 gl hmk HO1 HG1 HB1
 go_loopg [6] (nn + 1) (fun f v6 wr=>∃ (M:Nat->Bool) (z:Bool),v6=.bool z/\aQ (RES=if z=true then gK (tF gr) nn f M else M)/\aQ (z=true->bF M nn < f)/\aQ (Own wr (B + 1) 4 (bZ M nn))/\aQ (Own wr B 27 [.slice a.mo nms a.mc,.slice a.no nn a.nc,.slice a.ho nh a.hc,.slice a.wo nw a.wc,.int .i64 gr.st])/\aQ (mG wr (fun b=>b < w.heap.size) gr a)/\aQ (Below w.heap.size w wr))
 case atStart=>exact ⟨fun _=>false,true,rfl,aH (by rw [if_pos rfl];exact HR0.o.symm),aH (fun _=>by have:=iQ (fun _=>false) nn;omega),HM2,HO2,HG2,HB2⟩
 case round =>
  obtain ⟨M,z,rfl,HS,HLK,HM,HO,HG,HB⟩:=hrel
  cases z with
  | false =>
   have HE:=aH (show RES=M from by rw [HS.o,if_neg (by decide)]);go_wp2;go_ret;exact ⟨B + 1,rfl,by rw [HE.o];exact HM.o,by have:=HBE.o;omega,HB.o⟩
  | true =>
   obtain ⟨f,rfl⟩:∃ f,gk=f + 1:=⟨gk - 1,by have:=HLK.o rfl;omega⟩;have HS1:=aH (show RES=gK (tF gr) nn (f + 1) M from by rw [HS.o,if_pos rfl]);have HL1:=aH (HLK.o rfl);clear HM2 HO2 HG2 HB2 HS HLK;have g1:wr.cell? ⟨B,1,none⟩=some (.slice a.no nn a.nc):=HO.o.cell 1;have gl:=HO.o.lt;go_wp2_with fail
   go_loopg [6,7] nn (fun j v6 v16 wx=>∃ (k:Nat) (M1:Nat->Bool) (z:Bool),v6=.bool z/\v16=.int .i64 (k:Int)/\k + j=nn/\aQ (dP (tF gr) nn 0 M false=dP (tF gr) (nn - k) k M1 z)/\aQ (bF M1 nn + (if z=true then 1 else 0)<=bF M nn)/\aQ (Own wx (B + 1) 4 (bZ M1 nn))/\aQ (Own wx B 27 [.slice a.mo nms a.mc,.slice a.no nn a.nc,.slice a.ho nh a.hc,.slice a.wo nw a.wc,.int .i64 gr.st])/\aQ (mG wx (fun b=>b < w.heap.size) gr a)/\aQ (Below w.heap.size w wx))
   case atStart=>exact ⟨0,M,false,rfl,rfl,by omega,aH rfl,aH (Nat.le_refl _),HM,HO,HG,HB⟩
   case round =>
    obtain ⟨k,M1,z,rfl,rfl,hkj,HP,HL,HMx,HOx,HGx,HBx⟩:=hrel;clear HM HO HG HB g1 gl;by_cases hk:k < nn
    ·
     obtain ⟨j,rfl⟩:∃ j,gk=j + 1:=⟨gk - 1,by omega⟩;have hk1:decide ((k:Int) < (nn:Int))=true:=aT (by omega);have hk2:decide (k < nn)=true:=aT hk;have hw1:IntKind.i64.wrap ((k:Int) + 1)=(k:Int) + 1:=wI;have m0:wr.cell? ⟨B + 1,k,none⟩=some (.bool (M1 k)):=(by rw [HMx.o.cell k];exact bH M1 nn k hk);have ml:=HMx.o.lt;obtain ⟨g0,g1,g2,g3,g4,gl⟩:=oG HOx.o;obtain ⟨b1,hb1⟩:∃ z,M1 k=z:=⟨_,rfl⟩;have HBK:=aH hb1;rw [hb1] at m0;clear hb1
     cases b1 with
     | true =>
      have HPN:=aH (show dP (tF gr) nn 0 M false=dP (tF gr) (nn - (k + 1)) (k + 1) M1 z from HP.o.trans (mW hk (by rw [HBK.o];rfl)));go_wp2
      go_roundg j
      case measure=>omega
      case rel=>exact ⟨k + 1,M1,z,rfl,by go_num,by omega,HPN,HL,HMx,HOx,HGx,HBx⟩
     | false =>
      have HC:=aH (HF.o M1 k (B + 1) wr hk (HGx.o.mono fun _ _ _=>trivial) HMx.o);go_wp2_with fail;refine HC.o.mono ?_;rintro e wy ⟨he,hby⟩;subst he;have HMy:=aH (HMx.o.under hby HMx.o.lt);have HOy:=aH (HOx.o.under hby HOx.o.lt);have HGy:=aH (HGx.o.below hby);have HBy:=aH (HBx.o.trans (hby.mono HBx.o.size));clear hby HMx HOx HGx HBx g0 g1 g2 g3 g4 gl m0 ml HC;obtain ⟨r,hr⟩:∃ z,(tF gr) M1 k=z:=⟨_,rfl⟩;have HRK:=aH hr;rw [hr];clear hr
      cases r with
      | false =>
       have HPN:=aH (show dP (tF gr) nn 0 M false=dP (tF gr) (nn - (k + 1)) (k + 1) M1 z from HP.o.trans (mW hk (by rw [HBK.o,HRK.o];rfl)));go_wp2
       go_roundg j
       case measure=>omega
       case rel=>exact ⟨k + 1,M1,z,rfl,by go_num,by omega,HPN,HL,HMy,HOy,HGy,HBy⟩
      | true =>
       have HPN:=aH (show dP (tF gr) nn 0 M false=dP (tF gr) (nn - (k + 1)) (k + 1) (dC M1 k) true from HP.o.trans (Bp hk HBK.o HRK.o))
       have HLN:=aH (show bF (dC M1 k) nn + (if true=true then 1 else 0)<=bF M nn from by
        have h1:=iR M1 k HBK.o nn;have h2:=gZ M1 k HBK.o nn hk;rw [if_pos hk] at h1;have h3:=HL.o;rw [h1,if_pos rfl]
        omega)
       have m0:wy.cell? ⟨B + 1,k,none⟩=some (.bool false):=(by rw [HMy.o.cell k,bH M1 nn k hk,HBK.o]);have f0:wy.frozen? ⟨B + 1,k,none⟩=false:=HMy.o.thaw k;have ml:=HMy.o.lt;have hbt:But (fun j=>j=B + 1) wy (wy.setCell ⟨B + 1,k,none⟩ (.bool true)):=(But.refl (fun j=>j=B + 1) wy).setCell (p:=⟨B + 1,k,none⟩) (fun _=>rfl) _;have HMz:=aH (show Own (wy.setCell ⟨B + 1,k,none⟩ (.bool true)) (B + 1) 4 (bZ (dC M1 k) nn) from by rw [<- qX M1 nn k hk];exact HMy.o.put k (.bool true));have HOz:=aH (HOy.o.but hbt (by show ¬ B=B + 1;omega));have HGz:=aH (HGy.o.but hbt (fun j _ hj h=>by have:=HBE.o;have:j=B + 1:=h;omega));have HBz:=aH (HBy.o.trans (hbt.below (B:=w.heap.size) HBy.o.size (fun j h=>by have:=HBE.o;omega)));clear hbt;go_wp2
       go_roundg j
       case measure=>omega
       case rel=>exact ⟨k + 1,dC M1 k,true,rfl,by go_num,by omega,HPN,HLN,HMz,HOz,HGz,HBz⟩
    ·
     have hk1:decide ((k:Int) < (nn:Int))=false:=aF (by omega);have hk2:decide (k < nn)=false:=aF hk;have HP2:=aH (show dP (tF gr) nn 0 M false=(M1,z) from HP.o.trans (by rw [show nn - k=0 by omega];rfl))
     have HSN:=aH (show RES=if z=true then gK (tF gr) nn f M1 else M1 from by
      rw [HS1.o]
      show (match dP (tF gr) nn 0 M false with
       | (M',true)=>gK (tF gr) nn f M'
       | (M',false)=>M')=_
      rw [HP2.o]
      cases z <;> rfl)
     have HLN:=aH (show z=true->bF M1 nn < f from fun h=>by
      have h1:=HL.o;have h2:=HL1.o;rw [if_pos h] at h1
      omega)
     go_wp2
     go_roundg f
     case measure=>omega
     case rel=>exact ⟨M1,z,rfl,HSN,HLN,HMx,HOx,HGx,HBx⟩
theorem B3R (gr:Gj) (a:Gv) (hg:Good gr)
  (w:World) (hG:dG w gr a) :
  Calls Tryz.prog 33 #[grv gr a,.bool true] w fun e w'=>∃ g,e=.returned (.slice (some ⟨g,0,none⟩) gr.ns.length gr.ns.length)/\Own w' g 4 (bZ (gK (sS gr) gr.ns.length (gr.ns.length + 1) (fun _=>false)) gr.ns.length)/\w.heap.size<=g/\Below w.heap.size w w':=by
 have HF:=aH (fun (M:Nat->Bool) (n g:Nat) (W:World) (hn:n < gr.ns.length) (h1:dG W gr a) (h2:Own W g 4 (bZ M gr.ns.length))=>A8d gr a hg M n g hn W h1 h2);have HB1:=gB w a gr;have HO1:=gO w a gr;have HG1:=aH ((hG.mono (T:=fun b=>b < w.heap.size) (fun _ h _=>h)).below HB1.o);obtain ⟨RES,hRES⟩:∃ z,gK (sS gr) gr.ns.length (gr.ns.length + 1) (fun _=>false)=z:=⟨_,rfl⟩;have HR0:=aH hRES;rw [hRES];unfold grv;unfold grv at HF;obtain ⟨nn,nh,nms,nw,hnn,hnh,hnms,hnw⟩:=nG gr;have hn160:(nn:Int)<=160:=by have:=hg.len;omega
 rw [hnn] at HR0;rw [hnn,hnh,hnms,hnw] at HF HB1 HO1 HG1;rw [hnn,hnh,hnms,hnw];obtain ⟨B,hB⟩:∃ B,w.heap.size=B:=⟨_,rfl⟩;have HW1:=aH (show (w.alloc (.cells #[.slice a.mo nms a.mc,.slice a.no nn a.nc,.slice a.ho nh a.hc,.slice a.wo nw a.wc,.int .i64 gr.st] 27)).heap.size=B + 1 from by rw [<- hB];simp);have HBE:=aH hB;rw [hB] at HO1;clear hg hG hRES hnn hnh hnms hnw;have hmk:∀ W:World,(Instr.makeSlice 39 (.int .i64 (nn:Int)) (.int .i64 (nn:Int))).run Tryz.prog W=.ok (.slice (some ⟨W.heap.size,0,none⟩) nn nn) (W.alloc (.cells (Array.replicate nn (Value.bool false)) 4)):=fun W=>mY nn (by omega) W;go_enter Tryz.func33,Tryz.ntmps33;go_upto_region 1 with fail;generalize w.alloc (.cells #[.slice a.mo nms a.mc,.slice a.no nn a.nc,.slice a.ho nh a.hc,.slice a.wo nw a.wc,.int .i64 gr.st] 27)=w1 at *;try rw [hB]
 clear hB;have g0:w1.cell? ⟨B,0,none⟩=some (.slice a.mo nms a.mc):=HO1.o.cell 0;have g1:w1.cell? ⟨B,1,none⟩=some (.slice a.no nn a.nc):=HO1.o.cell 1;have gl:=HO1.o.lt;have hbl:Below w1.heap.size w1 (w1.alloc (.cells (Array.replicate nn (Value.bool false)) 4)):=bA _;have HB2:=aH (HB1.o.trans (hbl.mono HB1.o.size));have HG2:=aH (HG1.o.below hbl);have HO2:=aH (HO1.o.under hbl HO1.o.lt);have HM2:=aH (show Own (w1.alloc (.cells (Array.replicate nn (Value.bool false)) 4)) (B + 1) 4 (bZ (fun _=>false) nn) by rw [nT,<- List.toArray_replicate,<- HW1.o];exact Own.fresh w1 4 _);clear hbl;go_upto_region 3 with fail;generalize w1.alloc (.cells (Array.replicate nn (Value.bool false)) 4)=w2 at *;try rw [HW1.o]
 clear g0 g1 gl hmk HO1 HG1 HB1
 go_loopg [6] (nn + 1) (fun f v6 wr=>∃ (M:Nat->Bool) (z:Bool),v6=.bool z/\aQ (RES=if z=true then gK (sS gr) nn f M else M)/\aQ (z=true->bF M nn < f)/\aQ (Own wr (B + 1) 4 (bZ M nn))/\aQ (Own wr B 27 [.slice a.mo nms a.mc,.slice a.no nn a.nc,.slice a.ho nh a.hc,.slice a.wo nw a.wc,.int .i64 gr.st])/\aQ (mG wr (fun b=>b < w.heap.size) gr a)/\aQ (Below w.heap.size w wr))
 case atStart=>exact ⟨fun _=>false,true,rfl,aH (by rw [if_pos rfl];exact HR0.o.symm),aH (fun _=>by have:=iQ (fun _=>false) nn;omega),HM2,HO2,HG2,HB2⟩
 case round =>
  obtain ⟨M,z,rfl,HS,HLK,HM,HO,HG,HB⟩:=hrel
  cases z with
  | false =>
   have HE:=aH (show RES=M from by rw [HS.o,if_neg (by decide)]);go_wp2;go_ret;exact ⟨B + 1,rfl,by rw [HE.o];exact HM.o,by have:=HBE.o;omega,HB.o⟩
  | true =>
   obtain ⟨f,rfl⟩:∃ f,gk=f + 1:=⟨gk - 1,by have:=HLK.o rfl;omega⟩;have HS1:=aH (show RES=gK (sS gr) nn (f + 1) M from by rw [HS.o,if_pos rfl]);have HL1:=aH (HLK.o rfl);clear HM2 HO2 HG2 HB2 HS HLK;have g1:wr.cell? ⟨B,1,none⟩=some (.slice a.no nn a.nc):=HO.o.cell 1;have gl:=HO.o.lt;go_wp2_with fail
   go_loopg [6,7] nn (fun j v6 v16 wx=>∃ (k:Nat) (M1:Nat->Bool) (z:Bool),v6=.bool z/\v16=.int .i64 (k:Int)/\k + j=nn/\aQ (dP (sS gr) nn 0 M false=dP (sS gr) (nn - k) k M1 z)/\aQ (bF M1 nn + (if z=true then 1 else 0)<=bF M nn)/\aQ (Own wx (B + 1) 4 (bZ M1 nn))/\aQ (Own wx B 27 [.slice a.mo nms a.mc,.slice a.no nn a.nc,.slice a.ho nh a.hc,.slice a.wo nw a.wc,.int .i64 gr.st])/\aQ (mG wx (fun b=>b < w.heap.size) gr a)/\aQ (Below w.heap.size w wx))
   case atStart=>exact ⟨0,M,false,rfl,rfl,by omega,aH rfl,aH (Nat.le_refl _),HM,HO,HG,HB⟩
   case round =>
    obtain ⟨k,M1,z,rfl,rfl,hkj,HP,HL,HMx,HOx,HGx,HBx⟩:=hrel;clear HM HO HG HB g1 gl;by_cases hk:k < nn
    ·
     obtain ⟨j,rfl⟩:∃ j,gk=j + 1:=⟨gk - 1,by omega⟩;have hk1:decide ((k:Int) < (nn:Int))=true:=aT (by omega);have hk2:decide (k < nn)=true:=aT hk;have hw1:IntKind.i64.wrap ((k:Int) + 1)=(k:Int) + 1:=wI;have m0:wr.cell? ⟨B + 1,k,none⟩=some (.bool (M1 k)):=(by rw [HMx.o.cell k];exact bH M1 nn k hk);have ml:=HMx.o.lt;obtain ⟨g0,g1,g2,g3,g4,gl⟩:=oG HOx.o;obtain ⟨b1,hb1⟩:∃ z,M1 k=z:=⟨_,rfl⟩;have HBK:=aH hb1;rw [hb1] at m0;clear hb1
     cases b1 with
     | true =>
      have HPN:=aH (show dP (sS gr) nn 0 M false=dP (sS gr) (nn - (k + 1)) (k + 1) M1 z from HP.o.trans (mW hk (by rw [HBK.o];rfl)));go_wp2
      go_roundg j
      case measure=>omega
      case rel=>exact ⟨k + 1,M1,z,rfl,by go_num,by omega,HPN,HL,HMx,HOx,HGx,HBx⟩
     | false =>
      have HC:=aH (HF.o M1 k (B + 1) wr hk (HGx.o.mono fun _ _ _=>trivial) HMx.o);go_wp2_with fail;refine HC.o.mono ?_;rintro e wy ⟨he,hby⟩;subst he;have HMy:=aH (HMx.o.under hby HMx.o.lt);have HOy:=aH (HOx.o.under hby HOx.o.lt);have HGy:=aH (HGx.o.below hby);have HBy:=aH (HBx.o.trans (hby.mono HBx.o.size));clear hby HMx HOx HGx HBx g0 g1 g2 g3 g4 gl m0 ml HC;obtain ⟨r,hr⟩:∃ z,(sS gr) M1 k=z:=⟨_,rfl⟩;have HRK:=aH hr;rw [hr];clear hr
      cases r with
      | false =>
       have HPN:=aH (show dP (sS gr) nn 0 M false=dP (sS gr) (nn - (k + 1)) (k + 1) M1 z from HP.o.trans (mW hk (by rw [HBK.o,HRK.o];rfl)));go_wp2
       go_roundg j
       case measure=>omega
       case rel=>exact ⟨k + 1,M1,z,rfl,by go_num,by omega,HPN,HL,HMy,HOy,HGy,HBy⟩
      | true =>
       have HPN:=aH (show dP (sS gr) nn 0 M false=dP (sS gr) (nn - (k + 1)) (k + 1) (dC M1 k) true from HP.o.trans (Bp hk HBK.o HRK.o))
       have HLN:=aH (show bF (dC M1 k) nn + (if true=true then 1 else 0)<=bF M nn from by
        have h1:=iR M1 k HBK.o nn;have h2:=gZ M1 k HBK.o nn hk;rw [if_pos hk] at h1;have h3:=HL.o;rw [h1,if_pos rfl]
        omega)
       have m0:wy.cell? ⟨B + 1,k,none⟩=some (.bool false):=(by rw [HMy.o.cell k,bH M1 nn k hk,HBK.o]);have f0:wy.frozen? ⟨B + 1,k,none⟩=false:=HMy.o.thaw k;have ml:=HMy.o.lt;have hbt:But (fun j=>j=B + 1) wy (wy.setCell ⟨B + 1,k,none⟩ (.bool true)):=(But.refl (fun j=>j=B + 1) wy).setCell (p:=⟨B + 1,k,none⟩) (fun _=>rfl) _;have HMz:=aH (show Own (wy.setCell ⟨B + 1,k,none⟩ (.bool true)) (B + 1) 4 (bZ (dC M1 k) nn) from by rw [<- qX M1 nn k hk];exact HMy.o.put k (.bool true));have HOz:=aH (HOy.o.but hbt (by show ¬ B=B + 1;omega));have HGz:=aH (HGy.o.but hbt (fun j _ hj h=>by have:=HBE.o;have:j=B + 1:=h;omega));have HBz:=aH (HBy.o.trans (hbt.below (B:=w.heap.size) HBy.o.size (fun j h=>by have:=HBE.o;omega)));clear hbt;go_wp2
       go_roundg j
       case measure=>omega
       case rel=>exact ⟨k + 1,dC M1 k,true,rfl,by go_num,by omega,HPN,HLN,HMz,HOz,HGz,HBz⟩
    ·
     have hk1:decide ((k:Int) < (nn:Int))=false:=aF (by omega);have hk2:decide (k < nn)=false:=aF hk;have HP2:=aH (show dP (sS gr) nn 0 M false=(M1,z) from HP.o.trans (by rw [show nn - k=0 by omega];rfl))
     have HSN:=aH (show RES=if z=true then gK (sS gr) nn f M1 else M1 from by
      rw [HS1.o]
      show (match dP (sS gr) nn 0 M false with
       | (M',true)=>gK (sS gr) nn f M'
       | (M',false)=>M')=_
      rw [HP2.o]
      cases z <;> rfl)
     have HLN:=aH (show z=true->bF M1 nn < f from fun h=>by
      have h1:=HL.o;have h2:=HL1.o;rw [if_pos h] at h1
      omega)
     go_wp2
     go_roundg f
     case measure=>omega
     case rel=>exact ⟨M1,z,rfl,HSN,HLN,HMx,HOx,HGx,HBx⟩
theorem nW (gr:Gj) (a:Gv) (hg:Good gr) (w:World) (hG:dG w gr a):Calls Tryz.prog 15 #[grv gr a] w (BoE gr (aZ gr) w):=by
 have HB1:=gB w a gr;have HO1:=gO w a gr;have HL:=aH (B3Q gr a hg (w.alloc (.cells #[.slice a.mo gr.ms.length a.mc,.slice a.no gr.ns.length a.nc,.slice a.ho gr.hs.length a.hc,.slice a.wo gr.ws.length a.wc,.int .i64 gr.st] 27)) (hG.below HB1.o));unfold grv;unfold grv at HL;obtain ⟨B,hB⟩:∃ B,w.heap.size=B:=⟨_,rfl⟩;rw [hB] at HO1;have HBE:=aH hB;clear hg hG;go_enter Tryz.func15,Tryz.ntmps15;go_upto_region 1 with fail;generalize w.alloc (.cells #[.slice a.mo gr.ms.length a.mc,.slice a.no gr.ns.length a.nc,.slice a.ho gr.hs.length a.hc,.slice a.wo gr.ws.length a.wc,.int .i64 gr.st] 27)=w1 at *;try rw [hB]
 clear hB;have g0:=HO1.o.cell 0;have g1:=HO1.o.cell 1;have g2:=HO1.o.cell 2;have g3:=HO1.o.cell 3;have g4:=HO1.o.cell 4;have gl:=HO1.o.lt;simp only [List.getElem?_cons_zero,List.getElem?_cons_succ] at g0 g1 g2 g3 g4;go_wp2_with fail;refine HL.o.mono ?_;rintro e w2 ⟨g,he,hO,hgs,hb⟩;subst he;have HO:=aH hO;have HB2:=aH (HB1.o.trans (hb.mono HB1.o.size));have HGS:=aH (show w.heap.size<=g from Nat.le_trans HB1.o.size hgs);clear hO hb hgs g0 g1 g2 g3 g4 gl;go_wp2;go_ret;exact ⟨g,rfl,HO.o,HGS.o,HB2.o⟩
end Go.Proofs.YthddifjhoniacaaGreat
