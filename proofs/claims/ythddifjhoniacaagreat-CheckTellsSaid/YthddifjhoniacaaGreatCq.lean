import Derived.Test.YthddifjhoniacaaGreatCk
import Derived.Test.YthddifjhoniacaaGreatRc
namespace Go.Proofs.YthddifjhoniacaaGreat
set_option linter.unusedVariables false
set_option maxHeartbeats 6400000
set_option maxRecDepth 1000000
open Go.RowKit Go.Sort
theorem A1j (gr:Gj) (a:Gv) (hg:Good gr) (har:∀ x ∈ gr.ns,Ar x) (hw:WaG gr.ns gr.ws gr.ws.length) (w:World) (hG:dG w gr a) :
  Calls Tryz.prog 32 #[grv gr a] w fun e w'=>e=.returned (.int .i64 (yS gr gr.ns.length 0))/\Below w.heap.size w w':=by
 have HGD:=aH hg;have HARR:=aH har;have HWA:=aH hw;have HB1:=gB w a gr;have HO1:=gO w a gr;have HG1:=aH (hG.below HB1.o);have hn160:=hg.len;have HNU:=aH (fun W h=>nW gr a hg W h);obtain ⟨RES,hRES⟩:∃ z,yS gr gr.ns.length 0=z:=⟨_,rfl⟩;have HR0:=aH hRES.symm;rw [hRES];unfold BoE at HNU;unfold grv at HNU;unfold grv;obtain ⟨nn,nh,nms,nw,hnn,hnh,hnms,hnw⟩:=nG gr;have HLN:=aH hnn;have HLW:=aH hnw;simp only [hnn,hnh,hnms,hnw] at HO1 HB1 HNU HG1 HR0 hn160;rw [hnn,hnh,hnms,hnw];obtain ⟨B,hB⟩:∃ B,w.heap.size=B:=⟨_,rfl⟩;rw [hB] at HO1;clear hg har hw hG hRES hnn hnh hnms hnw;go_enter Tryz.func32,Tryz.ntmps32;go_upto_region 1 with fail;generalize w.alloc (.cells #[.slice a.mo nms a.mc,.slice a.no nn a.nc,.slice a.ho nh a.hc,.slice a.wo nw a.wc,.int .i64 gr.st] 27)=w2 at *;try rw [hB]
 clear hB
 have HCG:=aH (show ∀ W,Below w2.heap.size w2 W->W.cell? ⟨B,0,none⟩=some (.slice a.mo nms a.mc)/\W.cell? ⟨B,1,none⟩=some (.slice a.no nn a.nc)/\W.cell? ⟨B,2,none⟩=some (.slice a.ho nh a.hc)/\W.cell? ⟨B,3,none⟩=some (.slice a.wo nw a.wc)/\W.cell? ⟨B,4,none⟩=some (.int .i64 gr.st)/\B < W.heap.size from fun W h=>by
  have q:=HO1.o.under h HO1.o.lt
  exact ⟨q.cell 0,q.cell 1,q.cell 2,q.cell 3,q.cell 4,q.lt⟩)
 obtain ⟨g0,g1,g2,g3,g4,gl⟩:=HCG.o w2 (Below.refl _ _);go_wp2_with fail;refine (HNU.o w2 HG1.o).mono ?_;rintro e w3 ⟨u,he,hu,-,hb3⟩;subst he;have HU3:=aH hu;have HR3:=aH hb3;clear hu hb3 g0 g1 g2 g3 g4 gl;go_wp2_with fail
 go_loopw [4] (fun v4 wr=>∃ n:Nat,v4=.int .i64 (n:Int)/\(n:Int)<=nn/\aQ (RES=yS gr (nn - n) n)/\aQ (Below w3.heap.size w3 wr)) (fun v4 _=>nn - (intOf v4).toNat)
 case atStart=>exact ⟨0,rfl,by omega,HR0,aH (Below.refl _ _)⟩
 case round =>
  obtain ⟨n,rfl,hn,HH,HB⟩:=hrel;obtain ⟨wo,hwo⟩:∃ z,z=wr:=⟨_,rfl⟩;subst hwo;have HR4:=aH (HR3.o.trans (HB.o.mono HR3.o.size));obtain ⟨g0,g1,g2,g3,g4,gl⟩:=HCG.o wo HR4.o;by_cases hnn:(n:Int) < nn
  ·
   have hn1:decide ((n:Int) < (nn:Int))=true:=aT hnn;have hn2:decide (n < nn)=true:=aT (by omega);have hnN:n < nn:=(by omega);have hw1:IntKind.i64.wrap ((n:Int) + 1)=(n:Int) + 1:=wI
   have HST:=aH (show RES=if UM gr n=true then (n:Int) else yS gr (nn - (n + 1)) (n + 1) from by
    rw [HH.o,show nn - n=(nn - (n + 1)) + 1 by omega]
    rfl)
   obtain ⟨x,hx⟩:∃ x,gr.ns[n]?=some x:=⟨_,aG (by have:=HLN.o;omega)⟩;have hxm:=aM hx;obtain ⟨y,hy⟩:∃ y,gr.ws[x.mo]?=some y:=⟨_,aG (HWA.o.mo x hxm)⟩;have hmo0:x.mo < nw:=(by have:=HWA.o.mo x hxm;have:=HLW.o;omega);have HKID:=aH (HGD.o.kid x hxm);have HAR:=aH (HARR.o x hxm).kids;obtain ⟨bd,hbd⟩:∃ z,UM gr n=z:=⟨_,rfl⟩;have HRS:=aH (show bd=((decide (x.op=6\/x.op=7\/x.op=13) && aZ gr (x.ks.headD 0)) || (decide (y=(n:Int)) && aZ gr n)) from by rw [<- hbd];unfold UM;rw [hx];simp only [];rw [hy];simp only [Option.some.injEq]);rw [hbd] at HST;obtain ⟨b,off,ko,kc,hno,hb,hcap,c0,c1,c2,c3,c4,c5,c6,c7,c8,c9,hkk⟩:=(HG1.o.below HR4.o).1 n x hx;obtain ⟨wb,woff,hwo,hwb,-,d0⟩:=(HG1.o.below HR4.o).2.2.1 x.mo y hy;obtain ⟨mo,hmo⟩:∃ z,x.mo=z:=⟨_,rfl⟩;obtain ⟨nk,hnk⟩:∃ z,x.ks.length=z:=⟨_,rfl⟩;have HNK:=aH hnk;obtain ⟨op,hop⟩:∃ z,x.op=z:=⟨_,rfl⟩;rw [hnk] at c6 HAR;rw [hop] at c0 HRS HAR;rw [hmo] at d0 hmo0 c8;have HD0:=aH d0;rw [hno] at g1;have hm1:decide ((mo:Int) < (nw:Int))=true:=aT (by omega);have hm2:decide (mo < nw)=true:=aT hmo0;have hbl:Below wo.heap.size wo (wo.alloc (.cells #[.int .i64 op,.string x.tx,.int .u64 x.s0,.int .u64 x.s1,.int .u64 x.s2,.int .u64 x.s3,.slice ko nk kc,.int .i64 x.tg,.int .i64 (mo:Int),.int .i64 x.ru] 45)):=bA _;have HO2:=aH (Own.fresh wo 45 [.int .i64 op,.string x.tx,.int .u64 x.s0,.int .u64 x.s1,.int .u64 x.s2,.int .u64 x.s3,.slice ko nk kc,.int .i64 x.tg,.int .i64 (mo:Int),.int .i64 x.ru]);have HB2:=aH (HB.o.trans (hbl.mono HB.o.size));have HK2:=aH (hkk.below hbl);have dd:=aC HD0.o hbl;clear hx hxm hy hbd hkk hcap d0 hnk hop hwb;go_upto_region 6 with fail;obtain ⟨X,hX⟩:∃ z,wo.heap.size=z:=⟨_,rfl⟩;rw [hX] at HO2;try rw [hmo]
   generalize wo.alloc (.cells #[.int .i64 op,.string x.tx,.int .u64 x.s0,.int .u64 x.s1,.int .u64 x.s2,.int .u64 x.s3,.slice ko nk kc,.int .i64 x.tg,.int .i64 (mo:Int),.int .i64 x.ru] 45)=w5 at *;try rw [hX]
   clear hX c0 c1 c2 c3 c4 c5 c6 c7 c8 c9 hb g0 g1 g2 g3 g4 gl hbl hmo hno;have HR5:=aH (HR3.o.trans (HB2.o.mono HR3.o.size));obtain ⟨g0,g1,g2,g3,g4,gl⟩:=HCG.o w5 HR5.o;rw [hwo] at g3;have y0:w5.cell? ⟨X,0,none⟩=some (.int .i64 op):=HO2.o.cell 0;have y6:w5.cell? ⟨X,6,none⟩=some (.slice ko nk kc):=HO2.o.cell 6;have y8:w5.cell? ⟨X,8,none⟩=some (.int .i64 (mo:Int)):=HO2.o.cell 8;have yl:=HO2.o.lt;have dl:=World.block_lt_of_cell? w5 _ dd;have HU5:=aH (HU3.o.under HB2.o HU3.o.lt);have un:w5.cell? ⟨u,n,none⟩=some (.bool (aZ gr n)):=(HU5.o.cell n).trans (bH _ _ n (by first | exact hnN | (rw [HLN.o];exact hnN)));have ul:=HU5.o.lt;obtain ⟨mn,hmn⟩:∃ z,aZ gr n=z:=⟨_,rfl⟩;rw [hmn] at un HRS;have hyn:∀ b:Bool,decide (y=(n:Int))=b->((y == (n:Int))=b):=fun b h=>(by rw [<- h];by_cases e:y=(n:Int) <;> simp [e]);obtain ⟨yb,hyb⟩:∃ z,decide (y=(n:Int))=z:=⟨_,rfl⟩;have hyb2:=hyn yb hyb;rw [hyb] at HRS;clear hyn hmn hwo
   go_cut [57] (fun v57 wx=>v57=.bool bd/\w5=wx)
   case first =>
    by_cases h6:op=6\/op=7\/op=13
    ·
     have hk1:nk=1:=(by have h:=HAR.o;unfold dJ at h;rw [if_neg (by omega),if_neg (by omega),if_pos (by omega)] at h;exact beq_iff_eq.1 h);obtain ⟨k,hk⟩:∃ z,x.ks[0]?=some z:=⟨_,aG (by have:=HNK.o;omega)⟩;have hkn:k < nn:=(by have:=HKID.o k (aM hk);have:=HLN.o;omega);have hhd:x.ks.headD 0=k:=by
      cases hks:x.ks with
      | nil=>rw [hks] at hk;simp at hk
      | cons z r=>rw [hks] at hk;simp at hk;rw [<- hk];rfl
     have HRS2:=aH (show bd=(aZ gr k || (yb && mn)) from by rw [HRS.o,aT h6,hhd];rfl);have hk2:decide ((k:Int) < (nn:Int))=true:=aT (by omega);have hk3:decide (k < nn)=true:=aT hkn;obtain ⟨kb,koff,hko,-,-,q0⟩:=HK2.o 0 k hk;rw [Nat.add_zero] at q0;have kbl:=World.block_lt_of_cell? w5 _ q0;subst hko hk1;have uk:w5.cell? ⟨u,k,none⟩=some (.bool (aZ gr k)):=(HU5.o.cell k).trans (bH _ _ k (by first | exact hkn | (rw [HLN.o];exact hkn)));obtain ⟨mk,hmk⟩:∃ z,aZ gr k=z:=⟨_,rfl⟩;rw [hmk] at uk HRS2;clear hk hhd hmk HKID HRS;rcases h6 with rfl | rfl | rfl
     ·
      cases mk with
      | true =>
       have HE:=aH (show bd=true from by rw [HRS2.o];rfl);go_wp2_with fail
       go_meet
       exact ⟨by first | (rw [HE.o];done) | (rw [HE.o];rfl),rfl⟩
      | false =>
       cases yb with
       | false =>
        have hyn:¬ y=(n:Int):=of_decide_eq_false hyb;go_wp2_with fail
        go_meet
        exact ⟨by rw [HRS2.o];rfl,rfl⟩
       | true =>
        have hyn:y=(n:Int):=of_decide_eq_true hyb
        cases mn with
        | true =>
         go_wp2_with fail
         go_meet
         exact ⟨by rw [HRS2.o];rfl,rfl⟩
        | false =>
         go_wp2_with fail
         go_meet
         exact ⟨by rw [HRS2.o];rfl,rfl⟩
     ·
      cases mk with
      | true =>
       have HE:=aH (show bd=true from by rw [HRS2.o];rfl);go_wp2_with fail
       go_meet
       exact ⟨by first | (rw [HE.o];done) | (rw [HE.o];rfl),rfl⟩
      | false =>
       cases yb with
       | false =>
        have hyn:¬ y=(n:Int):=of_decide_eq_false hyb;go_wp2_with fail
        go_meet
        exact ⟨by rw [HRS2.o];rfl,rfl⟩
       | true =>
        have hyn:y=(n:Int):=of_decide_eq_true hyb
        cases mn with
        | true =>
         go_wp2_with fail
         go_meet
         exact ⟨by rw [HRS2.o];rfl,rfl⟩
        | false =>
         go_wp2_with fail
         go_meet
         exact ⟨by rw [HRS2.o];rfl,rfl⟩
     ·
      cases mk with
      | true =>
       have HE:=aH (show bd=true from by rw [HRS2.o];rfl);go_wp2_with fail
       go_meet
       exact ⟨by first | (rw [HE.o];done) | (rw [HE.o];rfl),rfl⟩
      | false =>
       cases yb with
       | false =>
        have hyn:¬ y=(n:Int):=of_decide_eq_false hyb;go_wp2_with fail
        go_meet
        exact ⟨by rw [HRS2.o];rfl,rfl⟩
       | true =>
        have hyn:y=(n:Int):=of_decide_eq_true hyb
        cases mn with
        | true =>
         go_wp2_with fail
         go_meet
         exact ⟨by rw [HRS2.o];rfl,rfl⟩
        | false =>
         go_wp2_with fail
         go_meet
         exact ⟨by rw [HRS2.o];rfl,rfl⟩
    ·
     have h1:¬ op=6:=fun e=>h6 (.inl e);have h2:¬ op=7:=fun e=>h6 (.inr (.inl e));have h3:¬ op=13:=fun e=>h6 (.inr (.inr e));have h1b:(op == 6)=false:=aN.2 h1;have h2b:(op == 7)=false:=aN.2 h2;have h3b:(op == 13)=false:=aN.2 h3;have h1c:decide (op=6)=false:=aF h1;have h2c:decide (op=7)=false:=aF h2;have h3c:decide (op=13)=false:=aF h3;have HRS2:=aH (show bd=(yb && mn) from by rw [HRS.o,aF h6];rfl);clear HRS h6
     cases yb with
     | false =>
      have hyn:¬ y=(n:Int):=of_decide_eq_false hyb;go_wp2_with fail
      go_meet
      exact ⟨by rw [HRS2.o];rfl,rfl⟩
     | true =>
      have hyn:y=(n:Int):=of_decide_eq_true hyb
      cases mn with
      | true =>
       go_wp2_with fail
       go_meet
       exact ⟨by rw [HRS2.o];rfl,rfl⟩
      | false =>
       go_wp2_with fail
       go_meet
       exact ⟨by rw [HRS2.o];rfl,rfl⟩
   case rest =>
   obtain ⟨rfl,hwx⟩:=hcut;subst hwx;clear y0 y6 y8 yl dd dl un ul g0 g1 g2 g3 g4 gl
   cases bd with
   | true =>
    have HE:=aH (show RES=(n:Int) from by rw [HST.o,if_pos rfl]);have HBZ:=aH (HB1.o.trans (HR5.o.mono HB1.o.size));go_wp2;go_ret;exact ⟨by first | (rw [HE.o];done) | (rw [HE.o];rfl),HBZ.o⟩
   | false =>
    have HE:=aH (show RES=yS gr (nn - (n + 1)) (n + 1) from by rw [HST.o,if_neg (by decide)]);go_wp2
    go_roundw
    case rel=>exact ⟨n + 1,by go_num,by omega,HE,HB2⟩
    case measure=>simp [intOf];omega
  · have hn1:decide ((n:Int) < (nn:Int))=false:=aF hnn;have hn2:decide (n < nn)=false:=aF (by omega);have HE:=aH (show RES=-1 from by rw [HH.o,show nn - n=0 by omega];rfl);have HBZ:=aH (HB1.o.trans (HR4.o.mono HB1.o.size));go_wp2;go_ret;exact ⟨by first | (rw [HE.o];done) | (rw [HE.o];rfl),HBZ.o⟩
theorem A5Z {gr:Gj} {N:Nat}:∀ c n,n + c<=N->yS gr c n < (N:Int)
 | 0,n,h=>by show (-1:Int) < N;omega
 | c + 1,n,h=>by
  unfold yS;split
  · omega
  · exact A5Z c (n + 1) (by omega)
theorem A0L {gr:Gj}:∀ c n,yS gr c n < 0->yS gr c n=-1
 | 0,n,h=>rfl
 | c + 1,n,h=>by
  unfold yS at h ⊢;split at h
  · omega
  · next e=>rw [if_neg e];exact A0L c (n + 1) h
theorem KM (gr:Gj) (a:Gv) (hg:Good gr) (har:∀ x ∈ gr.ns,Ar x) (hw:WaG gr.ns gr.ws gr.ws.length) (w:World) (hG:dG w gr a) :
  Calls Tryz.prog 14 #[grv gr a] w fun e w'=>e=.returned (zH gr)/\Below w.heap.size w w':=by
 have HB1:=gB w a gr;have HO1:=gO w a gr;have HG1:=aH (hG.below HB1.o);have hn160:=hg.len;have HHO:=aH (fun W h=>A1j gr a hg har hw W h);have HSN:=aH (fun W (h:dG W gr a)=>qZ gr a hg har W h)
 have HOK:=aH (show ∀ k,(∀ y ∈ bP gr k,0<=y/\y < (gr.ns.length:Int))/\((bP gr k).length:Int)<=1000 from fun k=>by
  have h:=(jQ hg har).1;have h1:∀ y ∈ bP gr k,0<=y/\y < (gr.ns.length:Int):=fun y hy=>(h.ok k y hy).rng;have h2:=(h.ris k).room h1
  exact ⟨h1,by omega⟩)
 have HCY:=aH (fun no nc W (h:dG W gr a) (h2:NxM W no gr.ns.length (bP gr))=>KT gr a hg hw (bP gr) gr.ns.length no nc (fun k _=>HOK.o k) W h h2);obtain ⟨RES,hRES⟩:∃ z,zH gr=z:=⟨_,rfl⟩;have HRS:=aH (show ∀ hh,yS gr gr.ns.length 0=hh->RES=if 0<=hh then ftN gr 6 hh.toNat else if 0<=Au (jE gr (bP gr) gr.ns.length) gr.ns.length then ftN gr 7 (Au (jE gr (bP gr) gr.ns.length) gr.ns.length).toNat else B3q from fun hh h=>by rw [<- hRES,<- h];rfl);have HLT:=aH (show Au (jE gr (bP gr) gr.ns.length) gr.ns.length < (gr.ns.length:Int) from UV _ 0 (by omega));rw [hRES];unfold RxE at HSN;unfold grv at HHO HSN HCY;unfold grv;obtain ⟨nn,nh,nms,nw,hnn,hnh,hnms,hnw⟩:=nG gr;have HLN:=aH hnn;simp only [hnn,hnh,hnms,hnw] at HO1 HB1 HHO HSN HCY HRS HLT hn160 HG1;rw [hnn,hnh,hnms,hnw];obtain ⟨B,hB⟩:∃ B,w.heap.size=B:=⟨_,rfl⟩;have HBE:=aH hB;rw [hB] at HO1;have HW1:=aH (show (w.alloc (.cells #[.slice a.mo nms a.mc,.slice a.no nn a.nc,.slice a.ho nh a.hc,.slice a.wo nw a.wc,.int .i64 gr.st] 27)).heap.size=B + 1 from by rw [<- hB];simp);clear hg har hw hG hRES hnn hnh hnms hnw HOK;go_enter Tryz.func14,Tryz.ntmps14;go_upto_region 1 with fail;generalize w.alloc (.cells #[.slice a.mo nms a.mc,.slice a.no nn a.nc,.slice a.ho nh a.hc,.slice a.wo nw a.wc,.int .i64 gr.st] 27)=w1 at *;try rw [hB]
 clear hB;have hbl:Below w1.heap.size w1 (w1.alloc (.cells #[.int .i64 0,.int .i64 0,.int .i64 0,.int .i64 0] 37)):=bA _;have HO2:=aH (Own.fresh w1 37 [.int .i64 0,.int .i64 0,.int .i64 0,.int .i64 0]);have HB2:=aH (HB1.o.trans (hbl.mono HB1.o.size));have HGO:=aH (HO1.o.under hbl HO1.o.lt);have HG2:=aH (HG1.o.below hbl);rw [HW1.o] at HO2;generalize w1.alloc (.cells #[.int .i64 0,.int .i64 0,.int .i64 0,.int .i64 0] 37)=w2 at *;try rw [HW1.o]
 clear hbl
 have HCG:=aH (show ∀ W,Below w2.heap.size w2 W->W.cell? ⟨B,0,none⟩=some (.slice a.mo nms a.mc)/\W.cell? ⟨B,1,none⟩=some (.slice a.no nn a.nc)/\W.cell? ⟨B,2,none⟩=some (.slice a.ho nh a.hc)/\W.cell? ⟨B,3,none⟩=some (.slice a.wo nw a.wc)/\W.cell? ⟨B,4,none⟩=some (.int .i64 gr.st)/\B < W.heap.size from fun W h=>by
  have q:=HGO.o.under h HGO.o.lt
  exact ⟨q.cell 0,q.cell 1,q.cell 2,q.cell 3,q.cell 4,q.lt⟩)
 obtain ⟨g0,g1,g2,g3,g4,gl⟩:=HCG.o w2 (Below.refl _ _);go_wp2_with fail;refine (HHO.o w2 HG2.o).mono ?_;rintro e w9 ⟨he,hb9⟩;subst he;have HR9:=aH hb9;clear hb9 g0 g1 g2 g3 g4 gl;have HHL:=aH (show yS gr nn 0 < (nn:Int)/\(yS gr nn 0 < 0->yS gr nn 0=-1) from ⟨A5Z nn 0 (by omega),A0L nn 0⟩);obtain ⟨hh,hhh⟩:∃ z,yS gr nn 0=z:=⟨_,rfl⟩;have HRE:=aH (HRS.o hh hhh);rw [hhh] at HHL;rw [hhh];clear hhh;by_cases h0:0<=hh
 ·
  obtain ⟨m,rfl⟩:∃ m:Nat,hh=(m:Int):=⟨hh.toNat,by omega⟩;have hmn:m < nn:=by have:=HHL.o.1;omega
  have hd0:decide ((m:Int) < 0)=false:=aF (by omega);have HE:=aH (show RES=ftN gr 6 m from by rw [HRE.o,if_pos h0,Int.toNat_natCast]);obtain ⟨x,hx⟩:∃ x,gr.ns[m]?=some x:=⟨_,aG (by have:=HLN.o;omega)⟩;have HFA:=aH (VC hx 6);rw [HFA.o] at HE;obtain ⟨b,off,ko,kc,hno,hb,-,-,-,-,-,-,-,-,-,c8,c9,-⟩:=(HG2.o.below HR9.o).1 m x hx;obtain ⟨g0,g1,g2,g3,g4,gl⟩:=HCG.o w9 HR9.o;rw [hno] at g1;have hm1:decide ((m:Int) < (nn:Int))=true:=aT (by omega);have hm2:decide (m < nn)=true:=aT (by omega);clear hx hno;have HOR:=aH (HO2.o.under HR9.o HO2.o.lt);have r0:w9.cell? ⟨B + 1,0,none⟩=some (.int .i64 0):=HOR.o.cell 0;have f0:w9.frozen? ⟨B + 1,0,none⟩=false:=HOR.o.thaw 0;have r1:w9.cell? ⟨B + 1,1,none⟩=some (.int .i64 0):=HOR.o.cell 1;have f1:w9.frozen? ⟨B + 1,1,none⟩=false:=HOR.o.thaw 1;have r2:w9.cell? ⟨B + 1,2,none⟩=some (.int .i64 0):=HOR.o.cell 2;have f2:w9.frozen? ⟨B + 1,2,none⟩=false:=HOR.o.thaw 2;have r3:w9.cell? ⟨B + 1,3,none⟩=some (.int .i64 0):=HOR.o.cell 3;have f3:w9.frozen? ⟨B + 1,3,none⟩=false:=HOR.o.thaw 3;have rl:=HOR.o.lt;go_upto_region 6 with fail;go_region;go_wp2;try simp only [Exit.inBlock,Exit.then]
  have HO5:=((((HOR.o.put 0 (.int .i64 6)).put 1 (.int .i64 0)).put 2 (.int .i64 (x.mo:Int))).put 3 (.int .i64 x.ru)).on_drew;have hbt:=(((((But.refl (fun j=>j=B + 1) w9).setCell (p:=⟨B + 1,0,none⟩) (fun _=>rfl) (.int .i64 6)).setCell (p:=⟨B + 1,1,none⟩) (fun _=>rfl) (.int .i64 0)).setCell (p:=⟨B + 1,2,none⟩) (fun _=>rfl) (.int .i64 (x.mo:Int))).setCell (p:=⟨B + 1,3,none⟩) (fun _=>rfl) (.int .i64 x.ru)).drew;have HBZ:=(HB2.o.trans (HR9.o.mono HB2.o.size)).trans (hbt.below (B:=w.heap.size) (Nat.le_trans HB2.o.size HR9.o.size) (fun j e=>by have:=HBE.o;have e:j=B + 1:=e;omega));refine bodyPost_ret (results_cell_row (P:=Tryz.prog) rfl _ _ (B + 1) 37 _ (0,0) _ rfl HO5 Tryz.underlying37 rfl (by kernel_rfl)) rfl ?_;exact ⟨by first | (rw [HE.o];done) | (rw [HE.o];rfl),HBZ⟩
 ·
  obtain rfl:hh=-1:=HHL.o.2 (by omega);have HRE2:=aH (HRE.o.trans (if_neg h0));clear HRE h0;obtain ⟨wo,hwo⟩:∃ z,z=w9:=⟨_,rfl⟩;subst hwo;have HR4:=aH HR9.o;clear HR9;go_upto_region 3 with fail;refine bX (fun Wx=>Below wo.heap.size wo Wx) 5 (by kernel_rfl) ?_;have HS:=aH (show Below wo.heap.size wo (World.drew wo) from (Below.refl _ _).drew);have HKC:=aH (fun W (h:Below wo.heap.size wo W)=>HCG.o W (HR4.o.trans (h.mono HR4.o.size)));have HGW:=aH (fun W (h:Below wo.heap.size wo W)=>HG2.o.below (HR4.o.trans (h.mono HR4.o.size)));refine aI.takeD 0 [3,4,5] rfl (v:=?_) (Or.inl ⟨by rfl,?_⟩) HS.o ?_;rotate_left;· intro W hW;obtain ⟨g0,g1,g2,g3,g4,gl⟩:=HKC.o W hW;go_simp;try with_reducible rfl
  go_simp;refine aI.takeD 1 [2,3,4,5] rfl (v:=?_) (Or.inl ⟨by rfl,?_⟩) HS.o ?_;rotate_left;· intro W hW;obtain ⟨g0,g1,g2,g3,g4,gl⟩:=HKC.o W hW;go_simp;try with_reducible rfl
  go_simp;refine aI.one (i:=2) (by kernel_rfl) (bB (f:=10) (vs:=#[.agg #[.slice a.mo nms a.mc,.slice a.no nn a.nc,.slice a.ho nh a.hc,.slice a.wo nw a.wc,.int .i64 gr.st]]) rfl (by kernel_rfl) (by go_simp) ((HSN.o (World.drew wo) (HGW.o _ HS.o)).mono ?_));rintro e w5 ⟨q,he,⟨V,hV1,hV2⟩,-,hb⟩;have HNY:=aH (NxM.row hV1 hV2);refine ⟨_,he,.inr (.inr (HS.o.trans (hb.mono HS.o.size))),?_⟩;have HS:=aH (HS.o.trans (hb.mono HS.o.size));clear hb hV1 hV2;go_simp;obtain ⟨cy,hcy⟩:∃ z,Au (jE gr (bP gr) nn) nn=z:=⟨_,rfl⟩;have HYC:=aH (HCY.o (some ⟨q,0,none⟩) nn w5 (HGW.o _ HS.o) HNY.o);rw [hcy] at HYC HRE2 HLT;clear hcy;refine aI.one (i:=3) (by kernel_rfl) (bB (f:=16) (vs:=#[.agg #[.slice a.mo nms a.mc,.slice a.no nn a.nc,.slice a.ho nh a.hc,.slice a.wo nw a.wc,.int .i64 gr.st],.slice (some ⟨q,0,none⟩) nn nn]) rfl (by kernel_rfl) (by go_simp) (HYC.o.mono ?_));rintro e w9 ⟨he,hb⟩;refine ⟨_,he,.inr (.inr (HS.o.trans (hb.mono HS.o.size))),?_⟩;have HS:=aH (HS.o.trans (hb.mono HS.o.size));clear hb HYC;go_simp;refine aI.one (i:=4) (by kernel_rfl) (aY (v:=.int .i64 cy) (w':=w9) rfl (by kernel_rfl) (by go_simp;try rfl) ?_);refine ⟨.inr (.inr HS.o),?_⟩;go_simp;refine aI.one (i:=5) (by kernel_rfl) (aY (v:=.int .i64 7) (w':=w9) rfl (by kernel_rfl) (by go_simp;try rfl) ?_);refine ⟨.inl rfl,?_⟩;go_simp;refine aI.done (by kernel_rfl) ?_ _;have HR9:=aH (HR4.o.trans (HS.o.mono HR4.o.size));go_simp;by_cases hc:0<=cy
  ·
   obtain ⟨m,rfl⟩:∃ m:Nat,cy=(m:Int):=⟨cy.toNat,by omega⟩;have hmn:m < nn:=(by have:=HLT.o;omega);have hd0:decide ((m:Int) < 0)=false:=aF (by omega);have HE:=aH (show RES=ftN gr 7 m from by rw [HRE2.o,if_pos hc,Int.toNat_natCast]);obtain ⟨x,hx⟩:∃ x,gr.ns[m]?=some x:=⟨_,aG (by have:=HLN.o;omega)⟩;have HFA:=aH (VC hx 7);rw [HFA.o] at HE;obtain ⟨b,off,ko,kc,hno,hb,-,-,-,-,-,-,-,-,-,c8,c9,-⟩:=(HG2.o.below HR9.o).1 m x hx;obtain ⟨g0,g1,g2,g3,g4,gl⟩:=HCG.o w9 HR9.o;rw [hno] at g1;have hm1:decide ((m:Int) < (nn:Int))=true:=aT (by omega);have hm2:decide (m < nn)=true:=aT (by omega);clear hx hno;have HOR:=aH (HO2.o.under HR9.o HO2.o.lt);have r0:w9.cell? ⟨B + 1,0,none⟩=some (.int .i64 0):=HOR.o.cell 0;have f0:w9.frozen? ⟨B + 1,0,none⟩=false:=HOR.o.thaw 0;have r1:w9.cell? ⟨B + 1,1,none⟩=some (.int .i64 0):=HOR.o.cell 1;have f1:w9.frozen? ⟨B + 1,1,none⟩=false:=HOR.o.thaw 1;have r2:w9.cell? ⟨B + 1,2,none⟩=some (.int .i64 0):=HOR.o.cell 2;have f2:w9.frozen? ⟨B + 1,2,none⟩=false:=HOR.o.thaw 2;have r3:w9.cell? ⟨B + 1,3,none⟩=some (.int .i64 0):=HOR.o.cell 3;have f3:w9.frozen? ⟨B + 1,3,none⟩=false:=HOR.o.thaw 3;have rl:=HOR.o.lt;go_upto_region 6 with fail;go_region;go_wp2;try simp only [Exit.inBlock,Exit.then]
   have HO5:=((((HOR.o.put 0 (.int .i64 7)).put 1 (.int .i64 0)).put 2 (.int .i64 (x.mo:Int))).put 3 (.int .i64 x.ru)).on_drew;have hbt:=(((((But.refl (fun j=>j=B + 1) w9).setCell (p:=⟨B + 1,0,none⟩) (fun _=>rfl) (.int .i64 7)).setCell (p:=⟨B + 1,1,none⟩) (fun _=>rfl) (.int .i64 0)).setCell (p:=⟨B + 1,2,none⟩) (fun _=>rfl) (.int .i64 (x.mo:Int))).setCell (p:=⟨B + 1,3,none⟩) (fun _=>rfl) (.int .i64 x.ru)).drew;have HBZ:=(HB2.o.trans (HR9.o.mono HB2.o.size)).trans (hbt.below (B:=w.heap.size) (Nat.le_trans HB2.o.size HR9.o.size) (fun j e=>by have:=HBE.o;have e:j=B + 1:=e;omega));refine bodyPost_ret (results_cell_row (P:=Tryz.prog) rfl _ _ (B + 1) 37 _ (0,0) _ rfl HO5 Tryz.underlying37 rfl (by kernel_rfl)) rfl ?_;exact ⟨by first | (rw [HE.o];done) | (rw [HE.o];rfl),HBZ⟩
  ·
   have hd0:decide (cy < 0)=true:=aT (by omega);have HE:=aH (show RES=.agg #[.int .i64 0,.int .i64 0,.int .i64 0,.int .i64 0] from by rw [HRE2.o,if_neg hc];rfl);have HOR:=aH (HO2.o.under HR9.o HO2.o.lt);have r0:w9.cell? ⟨B + 1,0,none⟩=some (.int .i64 0):=HOR.o.cell 0;have f0:w9.frozen? ⟨B + 1,0,none⟩=false:=HOR.o.thaw 0;have r1:w9.cell? ⟨B + 1,1,none⟩=some (.int .i64 0):=HOR.o.cell 1;have f1:w9.frozen? ⟨B + 1,1,none⟩=false:=HOR.o.thaw 1;have r2:w9.cell? ⟨B + 1,2,none⟩=some (.int .i64 0):=HOR.o.cell 2;have f2:w9.frozen? ⟨B + 1,2,none⟩=false:=HOR.o.thaw 2;have r3:w9.cell? ⟨B + 1,3,none⟩=some (.int .i64 0):=HOR.o.cell 3;have f3:w9.frozen? ⟨B + 1,3,none⟩=false:=HOR.o.thaw 3;have rl:=HOR.o.lt;go_wp2;try simp only [Exit.inBlock,Exit.then]
   have HO5:=((((HOR.o.put 0 (.int .i64 0)).put 1 (.int .i64 0)).put 2 (.int .i64 0)).put 3 (.int .i64 0));have hbt:=(((((But.refl (fun j=>j=B + 1) w9).setCell (p:=⟨B + 1,0,none⟩) (fun _=>rfl) (.int .i64 0)).setCell (p:=⟨B + 1,1,none⟩) (fun _=>rfl) (.int .i64 0)).setCell (p:=⟨B + 1,2,none⟩) (fun _=>rfl) (.int .i64 0)).setCell (p:=⟨B + 1,3,none⟩) (fun _=>rfl) (.int .i64 0));have HBZ:=(HB2.o.trans (HR9.o.mono HB2.o.size)).trans (hbt.below (B:=w.heap.size) (Nat.le_trans HB2.o.size HR9.o.size) (fun j e=>by have:=HBE.o;have e:j=B + 1:=e;omega));refine bodyPost_ret (results_cell_row (P:=Tryz.prog) rfl _ _ (B + 1) 37 _ (0,0) _ rfl HO5 Tryz.underlying37 rfl (by kernel_rfl)) rfl ?_;exact ⟨by first | (rw [HE.o];done) | (rw [HE.o];rfl),HBZ⟩
end Go.Proofs.YthddifjhoniacaaGreat
