import Derived.Test.YthddifjhoniacaaGreatCl
namespace Go.Proofs.YthddifjhoniacaaGreat
set_option linter.unusedVariables false
set_option maxHeartbeats 3200000
set_option maxRecDepth 1000000
open Go.RowKit Go.Sort
def UM (gr:Gj) (n:Nat):Bool:=match gr.ns[n]? with
 | none=>false
 | some x=>(decide (x.op=6\/x.op=7\/x.op=13) && aZ gr (x.ks.headD 0)) || (decide (gr.ws[x.mo]?=some (n:Int)) && aZ gr n)
theorem A4D (gr:Gj) (a:Gv) (hg:Good gr) (har:∀ x ∈ gr.ns,Ar x) (hw:WaG gr.ns gr.ws gr.ws.length) (n:Nat) (hn:n < gr.ns.length) (u:Nat) (w:World) (hG:dG w gr a) (hu:Own w u 4 (bZ (aZ gr) gr.ns.length)) :
  Calls Tryz.prog 29 #[grv gr a,.slice (some ⟨u,0,none⟩) gr.ns.length gr.ns.length,.int .i64 (n:Int)] w fun e w'=>e=.returned (.bool (UM gr n))/\Below w.heap.size w w':=by
 obtain ⟨x,hx⟩:∃ x,gr.ns[n]?=some x:=⟨_,aG hn⟩;have hxm:=aM hx;obtain ⟨y,hy⟩:∃ y,gr.ws[x.mo]?=some y:=⟨_,aG (hw.mo x hxm)⟩;have hmo0:=hw.mo x hxm;have HKID:=aH (hg.kid x hxm);have HAR:=aH (har x hxm).kids;have HB1:=gB w a gr;have HO1:=gO w a gr;have HG1:=aH (hG.below HB1.o);have HU1:=aH (hu.under HB1.o hu.lt);have hn160:=hg.len;obtain ⟨RES,hRES⟩:∃ z,UM gr n=z:=⟨_,rfl⟩;have HRS:=aH (show RES=((decide (x.op=6\/x.op=7\/x.op=13) && aZ gr (x.ks.headD 0)) || (decide (y=(n:Int)) && aZ gr n)) from by rw [<- hRES];unfold UM;rw [hx];simp only [];rw [hy];simp only [Option.some.injEq]);rw [hRES];obtain ⟨b,off,ko,kc,hno,hb,hcap,c0,c1,c2,c3,c4,c5,c6,c7,c8,c9,hkk⟩:=HG1.o.1 n x hx;obtain ⟨wb,woff,hwo,hwb,-,d0⟩:=HG1.o.2.2.1 x.mo y hy;unfold grv;obtain ⟨mo,hmo⟩:∃ z,x.mo=z:=⟨_,rfl⟩;obtain ⟨nn,nh,nms,nw,hnn,hnh,hnms,hnw⟩:=nG gr;obtain ⟨nk,hnk⟩:∃ z,x.ks.length=z:=⟨_,rfl⟩;have HNK:=aH hnk;obtain ⟨op,hop⟩:∃ z,x.op=z:=⟨_,rfl⟩;have hkc:=hcap.2;have HKK:=aH hkk;rw [hnk] at c6 hkc HAR;rw [hop] at c0 HRS HAR;rw [hmo] at d0 hmo0 c8;have HLN:=aH hnn;rw [hnw] at hmo0;rw [hnn] at hn hn160 HU1;simp only [hnn,hnh,hnms,hnw] at HO1 HB1 c0 c1 c2 c3 c4 c5 c6 c7 c8 c9 hb HKK d0;rw [hnn,hnh,hnms,hnw];rw [hno,hwo] at HO1 HB1 c0 c1 c2 c3 c4 c5 c6 c7 c8 c9 hb HKK d0;simp only [hnh,hnms,hnw] at HU1;rw [hno,hwo] at HU1;rw [hno,hwo];obtain ⟨B,hB⟩:∃ B,w.heap.size=B:=⟨_,rfl⟩;rw [hB] at HO1;have HD0:=aH d0;have hn1:decide ((n:Int) < (nn:Int))=true:=aT (by omega);have hn2:decide (n < nn)=true:=aT hn;have hm1:decide ((mo:Int) < (nw:Int))=true:=aT (by omega);have hm2:decide (mo < nw)=true:=aT hmo0;clear hg har hw hx hxm hy hG hu hRES hkk hno hwo hwb d0 hcap HG1 hnn hnh hnms hnw hnk hop;go_enter Tryz.func29,Tryz.ntmps29;go_upto_region 1 with fail;generalize w.alloc (.cells #[.slice a.mo nms a.mc,.slice (some ⟨b,off,none⟩) nn a.nc,.slice a.ho nh a.hc,.slice (some ⟨wb,woff,none⟩) nw a.wc,.int .i64 gr.st] 27)=w1 at *;try rw [hB]
 clear hB;have g1:w1.cell? ⟨B,1,none⟩=some (.slice (some ⟨b,off,none⟩) nn a.nc):=HO1.o.cell 1;have gl:=HO1.o.lt;have hbl:Below w1.heap.size w1 (w1.alloc (.cells #[.int .i64 op,.string x.tx,.int .u64 x.s0,.int .u64 x.s1,.int .u64 x.s2,.int .u64 x.s3,.slice ko nk kc,.int .i64 x.tg,.int .i64 (mo:Int),.int .i64 x.ru] 45)):=bA _;have HO2:=aH (Own.fresh w1 45 [.int .i64 op,.string x.tx,.int .u64 x.s0,.int .u64 x.s1,.int .u64 x.s2,.int .u64 x.s3,.slice ko nk kc,.int .i64 x.tg,.int .i64 (mo:Int),.int .i64 x.ru]);have HGB:=aH (HO1.o.under hbl HO1.o.lt);have HU2:=aH (HU1.o.under hbl HU1.o.lt);have HK2:=aH (HKK.o.below hbl);have HB2:=aH (HB1.o.trans (hbl.mono HB1.o.size));have dd:=aC HD0.o hbl;have hrm:x.mo=mo:=hmo;rw [hrm] at *;go_upto_region 2 with fail;obtain ⟨X,hX⟩:∃ z,w1.heap.size=z:=⟨_,rfl⟩;rw [hX] at HO2;generalize w1.alloc (.cells #[.int .i64 op,.string x.tx,.int .u64 x.s0,.int .u64 x.s1,.int .u64 x.s2,.int .u64 x.s3,.slice ko nk kc,.int .i64 x.tg,.int .i64 (mo:Int),.int .i64 x.ru] 45)=w2 at *;try rw [hX]
 clear hX c0 c1 c2 c3 c4 c5 c6 c7 c8 c9 hb g1 gl hbl;have y0:w2.cell? ⟨X,0,none⟩=some (.int .i64 op):=HO2.o.cell 0;have y6:w2.cell? ⟨X,6,none⟩=some (.slice ko nk kc):=HO2.o.cell 6;have y8:w2.cell? ⟨X,8,none⟩=some (.int .i64 (mo:Int)):=HO2.o.cell 8;have yl:=HO2.o.lt;have g3:w2.cell? ⟨B,3,none⟩=some (.slice (some ⟨wb,woff,none⟩) nw a.wc):=HGB.o.cell 3;have gl:=HGB.o.lt;have dl:=World.block_lt_of_cell? w2 _ dd;have un:w2.cell? ⟨u,n,none⟩=some (.bool (aZ gr n)):=(HU2.o.cell n).trans (bH _ _ n hn);have ul:=HU2.o.lt;obtain ⟨mn,hmn⟩:∃ z,aZ gr n=z:=⟨_,rfl⟩;rw [hmn] at un HRS;clear hmn;have hyn:∀ b:Bool,decide (y=(n:Int))=b->((y == (n:Int))=b):=fun b h=>by rw [<- h];by_cases e:y=(n:Int) <;> simp [e]
 obtain ⟨yb,hyb⟩:∃ z,decide (y=(n:Int))=z:=⟨_,rfl⟩;have hyb2:=hyn yb hyb;rw [hyb] at HRS;clear hyn;by_cases h6:op=6\/op=7\/op=13
 ·
  have hk1:nk=1:=by have h:=HAR.o;unfold dJ at h;rw [if_neg (by omega),if_neg (by omega),if_pos (by omega)] at h;exact beq_iff_eq.1 h
  obtain ⟨k,hk⟩:∃ z,x.ks[0]?=some z:=⟨_,aG (by have:=HNK.o;omega)⟩;have hkn:k < nn:=by have:=HKID.o k (aM hk);have:=HLN.o;omega
  have hhd:x.ks.headD 0=k:=by
   cases hks:x.ks with
   | nil=>rw [hks] at hk;simp at hk
   | cons z r=>rw [hks] at hk;simp at hk;rw [<- hk];rfl
  have HRS2:=aH (show RES=(aZ gr k || (yb && mn)) from by rw [HRS.o,aT h6,hhd];rfl);have hk2:decide ((k:Int) < (nn:Int))=true:=aT (by omega);have hk3:decide (k < nn)=true:=aT hkn;obtain ⟨kb,koff,hko,-,-,q0⟩:=HK2.o 0 k hk;rw [Nat.add_zero] at q0;have kbl:=World.block_lt_of_cell? w2 _ q0;subst hko hk1;have uk:w2.cell? ⟨u,k,none⟩=some (.bool (aZ gr k)):=(HU2.o.cell k).trans (bH _ _ k hkn);obtain ⟨mk,hmk⟩:∃ z,aZ gr k=z:=⟨_,rfl⟩;rw [hmk] at uk HRS2;clear hk hhd hmk HKID HRS;rcases h6 with rfl | rfl | rfl
  ·
   cases mk with
   | true =>
    have HE:=aH (show RES=true from by rw [HRS2.o];rfl);go_wp2;go_ret;exact ⟨by first | (rw [HE.o];done) | (rw [HE.o];rfl),HB2.o⟩
   | false =>
    cases yb with
    | false =>
     have hyn:¬ y=(n:Int):=of_decide_eq_false hyb;go_wp2;go_ret;exact ⟨by rw [HRS2.o];rfl,HB2.o⟩
    | true =>
     have hyn:y=(n:Int):=of_decide_eq_true hyb
     cases mn with
     | true=>go_wp2;go_ret;exact ⟨by rw [HRS2.o];rfl,HB2.o⟩
     | false=>go_wp2;go_ret;exact ⟨by rw [HRS2.o];rfl,HB2.o⟩
  ·
   cases mk with
   | true =>
    have HE:=aH (show RES=true from by rw [HRS2.o];rfl);go_wp2;go_ret;exact ⟨by first | (rw [HE.o];done) | (rw [HE.o];rfl),HB2.o⟩
   | false =>
    cases yb with
    | false =>
     have hyn:¬ y=(n:Int):=of_decide_eq_false hyb;go_wp2;go_ret;exact ⟨by rw [HRS2.o];rfl,HB2.o⟩
    | true =>
     have hyn:y=(n:Int):=of_decide_eq_true hyb
     cases mn with
     | true=>go_wp2;go_ret;exact ⟨by rw [HRS2.o];rfl,HB2.o⟩
     | false=>go_wp2;go_ret;exact ⟨by rw [HRS2.o];rfl,HB2.o⟩
  ·
   cases mk with
   | true =>
    have HE:=aH (show RES=true from by rw [HRS2.o];rfl);go_wp2;go_ret;exact ⟨by first | (rw [HE.o];done) | (rw [HE.o];rfl),HB2.o⟩
   | false =>
    cases yb with
    | false =>
     have hyn:¬ y=(n:Int):=of_decide_eq_false hyb;go_wp2;go_ret;exact ⟨by rw [HRS2.o];rfl,HB2.o⟩
    | true =>
     have hyn:y=(n:Int):=of_decide_eq_true hyb
     cases mn with
     | true=>go_wp2;go_ret;exact ⟨by rw [HRS2.o];rfl,HB2.o⟩
     | false=>go_wp2;go_ret;exact ⟨by rw [HRS2.o];rfl,HB2.o⟩
 ·
  have h1:¬ op=6:=fun e=>h6 (.inl e);have h2:¬ op=7:=fun e=>h6 (.inr (.inl e));have h3:¬ op=13:=fun e=>h6 (.inr (.inr e));have h1b:(op == 6)=false:=aN.2 h1;have h2b:(op == 7)=false:=aN.2 h2;have h3b:(op == 13)=false:=aN.2 h3;have h1c:decide (op=6)=false:=aF h1;have h2c:decide (op=7)=false:=aF h2;have h3c:decide (op=13)=false:=aF h3;have HRS2:=aH (show RES=(yb && mn) from by rw [HRS.o,aF h6];rfl);clear HRS h6
  cases yb with
  | false =>
   have hyn:¬ y=(n:Int):=of_decide_eq_false hyb;go_wp2;go_ret;exact ⟨by rw [HRS2.o];rfl,HB2.o⟩
  | true =>
   have hyn:y=(n:Int):=of_decide_eq_true hyb
   cases mn with
   | true=>go_wp2;go_ret;exact ⟨by rw [HRS2.o];rfl,HB2.o⟩
   | false=>go_wp2;go_ret;exact ⟨by rw [HRS2.o];rfl,HB2.o⟩
def ftN (gr:Gj) (e:Int) (n:Nat):Value:=match gr.ns[n]? with
 | none=>.agg #[.int .i64 0,.int .i64 0,.int .i64 0,.int .i64 0]
 | some x=>.agg #[.int .i64 e,.int .i64 0,.int .i64 (x.mo:Int),.int .i64 x.ru]
theorem A4E (gr:Gj) (a:Gv) (hn160:gr.ns.length<=160) (n:Nat) (hn:n < gr.ns.length) (er:Int) (w:World) (hG:dG w gr a) :
  Calls Tryz.prog 30 #[grv gr a,.int .i64 er,.int .i64 (n:Int)] w fun e w'=>e=.returned (ftN gr er n)/\Below w.heap.size w w':=by
 obtain ⟨x,hx⟩:∃ x,gr.ns[n]?=some x:=⟨_,aG hn⟩;have HB1:=gB w a gr;have HO1:=gO w a gr;have HG1:=aH (hG.below HB1.o);have HFT:=aH (show ftN gr er n=.agg #[.int .i64 er,.int .i64 0,.int .i64 (x.mo:Int),.int .i64 x.ru] from by unfold ftN;rw [hx]);rw [HFT.o];obtain ⟨b,off,ko,kc,hno,hb,hcap,-,-,-,-,-,-,-,-,c8,c9,-⟩:=HG1.o.1 n x hx;unfold grv;obtain ⟨mo,hmo⟩:∃ z,x.mo=z:=⟨_,rfl⟩;obtain ⟨ru,hru⟩:∃ z,x.ru=z:=⟨_,rfl⟩;obtain ⟨nn,nh,nms,nw,hnn,hnh,hnms,hnw⟩:=nG gr;rw [hmo] at c8;rw [hru] at c9;rw [hmo,hru];rw [hnn] at hn hn160;simp only [hnn,hnh,hnms,hnw] at HO1 HB1 c8 c9 hb;rw [hnn,hnh,hnms,hnw];rw [hno] at HO1 HB1 c8 c9 hb;rw [hno];obtain ⟨B,hB⟩:∃ B,w.heap.size=B:=⟨_,rfl⟩;have HBE:=aH hB;rw [hB] at HO1;have hn1:decide ((n:Int) < (nn:Int))=true:=aT (by omega);have hn2:decide (n < nn)=true:=aT hn;clear hx hG hno hcap HG1 hnn hnh hnms hnw hmo hru HFT;have HW1:=aH (show (w.alloc (.cells #[.slice a.mo nms a.mc,.slice (some ⟨b,off,none⟩) nn a.nc,.slice a.ho nh a.hc,.slice a.wo nw a.wc,.int .i64 gr.st] 27)).heap.size=B + 1 from by rw [<- hB];simp);go_enter Tryz.func30,Tryz.ntmps30;go_upto_region 1 with fail;generalize w.alloc (.cells #[.slice a.mo nms a.mc,.slice (some ⟨b,off,none⟩) nn a.nc,.slice a.ho nh a.hc,.slice a.wo nw a.wc,.int .i64 gr.st] 27)=w1 at *;try rw [hB]
 clear hB;have hbl:Below w1.heap.size w1 (w1.alloc (.cells #[.int .i64 0,.int .i64 0,.int .i64 0,.int .i64 0] 37)):=bA _;have HO2:=aH (Own.fresh w1 37 [.int .i64 0,.int .i64 0,.int .i64 0,.int .i64 0]);have HB2:=aH (HB1.o.trans (hbl.mono HB1.o.size));have hOX:=HO1.o.under hbl HO1.o.lt;have k1:(w1.alloc (.cells #[.int .i64 0,.int .i64 0,.int .i64 0,.int .i64 0] 37)).cell? ⟨B,1,none⟩=some (.slice (some ⟨b,off,none⟩) nn a.nc):=hOX.cell 1;have kl:=hOX.lt;have e8:=aC c8 hbl;have e9:=aC c9 hbl;have el:=World.block_lt_of_cell? _ _ e8;clear hOX c8 c9 hb;rw [HW1.o] at HO2;generalize w1.alloc (.cells #[.int .i64 0,.int .i64 0,.int .i64 0,.int .i64 0] 37)=w2 at *;try rw [HW1.o]
 have r0:w2.cell? ⟨B + 1,0,none⟩=some (.int .i64 0):=HO2.o.cell 0;have r1:w2.cell? ⟨B + 1,1,none⟩=some (.int .i64 0):=HO2.o.cell 1;have r2:w2.cell? ⟨B + 1,2,none⟩=some (.int .i64 0):=HO2.o.cell 2;have r3:w2.cell? ⟨B + 1,3,none⟩=some (.int .i64 0):=HO2.o.cell 3;have f0:w2.frozen? ⟨B + 1,0,none⟩=false:=HO2.o.thaw 0;have f1:w2.frozen? ⟨B + 1,1,none⟩=false:=HO2.o.thaw 1;have f2:w2.frozen? ⟨B + 1,2,none⟩=false:=HO2.o.thaw 2;have f3:w2.frozen? ⟨B + 1,3,none⟩=false:=HO2.o.thaw 3;have rl:=HO2.o.lt;go_region;go_wp2;try simp only [Exit.inBlock,Exit.then]
 have HO5:=((((HO2.o.put 0 (.int .i64 er)).put 1 (.int .i64 0)).put 2 (.int .i64 (mo:Int))).put 3 (.int .i64 ru)).on_drew;have hbt:=((((((But.refl (fun j=>j=B + 1) w2).setCell (p:=⟨B + 1,0,none⟩) (fun _=>rfl) (.int .i64 er)).setCell (p:=⟨B + 1,1,none⟩) (fun _=>rfl) (.int .i64 0)).setCell (p:=⟨B + 1,2,none⟩) (fun _=>rfl) (.int .i64 (mo:Int))).setCell (p:=⟨B + 1,3,none⟩) (fun _=>rfl) (.int .i64 ru)).drew);have HBZ:=HB2.o.trans (hbt.below (B:=w.heap.size) HB2.o.size (fun j e=>by have:=HBE.o;have e:j=B + 1:=e;omega));refine bodyPost_ret (results_cell_row (P:=Tryz.prog) rfl _ _ (B + 1) 37 _ (0,0) _ rfl HO5 Tryz.underlying37 rfl (by kernel_rfl)) rfl ?_;exact ⟨rfl,HBZ⟩
def yS (gr:Gj):Nat->Nat->Int
 | 0,_=>-1
 | c + 1,n=>if UM gr n=true then (n:Int) else yS gr c (n + 1)
def B3q:Value:=.agg #[.int .i64 0,.int .i64 0,.int .i64 0,.int .i64 0]
def zH (gr:Gj):Value:=if 0<=yS gr gr.ns.length 0 then ftN gr 6 (yS gr gr.ns.length 0).toNat else if 0<=Au (jE gr (bP gr) gr.ns.length) gr.ns.length then ftN gr 7 (Au (jE gr (bP gr) gr.ns.length) gr.ns.length).toNat else B3q
theorem UV {CL:Nx} {N:Nat}:∀ c n,n + c<=N->Tc CL N c n < (N:Int)
 | 0,n,h=>by show (-1:Int) < N;omega
 | c + 1,n,h=>by
  unfold Tc;split
  · omega
  · exact UV c (n + 1) (by omega)
theorem VC {gr:Gj} {n:Nat} {x:Nj} (h:gr.ns[n]?=some x) (e:Int):ftN gr e n=.agg #[.int .i64 e,.int .i64 0,.int .i64 (x.mo:Int),.int .i64 x.ru]:=by unfold ftN;rw [h]
theorem A4C (gr:Gj) (a:Gv) (hg:Good gr) (har:∀ x ∈ gr.ns,Ar x) (hw:WaG gr.ns gr.ws gr.ws.length) (w:World) (hG:dG w gr a) :
  Calls Tryz.prog 13 #[grv gr a] w fun e w'=>e=.returned (zH gr)/\Below w.heap.size w w':=by
 have HB1:=gB w a gr;have HO1:=gO w a gr;have HG1:=aH (hG.below HB1.o);have hn160:=hg.len;have HNU:=aH (fun W h=>rP gr a hg W h);have HEM:=aH (fun n hn u W h1 h2=>A4D gr a hg har hw n hn u W h1 h2);have HPF:=aH (fun n hn er W h1=>A4E gr a (by omega) n hn er W h1);have HSN:=aH (fun W (h:dG W gr a)=>Ag gr a hg har W h)
 have HOK:=aH (show ∀ k,(∀ y ∈ bP gr k,0<=y/\y < (gr.ns.length:Int))/\((bP gr k).length:Int)<=1000 from fun k=>by
  have h:=(jQ hg har).1;have h1:∀ y ∈ bP gr k,0<=y/\y < (gr.ns.length:Int):=fun y hy=>(h.ok k y hy).rng;have h2:=(h.ris k).room h1
  exact ⟨h1,by omega⟩)
 have HCY:=aH (fun no nc W (h:dG W gr a) (h2:NxM W no gr.ns.length (bP gr))=>zX gr a hg hw (bP gr) gr.ns.length no nc (fun k _=>HOK.o k) W h h2);obtain ⟨RES,hRES⟩:∃ z,zH gr=z:=⟨_,rfl⟩;have HRS:=aH (show ∀ hh,yS gr gr.ns.length 0=hh->RES=if 0<=hh then ftN gr 6 hh.toNat else if 0<=Au (jE gr (bP gr) gr.ns.length) gr.ns.length then ftN gr 7 (Au (jE gr (bP gr) gr.ns.length) gr.ns.length).toNat else B3q from fun hh h=>by rw [<- hRES,<- h];rfl);have HLT:=aH (show Au (jE gr (bP gr) gr.ns.length) gr.ns.length < (gr.ns.length:Int) from UV _ 0 (by omega));rw [hRES];unfold BoE at HNU;unfold NxE at HSN;unfold grv at HNU HEM HPF HSN HCY;unfold grv;obtain ⟨nn,nh,nms,nw,hnn,hnh,hnms,hnw⟩:=nG gr;have HLN:=aH hnn;simp only [hnn,hnh,hnms,hnw] at HO1 HB1 HNU HEM HPF HSN HCY HRS HLT hn160 HG1;rw [hnn,hnh,hnms,hnw];obtain ⟨B,hB⟩:∃ B,w.heap.size=B:=⟨_,rfl⟩;have HBE:=aH hB;rw [hB] at HO1;have HW1:=aH (show (w.alloc (.cells #[.slice a.mo nms a.mc,.slice a.no nn a.nc,.slice a.ho nh a.hc,.slice a.wo nw a.wc,.int .i64 gr.st] 27)).heap.size=B + 1 from by rw [<- hB];simp);clear hg har hw hG hRES hnn hnh hnms hnw HOK;go_enter Tryz.func13,Tryz.ntmps13;go_upto_region 1 with fail;generalize w.alloc (.cells #[.slice a.mo nms a.mc,.slice a.no nn a.nc,.slice a.ho nh a.hc,.slice a.wo nw a.wc,.int .i64 gr.st] 27)=w1 at *;try rw [hB]
 clear hB;have hbl:Below w1.heap.size w1 (w1.alloc (.cells #[.int .i64 0,.int .i64 0,.int .i64 0,.int .i64 0] 37)):=bA _;have HO2:=aH (Own.fresh w1 37 [.int .i64 0,.int .i64 0,.int .i64 0,.int .i64 0]);have HB2:=aH (HB1.o.trans (hbl.mono HB1.o.size));have HGO:=aH (HO1.o.under hbl HO1.o.lt);have HG2:=aH (HG1.o.below hbl);rw [HW1.o] at HO2;generalize w1.alloc (.cells #[.int .i64 0,.int .i64 0,.int .i64 0,.int .i64 0] 37)=w2 at *;try rw [HW1.o]
 clear hbl
 have HCG:=aH (show ∀ W,Below w2.heap.size w2 W->W.cell? ⟨B,0,none⟩=some (.slice a.mo nms a.mc)/\W.cell? ⟨B,1,none⟩=some (.slice a.no nn a.nc)/\W.cell? ⟨B,2,none⟩=some (.slice a.ho nh a.hc)/\W.cell? ⟨B,3,none⟩=some (.slice a.wo nw a.wc)/\W.cell? ⟨B,4,none⟩=some (.int .i64 gr.st)/\B < W.heap.size from fun W h=>by
  have q:=HGO.o.under h HGO.o.lt
  exact ⟨q.cell 0,q.cell 1,q.cell 2,q.cell 3,q.cell 4,q.lt⟩)
 obtain ⟨g0,g1,g2,g3,g4,gl⟩:=HCG.o w2 (Below.refl _ _);go_wp2_with fail;refine (HNU.o w2 HG2.o).mono ?_;rintro e w3 ⟨u,he,hu,-,hb3⟩;subst he;have HU3:=aH hu;have HR3:=aH hb3;clear hu hb3 g0 g1 g2 g3 g4 gl;obtain ⟨g0,g1,g2,g3,g4,gl⟩:=HCG.o w3 HR3.o;go_wp2_with fail;clear g0 g1 g2 g3 g4 gl
 go_loopw [11] (fun v11 wr=>∃ n:Nat,v11=.int .i64 (n:Int)/\(n:Int)<=nn/\aQ (yS gr nn 0=yS gr (nn - n) n)/\aQ (Below w3.heap.size w3 wr)) (fun v11 _=>nn - (intOf v11).toNat)
 case atStart=>exact ⟨0,rfl,by omega,aH rfl,aH (Below.refl _ _)⟩
 case round =>
  obtain ⟨n,rfl,hn,HH,HB⟩:=hrel;obtain ⟨wo,hwo⟩:∃ z,z=wr:=⟨_,rfl⟩;subst hwo;have HR4:=aH (HR3.o.trans (HB.o.mono HR3.o.size));obtain ⟨g0,g1,g2,g3,g4,gl⟩:=HCG.o wo HR4.o;by_cases hnn:(n:Int) < nn
  ·
   have hn1:decide ((n:Int) < (nn:Int))=true:=aT hnn;have hn2:decide (n < nn)=true:=aT (by omega);have hw1:IntKind.i64.wrap ((n:Int) + 1)=(n:Int) + 1:=wI
   have HST:=aH (show yS gr nn 0=if UM gr n=true then (n:Int) else yS gr (nn - (n + 1)) (n + 1) from by
    rw [HH.o,show nn - n=(nn - (n + 1)) + 1 by omega]
    rfl)
   have HCE:=aH (HEM.o n (by first | omega | (have:=HLN.o;omega)) u wo (HG2.o.below HR4.o) (HU3.o.under HB.o HU3.o.lt));obtain ⟨x,hx⟩:∃ x,gr.ns[n]?=some x:=⟨_,aG (by have:=HLN.o;omega)⟩;have HFA:=aH (fun er=>VC hx er);obtain ⟨bb,hbb⟩:∃ z,UM gr n=z:=⟨_,rfl⟩;rw [hbb] at HST HCE;clear hbb hx;go_wp2_with fail;refine HCE.o.mono ?_;rintro e w5 ⟨he,hb5⟩;subst he;have HB5:=aH (aD HB.o hb5);have HR5:=aH (HR4.o.trans (hb5.mono HR4.o.size));clear hb5 HCE g0 g1 g2 g3 g4 gl
   cases bb with
   | true =>
    have HE:=aH (show RES=ftN gr 6 n from by rw [HRS.o (n:Int) (by rw [HST.o,if_pos rfl]),if_pos (by omega),Int.toNat_natCast]);rw [HFA.o 6] at HE;have HPC:=aH (HPF.o n (by first | omega | (have:=HLN.o;omega)) 6 w5 (HG2.o.below HR5.o));rw [HFA.o 6] at HPC;obtain ⟨g0,g1,g2,g3,g4,gl⟩:=HCG.o w5 HR5.o;go_wp2_with fail;refine HPC.o.mono ?_;rintro e w9 ⟨he,hb9⟩;subst he;have HR9:=aH (HR5.o.trans (hb9.mono HR5.o.size));clear hb9 g0 g1 g2 g3 g4 gl;have HOR:=aH (HO2.o.under HR9.o HO2.o.lt);have r0:w9.cell? ⟨B + 1,0,none⟩=some (.int .i64 0):=HOR.o.cell 0;have f0:w9.frozen? ⟨B + 1,0,none⟩=false:=HOR.o.thaw 0;have r1:w9.cell? ⟨B + 1,1,none⟩=some (.int .i64 0):=HOR.o.cell 1;have f1:w9.frozen? ⟨B + 1,1,none⟩=false:=HOR.o.thaw 1;have r2:w9.cell? ⟨B + 1,2,none⟩=some (.int .i64 0):=HOR.o.cell 2;have f2:w9.frozen? ⟨B + 1,2,none⟩=false:=HOR.o.thaw 2;have r3:w9.cell? ⟨B + 1,3,none⟩=some (.int .i64 0):=HOR.o.cell 3;have f3:w9.frozen? ⟨B + 1,3,none⟩=false:=HOR.o.thaw 3;have rl:=HOR.o.lt;go_wp2;try simp only [Exit.inBlock,Exit.then]
    have HO5:=((((HOR.o.put 0 (.int .i64 6)).put 1 (.int .i64 0)).put 2 (.int .i64 (x.mo:Int))).put 3 (.int .i64 x.ru));have hbt:=(((((But.refl (fun j=>j=B + 1) w9).setCell (p:=⟨B + 1,0,none⟩) (fun _=>rfl) (.int .i64 6)).setCell (p:=⟨B + 1,1,none⟩) (fun _=>rfl) (.int .i64 0)).setCell (p:=⟨B + 1,2,none⟩) (fun _=>rfl) (.int .i64 (x.mo:Int))).setCell (p:=⟨B + 1,3,none⟩) (fun _=>rfl) (.int .i64 x.ru));have HBZ:=(HB2.o.trans (HR9.o.mono HB2.o.size)).trans (hbt.below (B:=w.heap.size) (Nat.le_trans HB2.o.size HR9.o.size) (fun j e=>by have:=HBE.o;have e:j=B + 1:=e;omega));refine bodyPost_ret (results_cell_row (P:=Tryz.prog) rfl _ _ (B + 1) 37 _ (0,0) _ rfl HO5 Tryz.underlying37 rfl (by kernel_rfl)) rfl ?_;exact ⟨by first | (rw [HE.o];done) | (rw [HE.o];rfl),HBZ⟩
   | false =>
    have HNX2:=aH (show yS gr nn 0=yS gr (nn - (n + 1)) (n + 1) from by rw [HST.o,if_neg (by decide)]);go_wp2
    go_roundw
    case rel=>exact ⟨n + 1,by go_num,by omega,HNX2,HB5⟩
    case measure=>simp [intOf];omega
  ·
   have hn1:decide ((n:Int) < (nn:Int))=false:=aF hnn;have hn2:decide (n < nn)=false:=aF (by omega);have HRE:=aH (HRS.o (-1) (by rw [HH.o,show nn - n=0 by omega];rfl));go_upto_region 8 with fail;refine bX (fun Wx=>Below wo.heap.size wo Wx) 4 (by kernel_rfl) ?_;have HS:=aH (show Below wo.heap.size wo (World.drew wo) from (Below.refl _ _).drew);have HKC:=aH (fun W (h:Below wo.heap.size wo W)=>HCG.o W (HR4.o.trans (h.mono HR4.o.size)));have HGW:=aH (fun W (h:Below wo.heap.size wo W)=>HG2.o.below (HR4.o.trans (h.mono HR4.o.size)));clear g0 g1 g2 g3 g4 gl;refine aI.takeD 0 [3,4] rfl (v:=?_) (Or.inl ⟨by rfl,?_⟩) HS.o ?_;rotate_left;· intro W hW;obtain ⟨g0,g1,g2,g3,g4,gl⟩:=HKC.o W hW;go_simp;try with_reducible rfl
   go_simp;refine aI.takeD 1 [2,3,4] rfl (v:=?_) (Or.inl ⟨by rfl,?_⟩) HS.o ?_;rotate_left;· intro W hW;obtain ⟨g0,g1,g2,g3,g4,gl⟩:=HKC.o W hW;go_simp;try with_reducible rfl
   go_simp;refine aI.one (i:=2) (by kernel_rfl) (bB (f:=9) (vs:=#[.agg #[.slice a.mo nms a.mc,.slice a.no nn a.nc,.slice a.ho nh a.hc,.slice a.wo nw a.wc,.int .i64 gr.st]]) rfl (by kernel_rfl) (by go_simp) ((HSN.o (World.drew wo) (HGW.o _ HS.o)).mono ?_));rintro e w5 ⟨q,he,⟨V,hV1,hV2⟩,-,hb⟩;have HNY:=aH (NxM.row hV1 hV2);refine ⟨_,he,.inr (.inr (HS.o.trans (hb.mono HS.o.size))),?_⟩;have HS:=aH (HS.o.trans (hb.mono HS.o.size));clear hb hV1 hV2;go_simp;obtain ⟨cy,hcy⟩:∃ z,Au (jE gr (bP gr) nn) nn=z:=⟨_,rfl⟩;have HYC:=aH (HCY.o (some ⟨q,0,none⟩) nn w5 (HGW.o _ HS.o) HNY.o);rw [hcy] at HYC HRE HLT;clear hcy;refine aI.one (i:=3) (by kernel_rfl) (bB (f:=31) (vs:=#[.agg #[.slice a.mo nms a.mc,.slice a.no nn a.nc,.slice a.ho nh a.hc,.slice a.wo nw a.wc,.int .i64 gr.st],.slice (some ⟨q,0,none⟩) nn nn]) rfl (by kernel_rfl) (by go_simp) (HYC.o.mono ?_));rintro e w6 ⟨he,hb⟩;refine ⟨_,he,.inr (.inr (HS.o.trans (hb.mono HS.o.size))),?_⟩;have HS:=aH (HS.o.trans (hb.mono HS.o.size));clear hb HYC;go_simp;refine aI.one (i:=4) (by kernel_rfl) (aY (v:=.int .i64 cy) (w':=w6) rfl (by kernel_rfl) (by go_simp;try rfl) ?_);refine ⟨.inl rfl,?_⟩;go_simp;refine aI.done (by kernel_rfl) ?_ _;have HR6:=aH (HR4.o.trans (HS.o.mono HR4.o.size));go_simp;by_cases hc:0<=cy
   ·
    have hc1:decide (0<=cy)=true:=aT hc;obtain ⟨m,rfl⟩:∃ m:Nat,cy=(m:Int):=⟨cy.toNat,by omega⟩;have hmn:m < nn:=(by have:=HLT.o;omega);obtain ⟨x,hx⟩:∃ x,gr.ns[m]?=some x:=⟨_,aG (by have:=HLN.o;omega)⟩;have HFA:=aH (fun er=>VC hx er);have HE:=aH (show RES=ftN gr 7 m from by rw [HRE.o,if_neg (by decide),if_pos hc,Int.toNat_natCast]);rw [HFA.o 7] at HE;have HPC:=aH (HPF.o m (by first | omega | (have:=HLN.o;omega)) 7 w6 (HG2.o.below HR6.o));rw [HFA.o 7] at HPC;obtain ⟨g0,g1,g2,g3,g4,gl⟩:=HCG.o w6 HR6.o;clear hx;try go_wp2_with fail
    refine HPC.o.mono ?_;rintro e w9 ⟨he,hb9⟩;subst he;have HR9:=aH (HR6.o.trans (hb9.mono HR6.o.size));clear hb9 g0 g1 g2 g3 g4 gl;have HOR:=aH (HO2.o.under HR9.o HO2.o.lt);have r0:w9.cell? ⟨B + 1,0,none⟩=some (.int .i64 0):=HOR.o.cell 0;have f0:w9.frozen? ⟨B + 1,0,none⟩=false:=HOR.o.thaw 0;have r1:w9.cell? ⟨B + 1,1,none⟩=some (.int .i64 0):=HOR.o.cell 1;have f1:w9.frozen? ⟨B + 1,1,none⟩=false:=HOR.o.thaw 1;have r2:w9.cell? ⟨B + 1,2,none⟩=some (.int .i64 0):=HOR.o.cell 2;have f2:w9.frozen? ⟨B + 1,2,none⟩=false:=HOR.o.thaw 2;have r3:w9.cell? ⟨B + 1,3,none⟩=some (.int .i64 0):=HOR.o.cell 3;have f3:w9.frozen? ⟨B + 1,3,none⟩=false:=HOR.o.thaw 3;have rl:=HOR.o.lt;go_wp2;try simp only [Exit.inBlock,Exit.then]
    have HO5:=((((HOR.o.put 0 (.int .i64 7)).put 1 (.int .i64 0)).put 2 (.int .i64 (x.mo:Int))).put 3 (.int .i64 x.ru));have hbt:=(((((But.refl (fun j=>j=B + 1) w9).setCell (p:=⟨B + 1,0,none⟩) (fun _=>rfl) (.int .i64 7)).setCell (p:=⟨B + 1,1,none⟩) (fun _=>rfl) (.int .i64 0)).setCell (p:=⟨B + 1,2,none⟩) (fun _=>rfl) (.int .i64 (x.mo:Int))).setCell (p:=⟨B + 1,3,none⟩) (fun _=>rfl) (.int .i64 x.ru));have HBZ:=(HB2.o.trans (HR9.o.mono HB2.o.size)).trans (hbt.below (B:=w.heap.size) (Nat.le_trans HB2.o.size HR9.o.size) (fun j e=>by have:=HBE.o;have e:j=B + 1:=e;omega));refine bodyPost_ret (results_cell_row (P:=Tryz.prog) rfl _ _ (B + 1) 37 _ (0,0) _ rfl HO5 Tryz.underlying37 rfl (by kernel_rfl)) rfl ?_;exact ⟨by first | (rw [HE.o];done) | (rw [HE.o];rfl),HBZ⟩
   ·
    have hc1:decide (0<=cy)=false:=aF hc;have HE:=aH (show RES=.agg #[.int .i64 0,.int .i64 0,.int .i64 0,.int .i64 0] from by rw [HRE.o,if_neg (by decide),if_neg hc];rfl);obtain ⟨w9,hw9⟩:∃ z,z=w6:=⟨_,rfl⟩;subst hw9;have HR9:=HR6;have HOR:=aH (HO2.o.under HR9.o HO2.o.lt);have r0:w9.cell? ⟨B + 1,0,none⟩=some (.int .i64 0):=HOR.o.cell 0;have f0:w9.frozen? ⟨B + 1,0,none⟩=false:=HOR.o.thaw 0;have r1:w9.cell? ⟨B + 1,1,none⟩=some (.int .i64 0):=HOR.o.cell 1;have f1:w9.frozen? ⟨B + 1,1,none⟩=false:=HOR.o.thaw 1;have r2:w9.cell? ⟨B + 1,2,none⟩=some (.int .i64 0):=HOR.o.cell 2;have f2:w9.frozen? ⟨B + 1,2,none⟩=false:=HOR.o.thaw 2;have r3:w9.cell? ⟨B + 1,3,none⟩=some (.int .i64 0):=HOR.o.cell 3;have f3:w9.frozen? ⟨B + 1,3,none⟩=false:=HOR.o.thaw 3;have rl:=HOR.o.lt;go_wp2;try simp only [Exit.inBlock,Exit.then]
    have HO5:=((((HOR.o.put 0 (.int .i64 0)).put 1 (.int .i64 0)).put 2 (.int .i64 0)).put 3 (.int .i64 0));have hbt:=(((((But.refl (fun j=>j=B + 1) w9).setCell (p:=⟨B + 1,0,none⟩) (fun _=>rfl) (.int .i64 0)).setCell (p:=⟨B + 1,1,none⟩) (fun _=>rfl) (.int .i64 0)).setCell (p:=⟨B + 1,2,none⟩) (fun _=>rfl) (.int .i64 0)).setCell (p:=⟨B + 1,3,none⟩) (fun _=>rfl) (.int .i64 0));have HBZ:=(HB2.o.trans (HR9.o.mono HB2.o.size)).trans (hbt.below (B:=w.heap.size) (Nat.le_trans HB2.o.size HR9.o.size) (fun j e=>by have:=HBE.o;have e:j=B + 1:=e;omega));refine bodyPost_ret (results_cell_row (P:=Tryz.prog) rfl _ _ (B + 1) 37 _ (0,0) _ rfl HO5 Tryz.underlying37 rfl (by kernel_rfl)) rfl ?_;exact ⟨by first | (rw [HE.o];done) | (rw [HE.o];rfl),HBZ⟩
end Go.Proofs.YthddifjhoniacaaGreat
