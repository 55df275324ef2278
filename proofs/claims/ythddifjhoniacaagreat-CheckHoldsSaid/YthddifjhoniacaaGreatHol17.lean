import Derived.Test.YthddifjhoniacaaGreatAw17
import Derived.Test.YthddifjhoniacaaGreatRc
namespace Go.Proofs.YthddifjhoniacaaGreat
set_option linter.unusedVariables false
open Go.RowKit Go.Sort
def hollB (gr:Gj):Nat->Bool
 | 0=>false
 | n + 1=>hollB gr n || UM gr n
def attB (gr:Gj) (c d:Int):Nat->Bool
 | 0=>false
 | n + 1=>attB gr c d n || (UM gr n && (match gr.ns[n]? with
  | none=>false
  | some x=>decide ((x.mo:Int)=c) && decide (x.ru=d)))
theorem holl_iff {gr:Gj}:∀ n,hollB gr n=true ↔ ∃ m,m < n/\UM gr m=true
 | 0=>⟨fun h=>(by cases h),fun ⟨m,h,_⟩=>absurd h (Nat.not_lt_zero _)⟩
 | n + 1=>by
  unfold hollB;rw [Bool.or_eq_true,holl_iff n];constructor
  ·
   rintro (⟨m,h1,h2⟩ | h)
   · exact ⟨m,by omega,h2⟩
   · exact ⟨n,by omega,h⟩
  ·
   rintro ⟨m,h1,h2⟩;by_cases e:m=n
   · exact .inr (e ▸ h2)
   · exact .inl ⟨m,by omega,h2⟩
theorem att_of {gr:Gj} {c d:Int} {m:Nat} {x:Nj} (hx:gr.ns[m]?=some x) (hb:UM gr m=true) (hc:(x.mo:Int)=c) (hd:x.ru=d):∀ n,m < n->attB gr c d n=true
 | 0,h=>absurd h (Nat.not_lt_zero _)
 | n + 1,h=>by
  unfold attB;by_cases e:m=n
  · subst e;rw [hb,hx];simp [hc,hd]
  · rw [att_of hx hb hc hd n (by omega)];rfl
theorem holF_spec {gr:Gj}:∀ c n,(yS gr c n < 0/\∀ m,n<=m->m < n + c->UM gr m=false)\/∃ m:Nat,yS gr c n=(m:Int)/\n<=m/\m < n + c/\UM gr m=true
 | 0,n=>.inl ⟨by unfold yS;decide,fun m h1 h2=>by omega⟩
 | c + 1,n=>by
  unfold yS;by_cases h:UM gr n=true
  · rw [if_pos h];exact .inr ⟨n,rfl,Nat.le_refl _,by omega,h⟩
  ·
   rw [if_neg h];rcases holF_spec c (n + 1) with ⟨h1,h2⟩ | ⟨m,h1,h2,h3,h4⟩
   ·
    refine .inl ⟨h1,fun m h3 h4=>?_⟩;by_cases e:m=n
    · rw [e];exact Bool.eq_false_iff.2 h
    · exact h2 m (by omega) (by omega)
   · exact .inr ⟨m,h1,by omega,by omega,h4⟩
theorem chk_spec {gr:Gj} {c0 c1 c2 c3:Int} (h:zH gr=.agg #[.int .i64 c0,.int .i64 c1,.int .i64 c2,.int .i64 c3]) :
  (hollB gr gr.ns.length=true->c0=6/\attB gr c2 c3 gr.ns.length=true) ∧
  (hollB gr gr.ns.length=false->∀ y:Nat,Au (jE gr (bP gr) gr.ns.length) gr.ns.length=(y:Int)->∀ x,gr.ns[y]?=some x->c0=7/\c1=0/\c2=(x.mo:Int)/\c3=x.ru) ∧
  (hollB gr gr.ns.length=false->Au (jE gr (bP gr) gr.ns.length) gr.ns.length < 0->c0=0/\c1=0/\c2=0/\c3=0):=by
 have hinj:∀ {a b c d a' b' c' d':Int},(Value.agg #[.int .i64 a,.int .i64 b,.int .i64 c,.int .i64 d])=.agg #[.int .i64 a',.int .i64 b',.int .i64 c',.int .i64 d']->a=a'/\b=b'/\c=c'/\d=d':=fun e=>by simpa using e
 unfold zH at h;refine ⟨fun hh=>?_,fun hh y hy x hx=>?_,fun hh hc=>?_⟩
 ·
  obtain ⟨m,hm,hb⟩:=(holl_iff _).1 hh;rcases holF_spec (gr:=gr) gr.ns.length 0 with ⟨-,h2⟩ | ⟨k,h1,-,h3,h4⟩
  · rw [h2 m (Nat.zero_le _) (by omega)] at hb;cases hb
  · have hk:k < gr.ns.length:=(by omega);rw [h1,if_pos (Int.natCast_nonneg k),Int.toNat_natCast,VC (aG hk)] at h;obtain ⟨e0,-,e2,e3⟩:=hinj h;exact ⟨e0.symm,att_of (aG hk) h4 e2 e3 _ hk⟩
 ·
  have hn:¬ 0<=yS gr gr.ns.length 0:=fun h0=>by
   rcases holF_spec (gr:=gr) gr.ns.length 0 with ⟨h1,-⟩ | ⟨k,h1,-,h3,h4⟩
   · omega
   · rw [(holl_iff _).2 ⟨k,by omega,h4⟩] at hh;cases hh
  rw [if_neg hn,hy,if_pos (Int.natCast_nonneg y),Int.toNat_natCast,VC hx] at h;obtain ⟨e0,e1,e2,e3⟩:=hinj h;exact ⟨e0.symm,e1.symm,e2.symm,e3.symm⟩
 ·
  have hn:¬ 0<=yS gr gr.ns.length 0:=fun h0=>by
   rcases holF_spec (gr:=gr) gr.ns.length 0 with ⟨h1,-⟩ | ⟨k,h1,-,h3,h4⟩
   · omega
   · rw [(holl_iff _).2 ⟨k,by omega,h4⟩] at hh;cases hh
  rw [if_neg hn,if_neg (by omega)] at h;obtain ⟨e0,e1,e2,e3⟩:=hinj h;exact ⟨e0.symm,e1.symm,e2.symm,e3.symm⟩
set_option maxRecDepth 1000000 in
set_option maxHeartbeats 12800000 in
theorem hol17_walk (l:List ByteArray) (ao:Option Addr) (cap:Nat) (s:ByteArray) (w:World) (hl:gI w ao l):Calls Tryz.prog 5 #[.slice ao l.length cap,.string s] w fun e w'=>e=.returned (.bool true)/\Below w.heap.size w w':=by
 have HJD:=aH (VL l ao cap s w hl);obtain ⟨R,hR⟩:∃ R,lM l s=R:=⟨_,rfl⟩;have HR:=aH hR;rw [hR] at HJD;obtain ⟨nl,hnl⟩:∃ n,l.length=n:=⟨_,rfl⟩;rw [hnl] at HJD;rw [hnl];clear hl hR hnl;go_enter Tryz.func5,Tryz.ntmps5;go_wp2_with fail;refine HJD.o.mono ?_;rintro e w2 ⟨hE,hb2⟩;have HB2:=aH hb2;clear hb2 HJD
 cases R with
 | none =>
  have hE':e=.returned (.tuple #[.agg #[.slice none 0 0,.slice none 0 0,.slice none 0 0,.slice none 0 0,.int .i64 0],.bool false]):=hE;subst hE';have hbl:Below w2.heap.size w2 (w2.alloc (.cells #[.slice none 0 0,.slice none 0 0,.slice none 0 0,.slice none 0 0,.int .i64 0] 27)):=bA _;have HB3:=aH (HB2.o.trans (hbl.mono HB2.o.size));clear hbl hE;go_upto_region 2 with fail;generalize w2.alloc (.cells #[.slice none 0 0,.slice none 0 0,.slice none 0 0,.slice none 0 0,.int .i64 0] 27)=w3 at *;go_wp2_with fail;refine (awake17_any w3).mono ?_;rintro e w4 ⟨he,hb4⟩;subst he;have HB4:=aH (HB3.o.trans (hb4.mono HB3.o.size));clear hb4;go_wp2;go_ret;exact ⟨rfl,HB4.o⟩
 | some gr =>
  obtain ⟨a,he,hG⟩:∃ a,e=.returned (.tuple #[grv gr a,.bool true])/\dG w2 gr a:=hE;subst he;have hg:Good gr:=eG HR.o;have har:=lN HR.o;have hwa:=Dq HR.o;have hbl:Below w2.heap.size w2 (w2.alloc (.cells #[.slice a.mo gr.ms.length a.mc,.slice a.no gr.ns.length a.nc,.slice a.ho gr.hs.length a.hc,.slice a.wo gr.ws.length a.wc,.int .i64 gr.st] 27)):=bA _;have HB3:=aH (HB2.o.trans (hbl.mono HB2.o.size));have HG3:=aH (hG.below hbl);have HO3:=aH (Own.fresh w2 27 [.slice a.mo gr.ms.length a.mc,.slice a.no gr.ns.length a.nc,.slice a.ho gr.hs.length a.hc,.slice a.wo gr.ws.length a.wc,.int .i64 gr.st]);have HN:=aH (fun W (h:dG W gr a)=>A4C gr a hg har hwa W h);have HNU:=aH (fun W (h:dG W gr a)=>nW gr a hg W h);have HNX:=aH (fun W (h:dG W gr a)=>qZ gr a hg har W h)
  have HOK:=aH (show ∀ k,(∀ y ∈ bP gr k,0<=y/\y < (gr.ns.length:Int))/\((bP gr k).length:Int)<=1000 from fun k=>by
   have h:=(jQ hg har).1;have h1:∀ y ∈ bP gr k,0<=y/\y < (gr.ns.length:Int):=fun y hy=>(h.ok k y hy).rng;have h2:=(h.ris k).room h1;have:=hg.len
   exact ⟨h1,by omega⟩)
  have HCY:=aH (fun no nc W (h:dG W gr a) (h2:NxM W no gr.ns.length (bP gr))=>KT gr a hg hwa (bP gr) gr.ns.length no nc (fun k _=>HOK.o k) W h h2);have HKID:=aH hg.kid;have HAR:=aH (fun x hx=>(har x hx).kids);have HWM:=aH hwa.mo;have HCL:=aH (show Au (jE gr (bP gr) gr.ns.length) gr.ns.length < (gr.ns.length:Int) from UV _ 0 (by omega));obtain ⟨c0,c1,c2,c3,hcv⟩:=A6x gr;have HSP:=aH (chk_spec hcv);rw [hcv] at HN;obtain ⟨cy,hcy⟩:∃ z,Au (jE gr (bP gr) gr.ns.length) gr.ns.length=z:=⟨_,rfl⟩;rw [hcy] at HCL;rw [hcy] at HSP;simp only [hcy] at HCY;have hn160:=hg.len;unfold BoE at HNU;unfold RxE at HNX;unfold grv;unfold grv at HN HNU HNX HCY;obtain ⟨nn,nh,nms,nw,hnn,hnh,hnms,hnw⟩:=nG gr;have HLN:=aH hnn;have HLW:=aH hnw;simp only [hnn,hnh,hnms,hnw] at HB3 HG3 HO3 HN HNU HNX HCY HSP HCL hbl;rw [hnn] at hn160;rw [hnn,hnh,hnms,hnw];clear hnn hnh hnms hnw hG hg hbl har hwa hcv hcy HOK;go_upto_region 2 with fail;obtain ⟨B,hB⟩:∃ B,w2.heap.size=B:=⟨_,rfl⟩;rw [hB] at HO3;generalize w2.alloc (.cells #[.slice a.mo nms a.mc,.slice a.no nn a.nc,.slice a.ho nh a.hc,.slice a.wo nw a.wc,.int .i64 gr.st] 27)=w3 at *;try rw [hB]
  clear hB HB2;have hcell:=fun W (h:Below w3.heap.size w3 W)=>HO3.o.under h HO3.o.lt;have HC:=aH (show ∀ W,Below w3.heap.size w3 W->W.cell? ⟨B,0,none⟩=some (.slice a.mo nms a.mc)/\W.cell? ⟨B,1,none⟩=some (.slice a.no nn a.nc)/\W.cell? ⟨B,2,none⟩=some (.slice a.ho nh a.hc)/\W.cell? ⟨B,3,none⟩=some (.slice a.wo nw a.wc)/\W.cell? ⟨B,4,none⟩=some (.int .i64 gr.st)/\B < W.heap.size from fun W h=>⟨(hcell W h).cell 0,(hcell W h).cell 1,(hcell W h).cell 2,(hcell W h).cell 3,(hcell W h).cell 4,(hcell W h).lt⟩);clear hcell;obtain ⟨g0,g1,g2,g3,g4,gl⟩:=HC.o w3 (Below.refl _ _);go_wp2_with fail;refine (HN.o w3 HG3.o).mono ?_;rintro e w4 ⟨rfl,hb4⟩;have HB4:=aH hb4;clear hb4 g0 g1 g2 g3 g4 gl HN;have hbl:Below w4.heap.size w4 (w4.alloc (.cells #[.int .i64 c0,.int .i64 c1,.int .i64 c2,.int .i64 c3] 37)):=bA _;have HB5:=aH (HB4.o.trans (hbl.mono HB4.o.size));have HF5:=aH (Own.fresh w4 37 [.int .i64 c0,.int .i64 c1,.int .i64 c2,.int .i64 c3]);clear hbl HB4;go_upto_region 5 with fail;obtain ⟨F,hF⟩:∃ B,w4.heap.size=B:=⟨_,rfl⟩;rw [hF] at HF5;generalize w4.alloc (.cells #[.int .i64 c0,.int .i64 c1,.int .i64 c2,.int .i64 c3] 37)=w5 at *;try rw [hF]
  clear hF;obtain ⟨g0,g1,g2,g3,g4,gl⟩:=HC.o w5 HB5.o;go_wp2_with fail;refine (HNU.o w5 (HG3.o.below HB5.o)).mono ?_;rintro e w6 ⟨u,rfl,hu,-,hb6⟩;have HB6:=aH (HB5.o.trans (hb6.mono HB5.o.size));have HF6:=aH (HF5.o.under hb6 HF5.o.lt);have HU6:=aH hu;have HG6:=aH (HG3.o.below HB6.o);clear hb6 hu g0 g1 g2 g3 g4 gl HNU HF5 HB5;go_wp2_with fail
  go_loopw [9,10,11,12,13] (fun v9 v10 v11 v12 v13 wr=>∃ (n:Nat) (vv vx:Value),vv=v12/\vx=v13/\v9=.bool (hollB gr n)/\v10=.bool (attB gr c2 c3 n)/\v11=.int .i64 (n:Int)/\(n:Int)<=nn/\aQ (Below w6.heap.size w6 wr)) (fun _ _ v11 _ _ _=>nn - (intOf v11).toNat)
  case atStart=>exact ⟨0,_,_,rfl,rfl,rfl,rfl,rfl,by omega,aH (Below.refl _ _)⟩
  case round =>
   obtain ⟨n,vv,vx,rfl,rfl,rfl,rfl,rfl,hnle,HR⟩:=hrel;have HBr:=aH (HB6.o.trans (HR.o.mono HB6.o.size));obtain ⟨g0,g1,g2,g3,g4,gl⟩:=HC.o wr HBr.o;by_cases hn:n < nn
   ·
    have hn1:decide ((n:Int) < (nn:Int))=true:=aT (by omega);have hn2:decide (n < nn)=true:=aT hn;obtain ⟨x,hx⟩:∃ x,gr.ns[n]?=some x:=⟨_,aG (by have:=HLN.o;omega)⟩;have hxm:=aM hx;have HXK:=aH (HKID.o x hxm);have HXR:=aH (HAR.o x hxm);have hmo0:x.mo < nw:=(by have:=HWM.o x hxm;have:=HLW.o;omega);obtain ⟨y,hy⟩:∃ y,gr.ws[x.mo]?=some y:=⟨_,aG (by have:=HLW.o;omega)⟩;have HGr:=HG6.o.below HR.o;obtain ⟨b,off,ko,kc,hno,hb,hcap,e0,e1,e2,e3,e4,e5,e6,e7,e8,e9,hkk⟩:=HGr.1 n x hx;obtain ⟨wb,woff,hwo,hwb,-,d0⟩:=HGr.2.2.1 x.mo y hy;obtain ⟨RES,hRES⟩:∃ z,UM gr n=z:=⟨_,rfl⟩;have HRS:=aH (show RES=((decide (x.op=6\/x.op=7\/x.op=13) && aZ gr (x.ks.headD 0)) || (decide (y=(n:Int)) && aZ gr n)) from by rw [<- hRES];unfold UM;rw [hx];simp only [];rw [hy];simp only [Option.some.injEq]);have HH:=aH (show hollB gr (n + 1)=(hollB gr n || RES) from by rw [<- hRES];rfl)
    have HA:=aH (show attB gr c2 c3 (n + 1)=(attB gr c2 c3 n || (RES && (decide ((x.mo:Int)=c2) && decide (x.ru=c3)))) from by
     rw [<- hRES]
     show (attB gr c2 c3 n || (UM gr n && (match gr.ns[n]? with
      | none=>false
      | some x=>decide ((x.mo:Int)=c2) && decide (x.ru=c3))))=_
     rw [hx])
    obtain ⟨mo,hmo⟩:∃ z,x.mo=z:=⟨_,rfl⟩;obtain ⟨nk,hnk⟩:∃ z,x.ks.length=z:=⟨_,rfl⟩;have HNK:=aH hnk;obtain ⟨op,hop⟩:∃ z,x.op=z:=⟨_,rfl⟩;have hkc:=hcap.2;have HKK:=aH hkk;have HD0:=aH d0;have HMO:=aH hmo;have HWO:=aH hwo;rw [hnk] at e6 hkc HXR;rw [hop] at e0 HRS HXR;rw [hmo] at e8 HD0 HA hmo0;rw [hno] at g1;rw [hwo] at g3;have hm1:decide ((mo:Int) < (nw:Int))=true:=aT (by omega);have hm2:decide (mo < nw)=true:=aT hmo0;clear hx hxm hy hRES hkk hno hwo d0 hcap hmo hop HGr;have hbl:Below wr.heap.size wr (wr.alloc (.cells #[.int .i64 op,.string x.tx,.int .u64 x.s0,.int .u64 x.s1,.int .u64 x.s2,.int .u64 x.s3,.slice ko nk kc,.int .i64 x.tg,.int .i64 (mo:Int),.int .i64 x.ru] 45)):=bA _;have HO2:=aH (Own.fresh wr 45 [.int .i64 op,.string x.tx,.int .u64 x.s0,.int .u64 x.s1,.int .u64 x.s2,.int .u64 x.s3,.slice ko nk kc,.int .i64 x.tg,.int .i64 (mo:Int),.int .i64 x.ru]);have HRz:=aH (HR.o.trans (hbl.mono HR.o.size));have HU2:=aH (HU6.o.under HRz.o HU6.o.lt);have HFz:=aH (HF6.o.under HRz.o HF6.o.lt);have HCz:=aH (HC.o _ (HB6.o.trans (HRz.o.mono HB6.o.size)));have HK2:=aH (HKK.o.below hbl);have dd:=aC HD0.o hbl;go_upto_region 12 with fail;obtain ⟨X,hX⟩:∃ z,wr.heap.size=z:=⟨_,rfl⟩;rw [hX] at HO2;generalize wr.alloc (.cells #[.int .i64 op,.string x.tx,.int .u64 x.s0,.int .u64 x.s1,.int .u64 x.s2,.int .u64 x.s3,.slice ko nk kc,.int .i64 x.tg,.int .i64 (mo:Int),.int .i64 x.ru] 45)=wz at *;try rw [hX]
    clear hX e0 e1 e2 e3 e4 e5 e6 e7 e8 e9 hb g0 g1 g2 g3 g4 gl hbl HBr;have y0:wz.cell? ⟨X,0,none⟩=some (.int .i64 op):=HO2.o.cell 0;have y6:wz.cell? ⟨X,6,none⟩=some (.slice ko nk kc):=HO2.o.cell 6;have y8:wz.cell? ⟨X,8,none⟩=some (.int .i64 (mo:Int)):=HO2.o.cell 8;have y9:wz.cell? ⟨X,9,none⟩=some (.int .i64 x.ru):=HO2.o.cell 9;have yl:=HO2.o.lt
    go_cut [13] (fun v13 wx=>v13=.bool RES/\wz=wx)
    case first =>
     obtain ⟨g0,g1,g2,g3,g4,gl⟩:=HCz.o;rw [HWO.o] at g3;have dl:=World.block_lt_of_cell? wz _ dd;have un:wz.cell? ⟨u,n,none⟩=some (.bool (aZ gr n)):=(HU2.o.cell n).trans (bH _ _ n hn);have ul:=HU2.o.lt;obtain ⟨mn,hmn⟩:∃ z,aZ gr n=z:=⟨_,rfl⟩;rw [hmn] at un HRS;clear hmn;have hyn:∀ b:Bool,decide (y=(n:Int))=b->((y == (n:Int))=b):=fun b h=>(by rw [<- h];by_cases e:y=(n:Int) <;> simp [e]);obtain ⟨yb,hyb⟩:∃ z,decide (y=(n:Int))=z:=⟨_,rfl⟩;have hyb2:=hyn yb hyb;rw [hyb] at HRS;clear hyn;by_cases h6:op=6\/op=7\/op=13
     ·
      have hk1:nk=1:=(by have h:=HXR.o;unfold dJ at h;rw [if_neg (by omega),if_neg (by omega),if_pos (by omega)] at h;exact beq_iff_eq.1 h);obtain ⟨k,hk⟩:∃ z,x.ks[0]?=some z:=⟨_,aG (by have:=HNK.o;omega)⟩;have hkn:k < nn:=(by have:=HXK.o k (aM hk);have:=HLN.o;omega);have hhd:x.ks.headD 0=k:=by
       cases hks:x.ks with
       | nil=>rw [hks] at hk;simp at hk
       | cons z r=>rw [hks] at hk;simp at hk;rw [<- hk];rfl
      have HRS2:=aH (show RES=(aZ gr k || (yb && mn)) from by rw [HRS.o,aT h6,hhd];rfl);have hk2:decide ((k:Int) < (nn:Int))=true:=aT (by omega);have hk3:decide (k < nn)=true:=aT hkn;obtain ⟨kb,koff,hko,-,-,q0⟩:=HK2.o 0 k hk;rw [Nat.add_zero] at q0;have kbl:=World.block_lt_of_cell? wz _ q0;subst hko hk1;have uk:wz.cell? ⟨u,k,none⟩=some (.bool (aZ gr k)):=(HU2.o.cell k).trans (bH _ _ k hkn);obtain ⟨mk,hmk⟩:∃ z,aZ gr k=z:=⟨_,rfl⟩;rw [hmk] at uk HRS2;clear hk hhd hmk HRS;rcases h6 with rfl | rfl | rfl
      all_goals
       cases mk with
       | true =>
        have HE:=aH (show RES=true from by rw [HRS2.o];rfl);go_wp2
        go_meet
        exact ⟨by rw [HE.o],rfl⟩
       | false =>
        cases yb with
        | false =>
         have HE:=aH (show RES=false from by rw [HRS2.o];rfl);have hyn:¬ y=(n:Int):=of_decide_eq_false hyb;go_wp2
         go_meet
         exact ⟨by rw [HE.o],rfl⟩
        | true =>
         have hyn:y=(n:Int):=of_decide_eq_true hyb;have HE:=aH (show RES=mn from by rw [HRS2.o];rfl)
         cases mn with
         | true=>go_wp2;go_meet;exact ⟨by rw [HE.o],rfl⟩
         | false=>go_wp2;go_meet;exact ⟨by rw [HE.o],rfl⟩
     ·
      have h1:¬ op=6:=fun e=>h6 (.inl e);have h2:¬ op=7:=fun e=>h6 (.inr (.inl e));have h3:¬ op=13:=fun e=>h6 (.inr (.inr e));have h1b:(op == 6)=false:=aN.2 h1;have h2b:(op == 7)=false:=aN.2 h2;have h3b:(op == 13)=false:=aN.2 h3;have h1c:decide (op=6)=false:=aF h1;have h2c:decide (op=7)=false:=aF h2;have h3c:decide (op=13)=false:=aF h3;have HRS2:=aH (show RES=(yb && mn) from by rw [HRS.o,aF h6];rfl);clear HRS h6
      cases yb with
      | false =>
       have HE:=aH (show RES=false from by rw [HRS2.o];rfl);have hyn:¬ y=(n:Int):=of_decide_eq_false hyb;go_wp2
       go_meet
       exact ⟨by rw [HE.o],rfl⟩
      | true =>
       have hyn:y=(n:Int):=of_decide_eq_true hyb;have HE:=aH (show RES=mn from by rw [HRS2.o];rfl)
       cases mn with
       | true=>go_wp2;go_meet;exact ⟨by rw [HE.o],rfl⟩
       | false=>go_wp2;go_meet;exact ⟨by rw [HE.o],rfl⟩
    case rest =>
     obtain ⟨rfl,rfl⟩:=hcut;have f2:wz.cell? ⟨F,2,none⟩=some (.int .i64 c2):=HFz.o.cell 2;have f3:wz.cell? ⟨F,3,none⟩=some (.int .i64 c3):=HFz.o.cell 3;have fl:=HFz.o.lt;clear HRS y0 y6 dd HCz HU2 HK2 HD0;obtain ⟨hb,hhb⟩:∃ z,hollB gr n=z:=⟨_,rfl⟩;rw [hhb] at HH;rw [hhb];obtain ⟨tb,htb⟩:∃ z,attB gr c2 c3 n=z:=⟨_,rfl⟩;rw [htb] at HA;rw [htb];clear hhb htb
     cases hb
     all_goals
      cases tb with
      | true =>
       go_wp2
       go_roundw
       case rel=>exact ⟨n + 1,_,_,rfl,rfl,by rw [HH.o];rfl,by rw [HA.o];rfl,rfl,by omega,HRz⟩
       case measure=>simp [intOf];omega
      | false =>
       cases RES with
       | false =>
        go_wp2
        go_roundw
        case rel=>exact ⟨n + 1,_,_,rfl,rfl,by rw [HH.o];rfl,by rw [HA.o];rfl,rfl,by omega,HRz⟩
        case measure=>simp [intOf];omega
       | true =>
        by_cases q2:(mo:Int)=c2
        ·
         have q2b:decide ((mo:Int)=c2)=true:=aT q2;by_cases q3:x.ru=c3
         ·
          have q3b:decide (x.ru=c3)=true:=aT q3;have HE:=aH (show attB gr c2 c3 (n + 1)=true from by rw [HA.o,q2b,q3b];rfl);clear q2b q3b;go_wp2
          go_roundw
          case rel=>exact ⟨n + 1,_,_,rfl,rfl,by rw [HH.o];rfl,by rw [HE.o],rfl,by omega,HRz⟩
          case measure=>simp [intOf];omega
         ·
          have q3b:decide (x.ru=c3)=false:=aF q3;have q3c:(x.ru == c3)=false:=aN.2 q3;have HE:=aH (show attB gr c2 c3 (n + 1)=false from by rw [HA.o,q2b,q3b];rfl);go_wp2
          go_roundw
          case rel=>exact ⟨n + 1,_,_,rfl,rfl,by rw [HH.o];rfl,by rw [HE.o],rfl,by omega,HRz⟩
          case measure=>simp [intOf];omega
        ·
         have q2b:decide ((mo:Int)=c2)=false:=aF q2;have HE:=aH (show attB gr c2 c3 (n + 1)=false from by rw [HA.o,q2b];rfl);go_wp2
         go_roundw
         case rel=>exact ⟨n + 1,_,_,rfl,rfl,by rw [HH.o];rfl,by rw [HE.o],rfl,by omega,HRz⟩
         case measure=>simp [intOf];omega
   ·
    have hn1:decide ((n:Int) < (nn:Int))=false:=aF (by omega);have e:nn=n:=(by omega);subst e;have HC2:=aH (fun W (h:Below wr.heap.size wr W)=>HC.o W (HBr.o.trans (h.mono HBr.o.size)));go_upto_region 15 with fail;clear g0 g1 g2 g3 g4 gl;refine bX (fun Wx=>Below wr.heap.size wr Wx) 4 (by kernel_rfl) ?_;have HS:=aH (show Below wr.heap.size wr (World.drew wr) from (Below.refl _ _).drew);refine aI.takeD 0 [3,4] rfl (v:=?_) (Or.inl ⟨by rfl,?_⟩) HS.o ?_;rotate_left;· intro W hW;obtain ⟨a0,a1,a2,a3,a4,al⟩:=HC2.o W hW;go_simp;try with_reducible rfl
    go_simp;refine aI.takeD 1 [2,3,4] rfl (v:=?_) (Or.inl ⟨by rfl,?_⟩) HS.o ?_;rotate_left;· intro W hW;obtain ⟨a0,a1,a2,a3,a4,al⟩:=HC2.o W hW;go_simp;try with_reducible rfl
    go_simp;refine aI.one (i:=2) (by kernel_rfl) (bB (f:=10) (vs:=#[.agg #[.slice a.mo nms a.mc,.slice a.no nn a.nc,.slice a.ho nh a.hc,.slice a.wo nw a.wc,.int .i64 gr.st]]) rfl (by kernel_rfl) (by go_simp) ((HNX.o (World.drew wr) (HG6.o.below (HR.o.trans (HS.o.mono HR.o.size)))).mono ?_));rintro e w7 ⟨q,he,⟨V,hV1,hV2⟩,-,hb⟩;have HNR:=aH (NxM.row hV1 hV2);refine ⟨_,he,.inr (.inr (HS.o.trans (hb.mono HS.o.size))),?_⟩;have HS:=aH (HS.o.trans (hb.mono HS.o.size));clear hb hV1 hV2;go_simp;refine aI.one (i:=3) (by kernel_rfl) (bB (f:=16) (vs:=#[.agg #[.slice a.mo nms a.mc,.slice a.no nn a.nc,.slice a.ho nh a.hc,.slice a.wo nw a.wc,.int .i64 gr.st],.slice (some ⟨q,0,none⟩) nn nn]) rfl (by kernel_rfl) (by go_simp) ((HCY.o (some ⟨q,0,none⟩) nn w7 (HG6.o.below (HR.o.trans (HS.o.mono HR.o.size))) HNR.o).mono ?_));rintro e w8 ⟨he,hb⟩;refine ⟨_,he,.inr (.inr (HS.o.trans (hb.mono HS.o.size))),?_⟩;have HS:=aH (HS.o.trans (hb.mono HS.o.size));clear hb HNR;go_simp;refine aI.one (i:=4) (by kernel_rfl) (aY (v:=.int .i64 cy) (w':=w8) rfl (by kernel_rfl) (by go_simp;try rfl) ?_);refine ⟨.inr (.inr HS.o),?_⟩;go_simp;refine aI.done (by kernel_rfl) ?_ _;go_simp;have HR8:=aH (HR.o.trans (HS.o.mono HR.o.size));have HG8:=aH (HG6.o.below HR8.o);have HF8:=aH (HF6.o.under HR8.o HF6.o.lt);have HB8:=aH (HB6.o.trans (HR8.o.mono HB6.o.size));have HBW:=aH (HB3.o.trans (HB8.o.mono HB3.o.size));clear HS HR HNX HCY HG6 HF6 HB6 HR8 HBr
    cases hh:hollB gr nn with
    | true =>
     obtain ⟨e0,ea⟩:=HSP.o.1 hh;subst e0;rw [ea];clear hh ea;go_wp2_with fail;refine (awake17_any w8).mono ?_;rintro e w9 ⟨rfl,hb⟩;have HF9:=aH (HF8.o.under hb HF8.o.lt);have HBX:=aH (HBW.o.trans (hb.mono HBW.o.size));have z0:w9.cell? ⟨F,0,none⟩=some (.int .i64 6):=HF9.o.cell 0;have zl:=HF9.o.lt;clear hb;go_wp2;go_ret;exact ⟨rfl,HBX.o⟩
    | false =>
     by_cases h0:0<=cy
     ·
      obtain ⟨y,rfl⟩:∃ y:Nat,cy=(y:Int):=⟨cy.toNat,by omega⟩;have hyn:y < nn:=(by have:=HCL.o;omega);obtain ⟨x,hx⟩:∃ x,gr.ns[y]?=some x:=⟨_,aG (by have:=HLN.o;omega)⟩;obtain ⟨e0,e1,e2,e3⟩:=HSP.o.2.1 hh y rfl x hx;subst e0 e1 e2 e3;obtain ⟨b,off,ko,kc,hno,hb,-,-,-,-,-,-,-,-,-,r8,r9,-⟩:=HG8.o.1 y x hx;have hy1:decide ((y:Int) < (nn:Int))=true:=aT (by omega);have hy2:decide (y < nn)=true:=aT hyn;have h0b:decide (0<=(y:Int))=true:=aT h0;obtain ⟨g0,g1,g2,g3,g4,gl⟩:=HC.o w8 HB8.o;rw [hno] at g1;have z0:w8.cell? ⟨F,0,none⟩=some (.int .i64 7):=HF8.o.cell 0;have z1:w8.cell? ⟨F,1,none⟩=some (.int .i64 0):=HF8.o.cell 1;have z2:w8.cell? ⟨F,2,none⟩=some (.int .i64 (x.mo:Int)):=HF8.o.cell 2;have z3:w8.cell? ⟨F,3,none⟩=some (.int .i64 x.ru):=HF8.o.cell 3;have zl:=HF8.o.lt;have g1':=cell_regrown g1;have z0':=cell_regrown z0;have z1':=cell_regrown z1;have z2':=cell_regrown z2;have z3':=cell_regrown z3;have r8':=cell_regrown r8;have r9':=cell_regrown r9;have CAW:=aH (fun (dq:Nat) (os:Array Obj)=>awake17_any (grow (redrawn w8 dq) os));generalize (x.mo:Int)=mo at *;generalize x.ru=ru at *;clear hx hh hno;go_upto_region 19 with fail;refine wp_region_quiet_below (by kernel_rfl) (by kernel_rfl) ?_;repeat (go_big_quiet_step (first | (go_at_call 12;with_reducible exact Calls.regrown_of (CAW.o _ _))))
      refine wpQuiet_nil ?_;intro _ hw';obtain ⟨⟨dq,osq⟩,hw''⟩:=hw';subst hw'';go_wp2;go_ret;exact ⟨rfl,HBW.o.trans ((below_regrown w8 dq osq).mono HBW.o.size)⟩
     · have h0b:decide (0<=cy)=false:=aF h0;obtain ⟨e0,e1,e2,e3⟩:=HSP.o.2.2 hh (by omega);subst e0 e1 e2 e3;clear hh;go_wp2_with fail;refine (awake17_any w8).mono ?_;rintro e w9 ⟨rfl,hb⟩;have HF9:=aH (HF8.o.under hb HF8.o.lt);have HBX:=aH (HBW.o.trans (hb.mono HBW.o.size));have z0:w9.cell? ⟨F,0,none⟩=some (.int .i64 0):=HF9.o.cell 0;have z1:w9.cell? ⟨F,1,none⟩=some (.int .i64 0):=HF9.o.cell 1;have z2:w9.cell? ⟨F,2,none⟩=some (.int .i64 0):=HF9.o.cell 2;have z3:w9.cell? ⟨F,3,none⟩=some (.int .i64 0):=HF9.o.cell 3;have zl:=HF9.o.lt;clear hb;go_wp2;go_ret;exact ⟨rfl,HBX.o⟩
end Go.Proofs.YthddifjhoniacaaGreat
