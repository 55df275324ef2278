import Derived.Test.YtbjgojdpfehnmaaAw14
import Derived.Test.YtbjgojdpfehnmaaKa
import Derived.Test.YtbjgojdpfehnmaaIl
import Derived.Test.YtbjgojdpfehnmaaIc
import Derived.Lib.QuietBelow
import Derived.Test.YtbjgojdpfehnmaaGc
import Derived.Deep.RegionWith
import Derived.Deep.CutBlock
namespace Go.Proofs.Ytbjgojdpfehnmaa
set_option linter.unusedVariables false
open Go.RowKit Go.Sort
theorem tkV {P:Program} {ops:Array Oper} {Q:Exit->Act->World->Prop} {md:Region.Mode} {S:World->Prop} (i:Nat) {oi:Oper} (v:Value) {fuel:Nat} {listed:Array Bool} {a:Act} {w:World} (hi:ops[i]?=some oi) (hS:S w) (hy:YieldsIf P ops S oi v a)
 (h:wpAnyH P md ops Q S fuel (listed.setIfInBounds i true) (a.put oi.dst v) w) (hs:Region.noSelect ops=true:=by kernel_rfl) (hf:Region.free md ops listed i=true:=by kernel_rfl) (hr:(Region.ready md ops listed).contains i=true:=by kernel_rfl)
 (hQ:∀ c a w,Q (.panic c) (a.put oi.dst v) w->Q (.panic c) a w:=by exact fun _ _ _ h=>h):wpAnyH P md ops Q S (fuel + 1) listed a w :=
 wpAnyH_take hi hs hf hr hQ hy hS h
theorem op_fou (o:Int):o=4\/(o=6\/o=7)\/(o=5\/o=8\/o=12\/o=13)\/((o == 4)=false/\(o == 6)=false/\(o == 7)=false/\(o == 5)=false/\(o == 8)=false/\(o == 12)=false/\(o == 13)=false):=by simp only [aN];omega
set_option maxRecDepth 1000000 in
set_option maxHeartbeats 9600000 in
theorem rul14_walk (l:List ByteArray) (ao:Option Addr) (cap:Nat) (s:ByteArray) (w:World) (hl:HasN w ao l):Calls Try.prog 5 #[.slice ao l.length cap,.string s] w fun e w'=>e=.returned (.bool true)/\Below w.heap.size w w':=by
 have HJD:=aH (joined14_any l ao cap s w hl);obtain ⟨R,hR⟩:∃ R,jndO l s=R:=⟨_,rfl⟩;have HR:=aH hR;rw [hR] at HJD;obtain ⟨nl,hnl⟩:∃ n,l.length=n:=⟨_,rfl⟩;rw [hnl] at HJD;rw [hnl];clear hl hR hnl;go_enter Try.func5,Try.ntmps5;go_wp2_with fail;refine HJD.o.mono ?_;rintro e w2 ⟨hE,hb2⟩;have HB2:=aH hb2;clear hb2 HJD
 cases R with
 | none =>
  have hE':e=.returned (.tuple #[.agg #[.slice none 0 0,.slice none 0 0,.slice none 0 0,.slice none 0 0,.int .i64 0],.bool false]):=hE;subst hE';have hbl:Below w2.heap.size w2 (w2.alloc (.cells #[.slice none 0 0,.slice none 0 0,.slice none 0 0,.slice none 0 0,.int .i64 0] 27)):=bA _;have HB3:=aH (HB2.o.trans (hbl.mono HB2.o.size));clear hbl hE;go_upto_region 2 with fail;generalize w2.alloc (.cells #[.slice none 0 0,.slice none 0 0,.slice none 0 0,.slice none 0 0,.int .i64 0] 27)=w3 at *;have HAW:=aH (awake14_any w3);go_wp2_with fail;refine HAW.o.mono ?_;rintro e w4 ⟨he,hb4⟩;subst he;have HB4:=aH (HB3.o.trans (hb4.mono HB3.o.size));clear hb4;go_wp2;go_ret;exact ⟨rfl,HB4.o⟩
 | some gr =>
  obtain ⟨a,he,hG⟩:∃ a,e=.returned (.tuple #[grv gr a,.bool true])/\HasG w2 gr a:=hE;subst he;have hg:Good gr:=jnd_good HR.o;have HGD:=aH hg;have har:=jnd_ar HR.o;have HAR:=aH har;have htr:=jnd_tr HR.o;have HTR:=aH htr;have HEN:=aH (nextG_end hg har);have hbl:Below w2.heap.size w2 (w2.alloc (.cells #[.slice a.mo gr.ms.length a.mc,.slice a.no gr.ns.length a.nc,.slice a.ho gr.hs.length a.hc,.slice a.wo gr.ws.length a.wc,.int .i64 gr.st] 27)):=bA _;have HB3:=aH (HB2.o.trans (hbl.mono HB2.o.size));have HG3:=aH (hG.below hbl);have HO3:=aH (Own.fresh w2 27 [.slice a.mo gr.ms.length a.mc,.slice a.no gr.ns.length a.nc,.slice a.ho gr.hs.length a.hc,.slice a.wo gr.ws.length a.wc,.int .i64 gr.st]);have HN:=aH (fun W (h:HasG W gr a)=>snext_any gr a hg har W h);have HL:=aH (fun W (h:HasG W gr a)=>snull_any gr a hg W h);have HLE:=aH (fun (k:Nat) (hk:k < gr.ns.length) W (h:HasG W gr a)=>show Calls Try.prog 12 #[grv gr a,.int .i64 (k:Int)] W (LeE gr (leadG gr k) W) from by rw [<- leadI_eq hk];exact rlead_any gr a hg (k:Int) W h);have HLB:=aH (lead_bd hg har);have HTL:=aH (show ∀ k,((nextG gr k).length:Int)<=1000 from fun k=>by have:=(nextG_end hg har).1.room (fun x h=>h.rng) k;have:=hg.len;omega);have HM1:=aH (fun n x i k b h1 h2 h3 h4=>next_lead hg har (n:=n) (x:=x) (i:=i) (k:=k) (b:=b) h1 h2 h3 h4);have HM2:=aH (fun n x i k b h1 h2 h3 h4 h5=>next_null hg har htr (n:=n) (x:=x) (i:=i) (k:=k) (b:=b) h1 h2 h3 h4 h5);have HM3:=aH (fun n x i k h1 h2 h3 h4=>next_last hg har (n:=n) (x:=x) (i:=i) (k:=k) h1 h2 h3 h4);have HM4:=aH (fun n x k h1 h2 h3=>next_many hg har (n:=n) (x:=x) h1 h2 (k:=k) h3);have HM5:=aH (fun n x k h1 h2 h3=>next_part hg har (n:=n) (x:=x) h1 h2 (k:=k) h3);have HM6:=aH (fun n x h1 h2=>next_body hg har (n:=n) (x:=x) h1 h2);unfold NxE at HN;unfold BoE at HL;unfold LeE at HLE;unfold grv;unfold grv at HN HL HLE;have hn160:=hg.len;obtain ⟨nn,hnn⟩:∃ z,gr.ns.length=z:=⟨_,rfl⟩;obtain ⟨nh,hnh⟩:∃ z,gr.hs.length=z:=⟨_,rfl⟩;obtain ⟨nms,hnms⟩:∃ z,gr.ms.length=z:=⟨_,rfl⟩;obtain ⟨nw,hnw⟩:∃ z,gr.ws.length=z:=⟨_,rfl⟩;have HNN:=aH (And.intro hnn hnh);simp only [hnn,hnh,hnms,hnw] at HB3 HG3 HO3 HN HL HLE hbl;rw [hnn] at hn160;rw [hnn,hnh,hnms,hnw];clear hnn hnh hnms hnw hG hg hbl har htr HTR HEN;go_upto_region 2 with fail;obtain ⟨B,hB⟩:∃ B,w2.heap.size=B:=⟨_,rfl⟩;rw [hB] at HO3;generalize w2.alloc (.cells #[.slice a.mo nms a.mc,.slice a.no nn a.nc,.slice a.ho nh a.hc,.slice a.wo nw a.wc,.int .i64 gr.st] 27)=w3 at *;try rw [hB]
  clear hB HB2
  have HC:=aH (show ∀ W,Below w3.heap.size w3 W->W.cell? ⟨B,0,none⟩=some (.slice a.mo nms a.mc)/\W.cell? ⟨B,1,none⟩=some (.slice a.no nn a.nc)/\W.cell? ⟨B,2,none⟩=some (.slice a.ho nh a.hc)/\W.cell? ⟨B,3,none⟩=some (.slice a.wo nw a.wc)/\W.cell? ⟨B,4,none⟩=some (.int .i64 gr.st)/\B < W.heap.size from fun W h=>by
   have q:=HO3.o.under h HO3.o.lt
   exact ⟨q.cell 0,q.cell 1,q.cell 2,q.cell 3,q.cell 4,q.lt⟩)
  obtain ⟨g0,g1,g2,g3,g4,gl⟩:=HC.o w3 (Below.refl _ _);go_wp2_with fail;refine (HN.o w3 HG3.o).mono ?_;rintro e w5 ⟨q,rfl,⟨V,hV1,hV2⟩,hgs,hb5⟩;have HV1:=aH hV1;have HV2:=aH hV2;have HB5:=aH hb5;clear hV1 hV2 hgs hb5 HN g0 g1 g2 g3 g4 gl;obtain ⟨k0,k1,k2,k3,k4,kl⟩:=HC.o w5 HB5.o;go_wp2_with fail;refine (HL.o w5 (HG3.o.below HB5.o)).mono ?_;rintro e w7 ⟨d,rfl,hO,hgs,hb7⟩;have HB7:=aH (HB5.o.trans (hb7.mono HB5.o.size));have HD:=aH (fun W (h:Below w7.heap.size w7 W) (k:Nat) (hk:k < nn)=>show W.cell? ⟨d,k,none⟩=some (.bool (nulG gr k))/\d < W.heap.size from ⟨((hO.under h hO.lt).cell k).trans (rowB_at _ nn k hk),(hO.under h hO.lt).lt⟩)
  have HV:=aH (fun W (h:Below w7.heap.size w7 W) (k:Nat) (hk:k < nn)=>show W.cell? ⟨q,k,none⟩=some (V k)/\q < W.heap.size/\IntsAt W 0 (V k) (nextG gr k) from by
   have h1:=(HV1.o.under hb7 HV1.o.lt).under h (HV1.o.under hb7 HV1.o.lt).lt
   exact ⟨by rw [h1.cell k,List.getElem?_map,List.getElem?_range hk];rfl,h1.lt,(((HV2.o k hk).below hb7).below h).mono (Nat.zero_le _)⟩)
  have HW:=aH (fun (i j:Nat) (hi:i < nn) (hj:j < nn) (hij:∀ x ∈ nextG gr i,x ∈ nextG gr j) W (h:Below w7.heap.size w7 W)=>within_any (V i) (V j) (nextG gr i) (nextG gr j) 0 0 (HTL.o i) (HTL.o j) hij W (HV.o W h i hi).2.2 (HV.o W h j hj).2.2);have HC7:=aH (fun W (h:Below w7.heap.size w7 W)=>HC.o W (HB7.o.trans (h.mono HB7.o.size)));have HG7:=aH (fun W (h:Below w7.heap.size w7 W)=>HG3.o.below (HB7.o.trans (h.mono HB7.o.size)));have HR7:=aH (Below.refl w7.heap.size w7);clear hO hgs hb7 HL k0 k1 k2 k3 k4 kl HV1 HV2 HB5;obtain ⟨k0,k1,k2,k3,k4,kl⟩:=HC7.o w7 HR7.o;go_wp2_with fail;clear k0 k1 k2 k3 k4 kl
  go_loopw [9] (fun v9 wr=>∃ n:Nat,v9=.int .i64 (n:Int)/\(n:Int)<=nn/\aQ (Below w7.heap.size w7 wr)) (fun v9 _=>nn - (intOf v9).toNat)
  case atStart=>exact ⟨0,rfl,by omega,HR7⟩
  case round =>
   obtain ⟨n,rfl,hn,HBn⟩:=hrel;obtain ⟨k0,k1,k2,k3,k4,kl⟩:=HC7.o wr HBn.o;by_cases hnn:(n:Int) < nn
   ·
    have hn1:decide ((n:Int) < (nn:Int))=true:=aT hnn;have hn2:decide (n < nn)=true:=aT (by omega);have hn3:n < nn:=(by omega);have hw1:IntKind.i64.wrap ((n:Int) + 1)=(n:Int) + 1:=wI;obtain ⟨x,hx⟩:∃ x,gr.ns[n]?=some x:=⟨_,aG (by have:=HNN.o.1;omega)⟩;have HX:=aH hx;have HKID:=aH (HGD.o.kid x (aM hx));have HREF:=aH (HGD.o.ref x (aM hx));obtain ⟨b,off,ko,kc,hno,hb,-,c0,c1,c2,c3,c4,c5,c6,c7,c8,c9,hkk⟩:=(HG7.o wr HBn.o).1 n x hx;obtain ⟨nk,hnk⟩:∃ z,x.ks.length=z:=⟨_,rfl⟩;have HNK:=aH hnk;have hnk9:nk<=90001:=(by rw [<- hnk];exact HGD.o.kl x (aM hx));obtain ⟨op,hop⟩:∃ z,x.op=z:=⟨_,rfl⟩;have HOP:=aH hop;rw [hnk] at c6;rw [hop] at c0;rw [hno] at k1;have hbl:Below wr.heap.size wr (wr.alloc (.cells #[.int .i64 op,.string x.tx,.int .u64 x.s0,.int .u64 x.s1,.int .u64 x.s2,.int .u64 x.s3,.slice ko nk kc,.int .i64 x.tg,.int .i64 (x.mo:Int),.int .i64 x.ru] 42)):=bA _;have HB4:=aH (HBn.o.trans (hbl.mono HBn.o.size));have HK4:=aH (hkk.below hbl);have HN4:=aH (Own.fresh wr 42 [.int .i64 op,.string x.tx,.int .u64 x.s0,.int .u64 x.s1,.int .u64 x.s2,.int .u64 x.s3,.slice ko nk kc,.int .i64 x.tg,.int .i64 (x.mo:Int),.int .i64 x.ru]);clear hx hkk hbl hnk hop;go_upto_region 12 with fail;obtain ⟨B4,hB4⟩:∃ z,wr.heap.size=z:=⟨_,rfl⟩;rw [hB4] at HN4;generalize wr.alloc (.cells #[.int .i64 op,.string x.tx,.int .u64 x.s0,.int .u64 x.s1,.int .u64 x.s2,.int .u64 x.s3,.slice ko nk kc,.int .i64 x.tg,.int .i64 (x.mo:Int),.int .i64 x.ru] 42)=w4 at *;try rw [hB4]
    clear c0 c1 c2 c3 c4 c5 c6 c7 c8 c9 hb hno k0 k1 k2 k3 k4 kl hB4;have HR4:=aH (Below.refl w4.heap.size w4);go_wp2_with fail
    go_loopw [11,12] (fun v11 v12 wr=>∃ i:Nat,v11=.int .i64 (i:Int)/\(i:Int)<=nk/\aQ (Below w4.heap.size w4 wr)) (fun v11 _ _=>nk - (intOf v11).toNat)
    case atStart=>exact ⟨0,rfl,by omega,HR4⟩
    case round =>
     obtain ⟨i,rfl,hi,HBi⟩:=hrel;have HBr:=aH (HB4.o.trans (HBi.o.mono HB4.o.size));have HNr:=aH (HN4.o.under HBi.o HN4.o.lt);have y0:wr.cell? ⟨B4,0,none⟩=some (.int .i64 op):=HNr.o.cell 0;have y6:wr.cell? ⟨B4,6,none⟩=some (.slice ko nk kc):=HNr.o.cell 6;have y7:wr.cell? ⟨B4,7,none⟩=some (.int .i64 x.tg):=HNr.o.cell 7;have yl:=HNr.o.lt;by_cases hin:(i:Int) < nk
     ·
      have hi1:decide ((i:Int) < (nk:Int))=true:=aT hin;have hi2:decide (i < nk)=true:=aT (by omega);have hi3:i < nk:=(by omega);have hw2:IntKind.i64.wrap ((i:Int) + 1)=(i:Int) + 1:=wI;obtain ⟨k,hk⟩:∃ q,x.ks[i]?=some q:=⟨_,aG (by have:=HNK.o;omega)⟩;have HKK:=aH hk;have hkm:=aM hk;have HKM:=aH hkm;have hkn:k < nn:=(by have:=HKID.o k hkm;have:=HNN.o.1;omega);have hk1:decide ((k:Int) < (nn:Int))=true:=aT (by omega);have hk2:decide (k < nn)=true:=aT hkn;obtain ⟨b2,off2,hko,-,-,q0⟩:=(HK4.o.below HBi.o) i k hk;have hb2:b2 < wr.heap.size:=World.block_lt_of_cell? wr _ q0;subst hko;clear hk hkm;obtain ⟨v0,ql,-⟩:=HV.o wr HBr.o k hkn;obtain ⟨u0,-,-⟩:=HV.o wr HBr.o n hn3;rcases op_fou op with rfl | h67 | h5 | ⟨h4,h6,h7,h5,h8,h12,h13⟩
      ·
       as_aux_lemma =>
       obtain ⟨j,hj⟩:∃ j,i + 1=j:=⟨_,rfl⟩;have hw3:IntKind.i64.wrap ((i:Int) + 1)=(j:Int):=(by rw [hw2];omega);clear hw2;by_cases hjn:j < nk
       ·
        obtain ⟨bk,hbk⟩:∃ bk,x.ks[j]?=some bk:=⟨_,aG (by have:=HNK.o;omega)⟩;have hbn:bk < nn:=(by have:=HKID.o bk (aM hbk);have:=HNN.o.1;omega);have hb1:decide ((bk:Int) < (nn:Int))=true:=aT (by omega);have hb2':decide (bk < nn)=true:=aT hbn;have hj1:decide ((j:Int) < (nk:Int))=true:=aT (by omega);have hj2:decide (j < nk)=true:=aT hjn;have hj3:(j:Int) < (nk:Int):=(by omega);have hj4:((j:Int) == (nk:Int))=false:=aN.2 (by omega);have hj5:decide ((j:Int)=(nk:Int))=false:=aF (by omega);have hj6:decide (j=nk)=false:=aF (by omega);have hj7:(j == nk)=false:=aN.2 (by omega);have HM:=aH (HM1.o n x i k bk HX.o HOP.o HKK.o (by rw [hj];exact hbk));have HMN:=aH (HM2.o n x i k bk HX.o HOP.o HKK.o (by rw [hj];exact hbk));obtain ⟨b3,off3,hko3,-,-,qq⟩:=(HK4.o.below HBi.o) j bk hbk;obtain ⟨rfl,rfl⟩:b2=b3/\off2=off3:=(by injection hko3 with h1;injection h1 with h1 h2;exact ⟨h1,h2⟩);obtain ⟨k0,k1,k2,k3,k4,kl⟩:=HC7.o wr HBr.o;obtain ⟨S,HS⟩:∃ S:World->Prop,aQ (S=fun Wx=>Wx.cell? ⟨B,0,none⟩=some (.slice a.mo nms a.mc)/\Wx.cell? ⟨B,1,none⟩=some (.slice a.no nn a.nc)/\Wx.cell? ⟨B,2,none⟩=some (.slice a.ho nh a.hc)/\Wx.cell? ⟨B,3,none⟩=some (.slice a.wo nw a.wc)/\Wx.cell? ⟨B,4,none⟩=some (.int .i64 gr.st)/\B < Wx.heap.size/\Wx.cell? ⟨q,k,none⟩=some (V k)/\q < Wx.heap.size/\Wx.cell? ⟨B4,6,none⟩=some (.slice (some ⟨b2,off2,none⟩) nk kc)/\B4 < Wx.heap.size/\Wx.cell? ⟨b2,off2 + j,none⟩=some (.int .i64 (bk:Int))/\b2 < Wx.heap.size):=⟨_,aH rfl⟩;have HKS:aQ (∀ W,Below wr.heap.size wr W->S W):=aH (fun W h=>by rw [HS.o];exact ⟨keepc k0 h,keepc k1 h,keepc k2 h,keepc k3 h,keepc k4 h,aL kl h.size,keepc v0 h,aL ql h.size,keepc y6 h,aL yl h.size,keepc qq h,aL hb2 h.size⟩);have HSS:=aH (HKS.o (World.drew wr) (Below.refl _ _).drew);clear hko3 hbk;go_upto_region 18 with fail;refine wp_region_held (S:=S) (by kernel_rfl) ?_;change wpAnyH _ _ _ _ _ _ _ _ (World.drew _);clear k0 k1 k2 k3 k4 kl v0 ql u0 y0 y6 y7 yl q0 qq;refine tkV 0 ?_ rfl HSS.o (Or.inl ⟨by rfl,?_⟩) ?_;rotate_left;· intro W h;rw [HS.o] at h;obtain ⟨_,_,_,_,_,_,_,_,_,_,_,_⟩:=h;go_simp;try with_reducible rfl
        go_simp;refine tkV 1 ?_ rfl HSS.o (Or.inl ⟨by rfl,?_⟩) ?_;rotate_left;· intro W h;rw [HS.o] at h;obtain ⟨_,_,_,_,_,_,_,_,_,_,_,_⟩:=h;go_simp;try with_reducible rfl
        go_simp;refine tkV 2 ?_ rfl HSS.o (Or.inl ⟨by rfl,?_⟩) ?_;rotate_left;· intro W h;rw [HS.o] at h;obtain ⟨_,_,_,_,_,_,_,_,_,_,_,_⟩:=h;go_simp;try with_reducible rfl
        go_simp;refine tkV 3 ?_ rfl HSS.o (Or.inl ⟨by rfl,?_⟩) ?_;rotate_left;· intro W h;rw [HS.o] at h;obtain ⟨_,_,_,_,_,_,_,_,_,_,_,_⟩:=h;go_simp;try with_reducible rfl
        go_simp;refine tkV 4 ?_ rfl HSS.o (Or.inl ⟨by rfl,?_⟩) ?_;rotate_left;· intro W h;rw [HS.o] at h;obtain ⟨_,_,_,_,_,_,_,_,_,_,_,_⟩:=h;go_simp;try with_reducible rfl
        go_simp;refine tkV 5 ?_ rfl HSS.o (Or.inl ⟨by rfl,?_⟩) ?_;rotate_left;· intro W h;rw [HS.o] at h;obtain ⟨_,_,_,_,_,_,_,_,_,_,_,_⟩:=h;go_simp;try with_reducible rfl
        go_simp;refine tkV 6 ?_ rfl HSS.o (Or.inl ⟨by rfl,?_⟩) ?_;rotate_left;· intro W h;rw [HS.o] at h;obtain ⟨_,_,_,_,_,_,_,_,_,_,_,_⟩:=h;go_simp;try with_reducible rfl
        go_simp;refine tkV 7 ?_ rfl HSS.o (Or.inl ⟨by rfl,?_⟩) ?_;rotate_left;· intro W h;rw [HS.o] at h;obtain ⟨_,_,_,_,_,_,_,_,_,_,_,_⟩:=h;go_simp;try with_reducible rfl
        go_simp;refine tkV 8 ?_ rfl HSS.o (Or.inl ⟨by rfl,?_⟩) ?_;rotate_left;· intro W h;rw [HS.o] at h;obtain ⟨_,_,_,_,_,_,_,_,_,_,_,_⟩:=h;go_simp;try with_reducible rfl
        go_simp;refine tkV 9 ?_ rfl HSS.o (Or.inl ⟨by rfl,?_⟩) ?_;rotate_left;· intro W h;rw [HS.o] at h;obtain ⟨_,_,_,_,_,_,_,_,_,_,_,_⟩:=h;go_simp;try with_reducible rfl
        go_simp;refine tkV 10 ?_ rfl HSS.o (Or.inl ⟨by rfl,?_⟩) ?_;rotate_left;· intro W h;rw [HS.o] at h;obtain ⟨_,_,_,_,_,_,_,_,_,_,_,_⟩:=h;go_simp;try with_reducible rfl
        go_simp;refine tkV 11 ?_ rfl HSS.o (Or.inl ⟨by rfl,?_⟩) ?_;rotate_left;· intro W h;rw [HS.o] at h;obtain ⟨_,_,_,_,_,_,_,_,_,_,_,_⟩:=h;go_simp;try with_reducible rfl
        go_simp;refine tkV 12 ?_ rfl HSS.o (Or.inl ⟨by rfl,?_⟩) ?_;rotate_left;· intro W h;rw [HS.o] at h;obtain ⟨_,_,_,_,_,_,_,_,_,_,_,_⟩:=h;go_simp;try with_reducible rfl
        go_simp;refine tkV 13 ?_ rfl HSS.o (Or.inl ⟨by rfl,?_⟩) ?_;rotate_left;· intro W h;rw [HS.o] at h;obtain ⟨_,_,_,_,_,_,_,_,_,_,_,_⟩:=h;go_simp;try with_reducible rfl
        go_simp;refine tkV 15 ?_ rfl HSS.o (Or.inl ⟨by rfl,?_⟩) ?_;rotate_left;· intro W h;rw [HS.o] at h;obtain ⟨_,_,_,_,_,_,_,_,_,_,_,_⟩:=h;go_simp;try with_reducible rfl
        go_simp;refine tkV 16 ?_ rfl HSS.o (Or.inl ⟨by rfl,?_⟩) ?_;rotate_left;· intro W h;rw [HS.o] at h;obtain ⟨_,_,_,_,_,_,_,_,_,_,_,_⟩:=h;go_simp;try with_reducible rfl
        go_simp;refine tkV 17 ?_ rfl HSS.o (Or.inl ⟨by rfl,?_⟩) ?_;rotate_left;· intro W h;rw [HS.o] at h;obtain ⟨_,_,_,_,_,_,_,_,_,_,_,_⟩:=h;go_simp;try with_reducible rfl
        go_simp;refine tkV 18 ?_ rfl HSS.o (Or.inl ⟨by rfl,?_⟩) ?_;rotate_left;· intro W h;rw [HS.o] at h;obtain ⟨_,_,_,_,_,_,_,_,_,_,_,_⟩:=h;go_simp;try with_reducible rfl
        go_simp;have hb0:Below wr.heap.size wr (World.drew wr):=(Below.refl _ _).drew;refine held_one (i:=14) (by kernel_rfl) (op_call (f:=12) (vs:=#[.agg #[.slice a.mo nms a.mc,.slice a.no nn a.nc,.slice a.ho nh a.hc,.slice a.wo nw a.wc,.int .i64 gr.st],.int .i64 (bk:Int)]) rfl (by kernel_rfl) (by go_simp) ((HLE.o bk (by have:=HNN.o.1;omega) (World.drew wr) ((HG7.o wr HBr.o).below hb0)).mono ?_));rintro e w8 ⟨v8,he,hI8,hb8⟩;have hb1:=hb0.trans (hb8.mono hb0.size);refine ⟨_,he,HKS.o w8 hb1,?_⟩;have HT1:=aH (within_any v8 (V k) (leadG gr bk) (nextG gr k) _ 0 (HLB.o bk).1 (HTL.o k) HM.o w8 hI8 (HV.o w8 (HBr.o.trans (hb1.mono HBr.o.size)) k hkn).2.2);clear hI8;go_simp;refine held_one (i:=19) (by kernel_rfl) (op_call (f:=22) (vs:=#[v8,V k]) rfl (by kernel_rfl) (by go_simp) (HT1.o.mono ?_));rintro e w9 ⟨he9,hb9⟩;have hb2:=hb1.trans (hb9.mono hb1.size);refine ⟨_,he9,HKS.o w9 hb2,?_⟩;have HZ:=aH (HKS.o w9 hb2);go_simp;refine tkV 20 ?_ rfl HZ.o (Or.inl ⟨by rfl,?_⟩) ?_;rotate_left;· intro W h;rw [HS.o] at h;obtain ⟨_,_,_,_,_,_,_,_,_,_,_,_⟩:=h;go_simp;try with_reducible rfl
        go_simp;refine tkV 21 ?_ rfl HZ.o (Or.inl ⟨by rfl,?_⟩) ?_;rotate_left;· intro W h;rw [HS.o] at h;obtain ⟨_,_,_,_,_,_,_,_,_,_,_,_⟩:=h;go_simp;try with_reducible rfl
        go_simp;refine wpAnyH_done (by kernel_rfl) ?_ _;go_simp;have HBy:=aH (HBi.o.trans (hb2.mono HBi.o.size));have HBw:=aH (HBr.o.trans (hb2.mono HBr.o.size));have hz:=HZ.o;rw [HS.o] at hz;obtain ⟨-,-,-,-,-,-,v0,ql,y6,yl,qq,hbb⟩:=hz;clear hb0 hb1 hb2 hb8 hb9 HT1 HZ HSS;obtain ⟨vb,-,-⟩:=HV.o w9 HBw.o bk hbn;obtain ⟨db,dl⟩:=HD.o w9 HBw.o bk hbn;have v0':=cell_regrown v0;have y6':=cell_regrown y6;have qq':=cell_regrown qq;have vb':=cell_regrown vb;have db':=cell_regrown db
        cases hnu:nulG gr bk with
        | true =>
         rw [hnu] at db db';have HMM:=aH (HMN.o hnu);have C1:=aH (fun (dq:Nat) (os:Array Obj)=>HW.o bk k hbn hkn HMM.o (grow (redrawn w9 dq) os) (HBw.o.trans ((below_regrown w9 dq os).mono HBw.o.size)));go_upto_region 20 with fail;refine wp_region_quiet_below (by kernel_rfl) (by kernel_rfl) ?_
         repeat (go_big_quiet_step (first
          | (go_at_call 22;with_reducible exact Calls.regrown_of (C1.o _ _))))
         refine wpQuiet_nil ?_;intro _ hw';obtain ⟨⟨dq,osq⟩,hw''⟩:=hw';subst hw'';have hbq:=below_regrown w9 dq osq;have HBv:=aH (HBy.o.trans (hbq.mono HBy.o.size));have y6q:=keepc y6 hbq;have ylq:=aL yl hbq.size;clear v0 v0' y6 y6' qq qq' vb vb' db db' yl ql dl hbb C1 HMM hbq HBw;generalize grow (redrawn w9 dq) osq=wx at *;go_upto_region 22 with fail;go_quiet (fail);have HBz:=aH (HBv.o.trans ((below_drewN (Below.refl wx.heap.size wx) nq).mono HBv.o.size));go_wp2
         go_roundw
         case rel=>exact ⟨j,by go_num,by omega,HBz⟩
         case measure=>simp [intOf];omega
        | false =>
         rw [hnu] at db db';go_upto_region 20 with fail;go_quiet (fail);have hbq:=below_drewN (Below.refl w9.heap.size w9) nq;have HBv:=aH (HBy.o.trans (hbq.mono HBy.o.size));have y6q:=keepc y6 hbq;have ylq:=aL yl hbq.size;clear v0 v0' y6 y6' qq qq' vb vb' db db' yl ql dl hbb hbq HBw;generalize w9.drewN nq=wx at *;go_upto_region 22 with fail;go_quiet (fail);have HBz:=aH (HBv.o.trans ((below_drewN (Below.refl wx.heap.size wx) nq).mono HBv.o.size));go_wp2
         go_roundw
         case rel=>exact ⟨j,by go_num,by omega,HBz⟩
         case measure=>simp [intOf];omega
       ·
        have hjk:j=nk:=(by omega);have hj1:decide ((j:Int) < (nk:Int))=false:=aF (by omega);have hj2:decide (j < nk)=false:=aF hjn;have hj4:((j:Int) == (nk:Int))=true:=beq_iff_eq.2 (by omega);have hj5:decide ((j:Int)=(nk:Int))=true:=aT (by omega);have hj6:decide (j=nk)=true:=aT hjk;have HMM:=aH (HM3.o n x i k HX.o HOP.o HKK.o (by have:=HNK.o;omega));have hj7:(j == nk)=true:=beq_iff_eq.2 hjk;have hj8:¬ (j:Int) < (nk:Int):=(by omega);go_upto_region 18 with fail;go_quiet (fail);have hbq:=below_drewN (Below.refl wr.heap.size wr) nq;have HBi2:=aH (HBi.o.trans (hbq.mono HBi.o.size));have HBr2:=aH (HBr.o.trans (hbq.mono HBr.o.size));have y6q:=keepc y6 hbq;have v0q:=keepc v0 hbq;have u0q:=keepc u0 hbq;have ylq:=aL yl hbq.size;have qlq:=aL ql hbq.size;clear hbq v0 u0 y0 y6 y7 yl ql q0 hb2 HBi HBr;generalize wr.drewN nq=wx at *;go_upto_region 20 with fail;go_quiet (fail);have hbq:=below_drewN (Below.refl wx.heap.size wx) nq;have HBi3:=aH (HBi2.o.trans (hbq.mono HBi2.o.size));have HBr3:=aH (HBr2.o.trans (hbq.mono HBr2.o.size));have y6:=keepc y6q hbq;have v0:=keepc v0q hbq;have u0:=keepc u0q hbq;have yl:=aL ylq hbq.size;have ql:=aL qlq hbq.size;clear hbq y6q v0q u0q ylq qlq HBi2 HBr2;generalize wx.drewN nq=wy at *;have C1:=aH (fun (dq:Nat) (os:Array Obj)=>HW.o n k hn3 hkn HMM.o (grow (redrawn wy dq) os) (HBr3.o.trans ((below_regrown wy dq os).mono HBr3.o.size)));have v0':=cell_regrown v0;have u0':=cell_regrown u0;have y6':=cell_regrown y6;go_upto_region 22 with fail;refine wp_region_quiet_below (by kernel_rfl) (by kernel_rfl) ?_
        repeat (go_big_quiet_step (first
         | (go_at_call 22;with_reducible exact Calls.regrown_of (C1.o _ _))))
        refine wpQuiet_nil ?_;intro _ hw';obtain ⟨⟨dq,osq⟩,hw''⟩:=hw';subst hw'';have HBz:=aH (HBi3.o.trans ((below_regrown wy dq osq).mono HBi3.o.size));go_wp2
        go_roundw
        case rel=>exact ⟨j,by go_num,by omega,HBz⟩
        case measure=>simp [intOf];omega
      ·
       obtain ⟨hmA,hmB⟩:=HM4.o n x k HX.o (by rw [HOP.o];exact h67) HKM.o;obtain ⟨k0,k1,k2,k3,k4,kl⟩:=HC7.o wr HBr.o;obtain ⟨S,HS⟩:∃ S:World->Prop,aQ (S=fun Wx=>Wx.cell? ⟨B,0,none⟩=some (.slice a.mo nms a.mc)/\Wx.cell? ⟨B,1,none⟩=some (.slice a.no nn a.nc)/\Wx.cell? ⟨B,2,none⟩=some (.slice a.ho nh a.hc)/\Wx.cell? ⟨B,3,none⟩=some (.slice a.wo nw a.wc)/\Wx.cell? ⟨B,4,none⟩=some (.int .i64 gr.st)/\B < Wx.heap.size/\Wx.cell? ⟨q,k,none⟩=some (V k)/\q < Wx.heap.size/\Wx.cell? ⟨q,n,none⟩=some (V n)):=⟨_,aH rfl⟩;have HKS:aQ (∀ W,Below wr.heap.size wr W->S W):=aH (fun W h=>by rw [HS.o];exact ⟨keepc k0 h,keepc k1 h,keepc k2 h,keepc k3 h,keepc k4 h,aL kl h.size,keepc v0 h,aL ql h.size,keepc u0 h⟩);have HSS:=aH (HKS.o (World.drew wr) (Below.refl _ _).drew);have HMA:=aH hmA;have HMB:=aH hmB;clear hmA hmB;rcases h67 with rfl | rfl
       all_goals as_aux_lemma =>
        go_upto_region 26 with fail;refine wp_region_held (S:=S) (by kernel_rfl) ?_;change wpAnyH _ _ _ _ _ _ _ _ (World.drew _);clear k0 k1 k2 k3 k4 kl v0 ql u0 y0 y6 y7 yl q0;refine tkV 0 ?_ rfl HSS.o (Or.inl ⟨by rfl,?_⟩) ?_;rotate_left;· intro W h;rw [HS.o] at h;obtain ⟨_,_,_,_,_,_,_,_,_⟩:=h;go_simp;try with_reducible rfl
        go_simp;refine tkV 1 ?_ rfl HSS.o (Or.inl ⟨by rfl,?_⟩) ?_;rotate_left;· intro W h;rw [HS.o] at h;obtain ⟨_,_,_,_,_,_,_,_,_⟩:=h;go_simp;try with_reducible rfl
        go_simp;refine tkV 3 ?_ rfl HSS.o (Or.inl ⟨by rfl,?_⟩) ?_;rotate_left;· intro W h;rw [HS.o] at h;obtain ⟨_,_,_,_,_,_,_,_,_⟩:=h;go_simp;try with_reducible rfl
        go_simp;refine tkV 4 ?_ rfl HSS.o (Or.inl ⟨by rfl,?_⟩) ?_;rotate_left;· intro W h;rw [HS.o] at h;obtain ⟨_,_,_,_,_,_,_,_,_⟩:=h;go_simp;try with_reducible rfl
        go_simp;refine tkV 5 ?_ rfl HSS.o (Or.inl ⟨by rfl,?_⟩) ?_;rotate_left;· intro W h;rw [HS.o] at h;obtain ⟨_,_,_,_,_,_,_,_,_⟩:=h;go_simp;try with_reducible rfl
        go_simp;refine tkV 6 ?_ rfl HSS.o (Or.inl ⟨by rfl,?_⟩) ?_;rotate_left;· intro W h;rw [HS.o] at h;obtain ⟨_,_,_,_,_,_,_,_,_⟩:=h;go_simp;try with_reducible rfl
        go_simp;have hb0:Below wr.heap.size wr (World.drew wr):=(Below.refl _ _).drew;refine held_one (i:=2) (by kernel_rfl) (op_call (f:=12) (vs:=#[.agg #[.slice a.mo nms a.mc,.slice a.no nn a.nc,.slice a.ho nh a.hc,.slice a.wo nw a.wc,.int .i64 gr.st],.int .i64 (k:Int)]) rfl (by kernel_rfl) (by go_simp) ((HLE.o k (by have:=HNN.o.1;omega) (World.drew wr) ((HG7.o wr HBr.o).below hb0)).mono ?_));rintro e w8 ⟨v8,he,hI8,hb8⟩;have hb1:=hb0.trans (hb8.mono hb0.size);refine ⟨_,he,HKS.o w8 hb1,?_⟩;have HT1:=aH (within_any v8 (V k) (leadG gr k) (nextG gr k) _ 0 (HLB.o k).1 (HTL.o k) HMA.o w8 hI8 (HV.o w8 (HBr.o.trans (hb1.mono HBr.o.size)) k hkn).2.2);clear hI8;go_simp;refine held_one (i:=7) (by kernel_rfl) (op_call (f:=22) (vs:=#[v8,V k]) rfl (by kernel_rfl) (by go_simp) (HT1.o.mono ?_));rintro e w9 ⟨he9,hb9⟩;have hb2:=hb1.trans (hb9.mono hb1.size);refine ⟨_,he9,HKS.o w9 hb2,?_⟩;have HZ:=aH (HKS.o w9 hb2);go_simp;refine tkV 8 ?_ rfl HZ.o (Or.inl ⟨by rfl,?_⟩) ?_;rotate_left;· intro W h;rw [HS.o] at h;obtain ⟨_,_,_,_,_,_,_,_,_⟩:=h;go_simp;try with_reducible rfl
        go_simp;refine tkV 9 ?_ rfl HZ.o (Or.inl ⟨by rfl,?_⟩) ?_;rotate_left;· intro W h;rw [HS.o] at h;obtain ⟨_,_,_,_,_,_,_,_,_⟩:=h;go_simp;try with_reducible rfl
        go_simp;refine tkV 10 ?_ rfl HZ.o (Or.inl ⟨by rfl,?_⟩) ?_;rotate_left;· intro W h;rw [HS.o] at h;obtain ⟨_,_,_,_,_,_,_,_,_⟩:=h;go_simp;try with_reducible rfl
        go_simp;refine tkV 11 ?_ rfl HZ.o (Or.inl ⟨by rfl,?_⟩) ?_;rotate_left;· intro W h;rw [HS.o] at h;obtain ⟨_,_,_,_,_,_,_,_,_⟩:=h;go_simp;try with_reducible rfl
        go_simp;refine tkV 12 ?_ rfl HZ.o (Or.inl ⟨by rfl,?_⟩) ?_;rotate_left;· intro W h;rw [HS.o] at h;obtain ⟨_,_,_,_,_,_,_,_,_⟩:=h;go_simp;try with_reducible rfl
        go_simp;refine tkV 13 ?_ rfl HZ.o (Or.inl ⟨by rfl,?_⟩) ?_;rotate_left;· intro W h;rw [HS.o] at h;obtain ⟨_,_,_,_,_,_,_,_,_⟩:=h;go_simp;try with_reducible rfl
        go_simp;refine tkV 14 ?_ rfl HZ.o (Or.inl ⟨by rfl,?_⟩) ?_;rotate_left;· intro W h;rw [HS.o] at h;obtain ⟨_,_,_,_,_,_,_,_,_⟩:=h;go_simp;try with_reducible rfl
        go_simp;refine tkV 15 ?_ rfl HZ.o (Or.inl ⟨by rfl,?_⟩) ?_;rotate_left;· intro W h;rw [HS.o] at h;obtain ⟨_,_,_,_,_,_,_,_,_⟩:=h;go_simp;try with_reducible rfl
        go_simp;refine tkV 16 ?_ rfl HZ.o (Or.inl ⟨by rfl,?_⟩) ?_;rotate_left;· intro W h;rw [HS.o] at h;obtain ⟨_,_,_,_,_,_,_,_,_⟩:=h;go_simp;try with_reducible rfl
        go_simp;refine tkV 17 ?_ rfl HZ.o (Or.inl ⟨by rfl,?_⟩) ?_;rotate_left;· intro W h;rw [HS.o] at h;obtain ⟨_,_,_,_,_,_,_,_,_⟩:=h;go_simp;try with_reducible rfl
        go_simp;refine held_one (i:=18) (by kernel_rfl) (op_call (f:=22) (vs:=#[V n,V k]) rfl (by kernel_rfl) (by go_simp) ((HW.o n k hn3 hkn HMB.o w9 (HBr.o.trans (hb2.mono HBr.o.size))).mono ?_));rintro e w10 ⟨he10,hb10⟩;have hb3:=hb2.trans (hb10.mono hb2.size);refine ⟨_,he10,HKS.o w10 hb3,?_⟩;have HZ2:=aH (HKS.o w10 hb3);go_simp;refine tkV 19 ?_ rfl HZ2.o (Or.inl ⟨by rfl,?_⟩) ?_;rotate_left;· intro W h;rw [HS.o] at h;obtain ⟨_,_,_,_,_,_,_,_,_⟩:=h;go_simp;try with_reducible rfl
        go_simp;refine tkV 20 ?_ rfl HZ2.o (Or.inl ⟨by rfl,?_⟩) ?_;rotate_left;· intro W h;rw [HS.o] at h;obtain ⟨_,_,_,_,_,_,_,_,_⟩:=h;go_simp;try with_reducible rfl
        go_simp;refine wpAnyH_done (by kernel_rfl) ?_ _;go_simp;have HBz:=aH (HBi.o.trans (hb3.mono HBi.o.size));clear hb0 hb1 hb2 hb3 hb8 hb9 hb10 HT1;go_wp2
        go_roundw
        case rel=>exact ⟨i + 1,by go_num,by omega,HBz⟩
        case measure=>simp [intOf];omega
      ·
       have HMM:=aH (HM5.o n x k HX.o (by rw [HOP.o];exact h5) HKM.o);have C1:=aH (fun (dq:Nat) (os:Array Obj)=>HW.o n k hn3 hkn HMM.o (grow (redrawn wr dq) os) (HBr.o.trans ((below_regrown wr dq os).mono HBr.o.size)));have v0':=cell_regrown v0;have u0':=cell_regrown u0;rcases h5 with rfl | rfl | rfl | rfl
       all_goals as_aux_lemma =>
        go_wp2_with fail;refine wp_region_quiet_below (by kernel_rfl) (by kernel_rfl) ?_
        repeat (go_big_quiet_step (first
         | (go_at_call 22;with_reducible exact Calls.regrown_of (C1.o _ _))))
        refine wpQuiet_nil ?_;intro _ hw';obtain ⟨⟨dq,osq⟩,hw''⟩:=hw';subst hw'';have HBz:=aH (HBi.o.trans ((below_regrown wr dq osq).mono HBi.o.size));go_wp2
        go_roundw
        case rel=>exact ⟨i + 1,by go_num,by omega,HBz⟩
        case measure=>simp [intOf];omega
      ·
       go_wp2
       go_roundw
       case rel=>exact ⟨i + 1,by go_num,by omega,HBi⟩
       case measure=>simp [intOf];omega
     ·
      have hi1:decide ((i:Int) < (nk:Int))=false:=aF hin;have hi2:decide (i < nk)=false:=aF (by omega);by_cases h11:op=11
      ·
       subst h11;obtain ⟨tt,hh0,htt,hhe,hbo⟩:=HREF.o HOP.o;obtain ⟨b2,off2,hho,hb2,-,d0,d1,d2⟩:=(HG7.o wr HBr.o).2.1 tt hh0 hhe;obtain ⟨k0,k1,k2,k3,k4,kl⟩:=HC7.o wr HBr.o;rw [hho] at k2;rw [htt] at y7;have htn:tt < nh:=(by have:=(aS.1 hhe).1;have:=HNN.o.2;omega);have ht1:decide ((tt:Int) < (nh:Int))=true:=aT (by omega);have ht2:decide (tt < nh)=true:=aT htn;have hbd0:bodyG gr n=hh0.bo:=by
        unfold bodyG;rw [HX.o]
        show (if x.op=11 then (match gr.hs[x.tg.toNat]? with
         | some h=>h.bo
         | none=>0) else n)=hh0.bo
        rw [if_pos HOP.o,htt,Int.toNat_natCast,hhe]
       have hmm:=HM6.o n x HX.o HOP.o;obtain ⟨q1,hq⟩:∃ q1,hh0.bo=q1:=⟨_,rfl⟩;rw [hq] at hbd0 hbo d2;rw [hbd0] at hmm;have hqn:q1 < nn:=(by have:=HNN.o.1;omega);have hq1:decide ((q1:Int) < (nn:Int))=true:=aT (by omega);have hq2:decide (q1 < nn)=true:=aT hqn;obtain ⟨v0,ql,-⟩:=HV.o wr HBr.o q1 hqn;obtain ⟨u0,-,-⟩:=HV.o wr HBr.o n hn3;have C1:=aH (fun (dq:Nat) (os:Array Obj)=>HW.o n q1 hn3 hqn hmm (grow (redrawn wr dq) os) (HBr.o.trans ((below_regrown wr dq os).mono HBr.o.size)));have v0':=cell_regrown v0;have u0':=cell_regrown u0;have y0':=cell_regrown y0;have y7':=cell_regrown y7;have k2':=cell_regrown k2;have d2':=cell_regrown d2;clear hhe hho htt hbd0 hbo hq hmm d0 d1 k0 k1 k3 k4;go_upto_region 34 with fail;refine wp_region_quiet_below (by kernel_rfl) (by kernel_rfl) ?_
       repeat (go_big_quiet_step (first
        | (go_at_call 22;with_reducible exact Calls.regrown_of (C1.o _ _))))
       refine wpQuiet_nil ?_;intro _ hw';obtain ⟨⟨dq,osq⟩,hw''⟩:=hw';subst hw'';have HBz:=aH (HBr.o.trans ((below_regrown wr dq osq).mono HBr.o.size));go_wp2
       go_roundw
       case rel=>exact ⟨n + 1,by go_num,by omega,HBz⟩
       case measure=>simp [intOf];omega
      ·
       have h11a:(op == 11)=false:=aN.2 h11;have h11b:decide (op=11)=false:=aF h11;go_upto_region 34 with fail;go_quiet (fail);have HBz:=aH (HBr.o.trans ((below_drewN (Below.refl wr.heap.size wr) nq).mono HBr.o.size));go_wp2
       go_roundw
       case rel=>exact ⟨n + 1,by go_num,by omega,HBz⟩
       case measure=>simp [intOf];omega
   · have hn1:decide ((n:Int) < (nn:Int))=false:=aF hnn;have hn2:decide (n < nn)=false:=aF (by omega);have HAW:=aH (awake14_any wr);go_wp2_with fail;refine HAW.o.mono ?_;rintro e w9 ⟨he,hb9⟩;subst he;have HBZ:=aH (HB3.o.trans ((HB7.o.trans ((HBn.o.trans (hb9.mono HBn.o.size)).mono HB7.o.size)).mono HB3.o.size));clear hb9;go_wp2;go_ret;exact ⟨rfl,HBZ.o⟩
end Go.Proofs.Ytbjgojdpfehnmaa
