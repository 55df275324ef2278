import Derived.Test.YthddifjhoniacaaNa
namespace Go.Proofs.Ythddifjhoniacaa
set_option linter.unusedVariables false
open Go.RowKit Go.Sort
theorem kidL_drop {LD:Nx} {NU:Nat->Bool} {n:Nat} {op:Int} {ks:List Nat} {i k:Nat} {T:Nx} (h:ks[i]?=some k):kidL LD NU n op (ks.drop i) T=kidL LD NU n op (ks.drop (i + 1)) (setN T k (orL (T k) (parL LD NU n op k (ks.drop (i + 1)) T))):=by obtain ⟨h1,h2⟩:=aS.1 h;rw [List.drop_eq_getElem_cons h1,h2];rfl
theorem behF_drop {LD:Nx} {NU:Nat->Bool} {L:List Int} {r:List Nat} {j b:Nat} (h:r[j]?=some b):behF LD NU L (r.drop j)=if NU b=true then behF LD NU (orL L (LD b)) (r.drop (j + 1)) else (orL L (LD b),false):=by obtain ⟨h1,h2⟩:=aS.1 h;rw [List.drop_eq_getElem_cons h1,h2];rfl
set_option maxRecDepth 1000000 in
set_option maxHeartbeats 6400000 in
theorem rkids_any (gr:Gj) (a:Gv) (hg:Good gr) (har:∀ x ∈ gr.ns,Ar x) (E p u q C:Nat) (lo:Option Addr) (lc:Nat) (LD:Nx) (hLD:∀ j,((LD j).length:Int)<=1000/\∀ x ∈ LD j,0<=x/\x < (gr.ns.length:Int)) (n:Nat) (hn:n < gr.ns.length) (T:Nx) (w:World) (hS:Bk w E p u q C lo lc gr a LD T) :
  Calls Try.prog 22 #[.pointer (some ⟨p,0,none⟩),.int .i64 (n:Int)] w (BkE E p u q C lo lc gr a LD (kidsR gr LD n T) w):=by
 obtain ⟨x,hx⟩:∃ x,gr.ns[n]?=some x:=⟨_,aG hn⟩;have hxm:=aM hx;have HS0:=aH hS;have HNN:=aH hn;have HLD:=aH hLD;have HARX:=aH (har x hxm);have HKID:=aH (hg.kid x hxm);have HRS:=aH (show kidsR gr LD n T=if x.op=11 then setN T (bodyG gr n) (orL (T (bodyG gr n)) (T n)) else kidL LD (nulG gr) n x.op x.ks T from by unfold kidsR;rw [hx]);have HOR:=aH (fun A B h1 h2 h3 va vb W h4 h5 h6=>orl_any A B gr.ns.length (by have:=hg.len;omega) h1 h2 h3 va vb C W h4 h5 h6);have HBO:=aH (fun W h=>sbody_any gr a hg n hn W h);have HBL:=aH (bodyG_lt hg hn);have hkl:=hg.kl x hxm;obtain ⟨b,off,ko,kc,hno,hb,hcap,c0,c1,c2,c3,c4,c5,c6,c7,c8,c9,hkk⟩:=hS.hg.1 n x hx;have HCP:=aH hcap;have hrow:=hS.own;have hn160:=hg.len;obtain ⟨RES,hRES⟩:∃ z,kidsR gr LD n T=z:=⟨_,rfl⟩;rw [hRES] at HRS;rw [hRES];unfold BkE;unfold grv at HBO;obtain ⟨nn,hnn⟩:∃ z,gr.ns.length=z:=⟨_,rfl⟩;have HLN:=aH hnn;obtain ⟨nk,hnk⟩:∃ z,x.ks.length=z:=⟨_,rfl⟩;have HNK:=aH hnk;obtain ⟨op,hop⟩:∃ z,x.op=z:=⟨_,rfl⟩;have HOP:=aH hop;rw [hnk] at c6 hkl;rw [hop] at c0 HRS;rw [hnn] at hn hn160;have p1:w.cell? ⟨p,1,none⟩=some (.slice (some ⟨b,off,none⟩) nn a.nc):=by rw [<- hno,<- hnn];exact hrow.cell 1
 have pl:=hrow.lt;have hn1:decide ((n:Int) < (nn:Int))=true:=aT (by omega);have hn2:decide (n < nn)=true:=aT hn;have hbl:Below w.heap.size w (w.alloc (.cells #[.int .i64 op,.string x.tx,.int .u64 x.s0,.int .u64 x.s1,.int .u64 x.s2,.int .u64 x.s3,.slice ko nk kc,.int .i64 x.tg,.int .i64 (x.mo:Int),.int .i64 x.ru] 44)):=bA _;have HS2:=aH (hS.below hbl);have HB2:=aH (show But (fun b=>b=q) w (w.alloc (.cells #[.int .i64 op,.string x.tx,.int .u64 x.s0,.int .u64 x.s1,.int .u64 x.s2,.int .u64 x.s3,.slice ko nk kc,.int .i64 x.tg,.int .i64 (x.mo:Int),.int .i64 x.ru] 44)) from But.of_below hbl);have HK2:=aH (hkk.below hbl);have HN2:=aH (Own.fresh w 44 [.int .i64 op,.string x.tx,.int .u64 x.s0,.int .u64 x.s1,.int .u64 x.s2,.int .u64 x.s3,.slice ko nk kc,.int .i64 x.tg,.int .i64 (x.mo:Int),.int .i64 x.ru]);have HXP:=aH (show p < w.heap.size/\q < w.heap.size from by obtain ⟨V,h1,-⟩:=hS.nx;exact ⟨hS.own.lt,h1.lt⟩);clear hx hxm hS hLD hg har hcap hkk hrow hRES hnn hnk hop hno hbl;go_enter Try.func22,Try.ntmps22;go_upto_region 1 with fail;obtain ⟨X,hX⟩:∃ z,w.heap.size=z:=⟨_,rfl⟩;rw [hX] at HN2 HXP;generalize w.alloc (.cells #[.int .i64 op,.string x.tx,.int .u64 x.s0,.int .u64 x.s1,.int .u64 x.s2,.int .u64 x.s3,.slice ko nk kc,.int .i64 x.tg,.int .i64 (x.mo:Int),.int .i64 x.ru] 44)=w2 at *;try rw [hX]
 clear hX c0 c1 c2 c3 c4 c5 c6 c7 c8 c9 hb p1 pl;have HXQ:=aH (show X ≠ q from by have:=HXP.o;omega);have y0:w2.cell? ⟨X,0,none⟩=some (.int .i64 op):=HN2.o.cell 0;have y6:w2.cell? ⟨X,6,none⟩=some (.slice ko nk kc):=HN2.o.cell 6;have yl:=HN2.o.lt;have hkc:=HCP.o.2;have hnk1:nk<=kc:=by have:=HNK.o;omega
 by_cases h11:op=11
 ·
  subst h11;have HE:=aH (show RES=setN T (bodyG gr n) (orL (T (bodyG gr n)) (T n)) from by rw [HRS.o,if_pos rfl]);have hk0:nk=0:=by have h:=HARX.o.kids;rw [HOP.o,HNK.o] at h;unfold kidsB at h;simpa using h
  subst hk0;obtain ⟨B,hB⟩:∃ z,bodyG gr n=z:=⟨_,rfl⟩;rw [hB] at HBO HE HBL;rw [HLN.o] at HBO;have HBN:=aH (show B < nn from by have:=HBL.o;have:=HLN.o;omega);clear hB HRS;go_wp2_with fail
  go_loopw [5] (fun v5 wr=>v5=.int .i64 0/\w2=wr) (fun _ _=>0)
  case atStart=>exact ⟨rfl,rfl⟩
  case round =>
   obtain ⟨rfl,rfl⟩:=hrel;have s0:w2.cell? ⟨p,0,none⟩=some (.slice a.mo gr.ms.length a.mc):=HS2.o.own.cell 0;have s1:w2.cell? ⟨p,1,none⟩=some (.slice a.no nn a.nc):=(by rw [<- HLN.o];exact HS2.o.own.cell 1);have s2:w2.cell? ⟨p,2,none⟩=some (.slice a.ho gr.hs.length a.hc):=HS2.o.own.cell 2;have s3:w2.cell? ⟨p,3,none⟩=some (.slice a.wo gr.ws.length a.wc):=HS2.o.own.cell 3;have s4:w2.cell? ⟨p,4,none⟩=some (.int .i64 gr.st):=HS2.o.own.cell 4;have pl:=HS2.o.own.lt;have HC:=aH (HBO.o w2 ((HS2.o.hg.mono fun _ _ _=>trivial)));go_wp2_with fail;refine HC.o.mono ?_;rintro e w3 ⟨he,hb3⟩;subst he;have HS3:=aH (HS2.o.below hb3);have HB3:=aH (HB2.o.then_below hb3);clear hb3 HC s0 s1 s2 s3 s4 pl y0 y6 yl;obtain ⟨V,hV1,hV2⟩:=HS3.o.nx;have HV1:=aH hV1;have HV2:=aH hV2;have p7:w3.cell? ⟨p,7,none⟩=some (.slice (some ⟨q,0,none⟩) nn nn):=(by rw [<- HLN.o];exact HS3.o.own.cell 7);have pl:=HS3.o.own.lt;have qB:w3.cell? ⟨q,B,none⟩=some (V B):=(by rw [hV1.cell B,List.getElem?_map,List.getElem?_range HBL.o];rfl);have qn:w3.cell? ⟨q,n,none⟩=some (V n):=(by rw [hV1.cell n,List.getElem?_map,List.getElem?_range HNN.o];rfl);have ql:=hV1.lt;have hB1:decide ((B:Int) < (nn:Int))=true:=aT (by have:=HBN.o;omega);have hB2:decide (B < nn)=true:=aT HBN.o;have hB3:B < nn:=HBN.o;clear hV1 hV2;go_upto_region 20 with fail;refine wp_region_heldTz (fun Wx=>p < Wx.heap.size/\Wx.cell? ⟨p,7,none⟩=some (.slice (some ⟨q,0,none⟩) nn nn)/\q < Wx.heap.size/\Wx.cell? ⟨q,B,none⟩=some (V B)/\Wx.cell? ⟨q,n,none⟩=some (V n)) 21 (by kernel_rfl) ?_;have HSS:=aH (show p < (World.drew w3).heap.size/\(World.drew w3).cell? ⟨p,7,none⟩=some (.slice (some ⟨q,0,none⟩) nn nn)/\q < (World.drew w3).heap.size/\(World.drew w3).cell? ⟨q,B,none⟩=some (V B)/\(World.drew w3).cell? ⟨q,n,none⟩=some (V n) from ⟨pl,p7,ql,qB,qn⟩);clear pl p7 ql qB qn;refine heldTz.pure 0 rfl (v:=?_) (Or.inl ⟨by rfl,?_⟩) HSS.o ?_;rotate_left;· intro W _;go_simp;try with_reducible rfl
   go_simp;refine heldTz.pure 1 rfl (v:=?_) (Or.inl ⟨by rfl,?_⟩) HSS.o ?_;rotate_left;· intro W _;go_simp;try with_reducible rfl
   go_simp;refine heldTz.pure 2 rfl (v:=?_) (Or.inl ⟨by rfl,?_⟩) HSS.o ?_;rotate_left;· intro W _;go_simp;try with_reducible rfl
   go_simp;refine heldTz.takeD 3 [20,21] rfl (v:=?_) (Or.inl ⟨by rfl,?_⟩) HSS.o ?_;rotate_left;· rintro W ⟨a0,a1,a2,a3,a4⟩;go_simp;try with_reducible rfl
   go_simp;refine heldTz.pure 4 rfl (v:=?_) (Or.inl ⟨by rfl,?_⟩) HSS.o ?_;rotate_left;· intro W _;go_simp;try with_reducible rfl
   go_simp;refine heldTz.pure 5 rfl (v:=?_) (Or.inl ⟨by rfl,?_⟩) HSS.o ?_;rotate_left;· intro W _;go_simp;try with_reducible rfl
   go_simp;refine heldTz.pure 6 rfl (v:=?_) (Or.inl ⟨by rfl,?_⟩) HSS.o ?_;rotate_left;· intro W _;go_simp;try with_reducible rfl
   go_simp;refine heldTz.pure 7 rfl (v:=?_) (Or.inl ⟨by rfl,?_⟩) HSS.o ?_;rotate_left;· intro W _;go_simp;try with_reducible rfl
   go_simp;refine heldTz.takeD 8 [10,11,19,20,21] rfl (v:=?_) (Or.inl ⟨by rfl,?_⟩) HSS.o ?_;rotate_left;· rintro W ⟨a0,a1,a2,a3,a4⟩;go_simp;try with_reducible rfl
   go_simp;refine heldTz.pure 9 rfl (v:=?_) (Or.inl ⟨by rfl,?_⟩) HSS.o ?_;rotate_left;· intro W _;go_simp;try with_reducible rfl
   go_simp;refine heldTz.pure 10 rfl (v:=?_) (Or.inl ⟨by rfl,?_⟩) HSS.o ?_;rotate_left;· intro W _;go_simp;try with_reducible rfl
   go_simp;refine heldTz.takeD 11 [19,20,21] rfl (v:=?_) (Or.inl ⟨by rfl,?_⟩) HSS.o ?_;rotate_left;· rintro W ⟨a0,a1,a2,a3,a4⟩;go_simp;try with_reducible rfl
   go_simp;refine heldTz.pure 12 rfl (v:=?_) (Or.inl ⟨by rfl,?_⟩) HSS.o ?_;rotate_left;· intro W _;go_simp;try with_reducible rfl
   go_simp;refine heldTz.pure 13 rfl (v:=?_) (Or.inl ⟨by rfl,?_⟩) HSS.o ?_;rotate_left;· intro W _;go_simp;try with_reducible rfl
   go_simp;refine heldTz.pure 14 rfl (v:=?_) (Or.inl ⟨by rfl,?_⟩) HSS.o ?_;rotate_left;· intro W _;go_simp;try with_reducible rfl
   go_simp;refine heldTz.takeD 15 [17,18,19,20,21] rfl (v:=?_) (Or.inl ⟨by rfl,?_⟩) HSS.o ?_;rotate_left;· rintro W ⟨a0,a1,a2,a3,a4⟩;go_simp;try with_reducible rfl
   go_simp;refine heldTz.pure 16 rfl (v:=?_) (Or.inl ⟨by rfl,?_⟩) HSS.o ?_;rotate_left;· intro W _;go_simp;try with_reducible rfl
   go_simp;refine heldTz.pure 17 rfl (v:=?_) (Or.inl ⟨by rfl,?_⟩) HSS.o ?_;rotate_left;· intro W _;go_simp;try with_reducible rfl
   go_simp;refine heldTz.takeD 18 [19,20,21] rfl (v:=?_) (Or.inl ⟨by rfl,?_⟩) HSS.o ?_;rotate_left;· rintro W ⟨a0,a1,a2,a3,a4⟩;go_simp;try with_reducible rfl
   go_simp;refine heldTz.one (i:=19) (by kernel_rfl) (op_call (f:=38) (vs:=#[V B,V n]) rfl (by kernel_rfl) (by go_simp) ((HOR.o (T B) (T n) (HS0.o.ok B) (HS0.o.ok n).2 (by have:=HS0.o.len n;have:=HLN.o;omega) (V B) (V n) (World.drew w3) ((HV2.o B HBL.o).below (Below.refl w3.heap.size w3).drew) ((HV2.o n HNN.o).below (Below.refl w3.heap.size w3).drew) HS3.o.sz).mono ?_));rintro e w4 ⟨v4,he,hI4,hb4⟩;have HS4:=aH ((HS3.o.below (Below.refl w3.heap.size w3).drew).below hb4);have HI4:=aH hI4;obtain ⟨ao4,n4,cap4,rfl⟩:∃ ao n c,v4=.slice ao n c:=(by obtain ⟨x1,x2,x3,-⟩:=hI4;exact ⟨x1,_,x2,x3⟩);have HB4:=aH (HB3.o.drew.then_below hb4);obtain ⟨V4,hV4,-⟩:=HS4.o.nx;have HQ4:=aH hV4;refine ⟨_,he,.inr (.inr ⟨aL HSS.o.1 hb4.size,keepc HSS.o.2.1 hb4,aL HSS.o.2.2.1 hb4.size,keepc HSS.o.2.2.2.1 hb4,keepc HSS.o.2.2.2.2 hb4⟩),?_⟩;have HSW:=aH (show p < w4.heap.size/\w4.cell? ⟨p,7,none⟩=some (.slice (some ⟨q,0,none⟩) nn nn)/\q < w4.heap.size/\w4.cell? ⟨q,B,none⟩=some (V B)/\w4.cell? ⟨q,n,none⟩=some (V n) from ⟨aL HSS.o.1 hb4.size,keepc HSS.o.2.1 hb4,aL HSS.o.2.2.1 hb4.size,keepc HSS.o.2.2.2.1 hb4,keepc HSS.o.2.2.2.2 hb4⟩);clear hb4 hI4 hV4 HSS;have qf:w4.frozen? ⟨q,B,none⟩=false:=HQ4.o.thaw B;obtain ⟨pl,p7,ql,qB,qn⟩:=HSW.o;go_simp;refine heldTz.one (i:=20) (by kernel_rfl) (op_value (v:=.pointer (some ⟨q,B,none⟩)) (w':=w4) rfl (by kernel_rfl) (by go_simp;try rfl) ?_);refine ⟨.inr (.inr HSW.o),?_⟩;go_simp;refine heldTz.one (i:=21) (by kernel_rfl) (op_store (w':=w4.setCell ⟨q,B,none⟩ (.slice ao4 n4 cap4)) rfl (by kernel_rfl) 23 (.tmp 157) (.tmp 156) rfl _ _ rfl rfl (by go_simp;try rfl) ⟨.inl rfl,?_⟩);refine heldTz.done (by kernel_rfl) ?_ _;have HS9:=aH (HS4.o.set (n:=B) (L:=orL (T B) (T n)) ⟨RisL.or _ (HS0.o.ok B).1,fun y hy=>by rcases (orL_mem _ _ _).1 hy with h | h;exact (HS0.o.ok B).2 y h;exact (HS0.o.ok n).2 y h⟩ HI4.o);have HB9:=aH (HB4.o.trans (But.put w4 q B (.slice ao4 n4 cap4)) (fun g _ h=>h));generalize w4.setCell ⟨q,B,none⟩ (.slice ao4 n4 cap4)=w9 at *;clear pl p7 ql qB qn qf;go_simp;try go_wp2
   first
    | (go_end0;rw [HE.o];exact ⟨rfl,HS9.o,HB9.o⟩)
    | (refine bodyPost_ret (results_none rfl _ _ _) rfl ?_;rw [HE.o];exact ⟨rfl,HS9.o,HB9.o⟩)
 ·
  have h11b:(op == 11)=false:=aN.2 h11;have h11d:decide (op=11)=false:=aF h11;have HR0:=aH (show RES=kidL LD (nulG gr) n op (x.ks.drop 0) T from by rw [HRS.o,if_neg h11];rfl);have HW0:=aH (HN2.o);clear HRS h11;go_wp2_with fail;clear y0 y6 yl
  go_loopw [5] (fun v5 wr=>∃ (i:Nat) (t:Nx),v5=.int .i64 (i:Int)/\(i:Int)<=nk/\aQ (RES=kidL LD (nulG gr) n op (x.ks.drop i) t)/\aQ (Bk wr E p u q C lo lc gr a LD t)/\aQ (Own wr X 44 [.int .i64 op,.string x.tx,.int .u64 x.s0,.int .u64 x.s1,.int .u64 x.s2,.int .u64 x.s3,.slice ko nk kc,.int .i64 x.tg,.int .i64 (x.mo:Int),.int .i64 x.ru])/\aQ (But (fun b=>b=q) w2 wr)) (fun v5 _=>nk - (intOf v5).toNat)
  case atStart=>exact ⟨0,T,rfl,by omega,HR0,HS2,HW0,aH (But.refl _ _)⟩
  case round =>
   obtain ⟨i,t,rfl,hi,HR,HS,HX,HB⟩:=hrel;obtain ⟨wo,hwo⟩:∃ z,z=wr:=⟨_,rfl⟩;subst hwo;clear HR0 HW0;have y0:wo.cell? ⟨X,0,none⟩=some (.int .i64 op):=HX.o.cell 0;have y6:wo.cell? ⟨X,6,none⟩=some (.slice ko nk kc):=HX.o.cell 6;have yl:=HX.o.lt;by_cases hin:(i:Int) < nk
   ·
    have hi1:decide ((i:Int) < (nk:Int))=true:=aT hin;have hi2:decide (i < nk)=true:=aT (by omega);have hi3:i < nk:=(by omega);have hw1:IntKind.i64.wrap ((i:Int) + 1)=(i:Int) + 1:=wI;obtain ⟨k,hk⟩:∃ z,x.ks[i]?=some z:=⟨_,aG (by have:=HNK.o;omega)⟩;have hkn0:k < gr.ns.length:=HKID.o k (aM hk);have HKN:=aH hkn0;have hkn:k < nn:=(by rw [<- HLN.o];exact hkn0);have hk1:decide ((k:Int) < (nn:Int))=true:=aT (by omega);have hk2:decide (k < nn)=true:=aT hkn;have HST:=aH (HR.o.trans (kidL_drop hk));obtain ⟨kb,koff,hko,-,hbE,-⟩:=HK2.o i k hk;have HBE:=aH (show kb < E from hbE)
    have HKC:=aH (fun (W:World) (h:But (fun b=>b=q) w2 W) (j b:Nat) (hj:x.ks[j]?=some b)=>show W.cell? ⟨kb,koff + j,none⟩=some (.int .i64 (b:Int))/\kb < W.heap.size from by
     obtain ⟨b2,off2,e,-,-,h2⟩:=HK2.o j b hj;rw [hko] at e;injection e with e;injection e with e1 e2;subst e1 e2;have h3:=h.cell (by have:=HS0.o.eq;intro e;have e:kb=q:=e;have h:kb < E:=hbE;omega) h2
     exact ⟨h3,World.block_lt_of_cell? W _ h3⟩)
    subst hko;have HKI:=aH hk;clear hkn0 hbE hk
    go_upto_block 2 with fail
    obtain ⟨r,hr⟩:∃ z,x.ks.drop (i + 1)=z:=⟨_,rfl⟩;have HRD:=aH hr;rw [hr] at HST;clear hr
    go_cut [6,7] (fun v6 v7 wx=>∃ (vv:Value) (L:List Int) (z:Bool),vv=v6/\v7=.bool z/\aQ ((if op=4 then behF LD (nulG gr) [] r else ([],true))=(L,z))/\aQ (IntsAt wx C vv L)/\aQ (RisL L/\∀ y ∈ L,0<=y/\y < (gr.ns.length:Int))/\aQ (Below wo.heap.size wo wx))
    case first =>
     by_cases h4:op=4
     ·
      subst h4;go_wp2_with fail;clear y0 y6 yl
      go_loopw [6,7,8] (fun v6 v7 v8 wx=>∃ (vv:Value) (j:Nat) (L:List Int) (z:Bool),vv=v6/\v7=.bool z/\v8=.int .i64 ((i + 1 + j:Nat):Int)/\((i + 1 + j:Nat):Int)<=nk/\aQ (behF LD (nulG gr) [] r=if z=true then behF LD (nulG gr) L (r.drop j) else (L,false))/\aQ (IntsAt wx C vv L)/\aQ (RisL L/\∀ y ∈ L,0<=y/\y < (gr.ns.length:Int))/\aQ (Below wo.heap.size wo wx)) (fun _ _ v8 _=>nk - (intOf v8).toNat)
      case atStart=>exact ⟨_,0,[],true,rfl,rfl,by first | rfl | (congr 1),by omega,aH (by rw [if_pos rfl];rfl),aH (IntsAt.nil _ _),aH ⟨trivial,fun y hy=>(by cases hy)⟩,aH (Below.refl _ _)⟩
      case round =>
       obtain ⟨vv,j,L,z,rfl,rfl,rfl,hj,HF,HI,HL,HBW⟩:=hrel;have HS3:=aH (HS.o.below HBW.o);have HX3:=aH (HX.o.under HBW.o HX.o.lt);have hbt:But (fun b=>b=q) w2 wr:=HB.o.then_below HBW.o;obtain ⟨jj,hjj⟩:∃ z,i + 1 + j=z:=⟨_,rfl⟩;have HJJ:=aH hjj;rw [hjj] at hj;try rw [hjj]
       cases z with
       | false =>
        have y0:wr.cell? ⟨X,0,none⟩=some (.int .i64 4):=HX3.o.cell 0;have y6:wr.cell? ⟨X,6,none⟩=some (.slice (some ⟨kb,koff,none⟩) nk kc):=HX3.o.cell 6;have yl:=HX3.o.lt;have HE:=aH (show (if (4:Int)=4 then behF LD (nulG gr) [] r else ([],true))=(L,false) from by rw [if_pos rfl,HF.o,if_neg (by decide)]);by_cases hjn:(jj:Int) < nk
        ·
         have hj1:decide ((jj:Int) < (nk:Int))=true:=aT hjn;have hj2:decide (jj < nk)=true:=aT (by omega);go_wp2_with fail
         go_meet
         exact ⟨_,L,false,rfl,rfl,HE,HI,HL,HBW⟩
        ·
         have hj1:decide ((jj:Int) < (nk:Int))=false:=aF hjn;have hj2:decide (jj < nk)=false:=aF (by omega);go_wp2_with fail
         go_meet
         exact ⟨_,L,false,rfl,rfl,HE,HI,HL,HBW⟩
       | true =>
        by_cases hjn:(jj:Int) < nk
        ·
         have hj1:decide ((jj:Int) < (nk:Int))=true:=aT hjn;have hj2:decide (jj < nk)=true:=aT (by omega);have hw2:IntKind.i64.wrap ((jj:Int) + 1)=(jj:Int) + 1:=wI;obtain ⟨b,hb⟩:∃ z,x.ks[jj]?=some z:=⟨_,aG (by have:=HNK.o;omega)⟩;have hrb:r[j]?=some b:=(by rw [<- HRD.o,List.getElem?_drop,HJJ.o];exact hb);have hbn0:b < gr.ns.length:=HKID.o b (aM hb);have HBN:=aH hbn0;have hbn:b < nn:=(by rw [<- HLN.o];exact hbn0);have hb1:decide ((b:Int) < (nn:Int))=true:=aT (by omega);have hb2:decide (b < nn)=true:=aT hbn;have HFS:=aH (show behF LD (nulG gr) [] r=if nulG gr b=true then behF LD (nulG gr) (orL L (LD b)) (r.drop (j + 1)) else (orL L (LD b),false) from by rw [HF.o,if_pos rfl,behF_drop hrb]);obtain ⟨kc0,kbl⟩:=HKC.o wr hbt jj b hb;obtain ⟨lb,loff,lv,hlo,hlb,-,l0,hli⟩:=HS3.o.ld b hbn0;have HKJ:=aH hb;have HC:=aH (fun W (hW:Below wr.heap.size wr W)=>HOR.o L (LD b) HL.o (HLD.o b).2 (HLD.o b).1 vv lv W (HI.o.below hW) (hli.below hW) (Nat.le_trans HS3.o.sz hW.size));have y0:wr.cell? ⟨X,0,none⟩=some (.int .i64 4):=HX3.o.cell 0;have y6:wr.cell? ⟨X,6,none⟩=some (.slice (some ⟨kb,koff,none⟩) nk kc):=HX3.o.cell 6;have yl:=HX3.o.lt;have p6:wr.cell? ⟨p,6,none⟩=some (.slice lo nn lc):=(by rw [<- HLN.o];exact HS3.o.own.cell 6);have pl:=HS3.o.own.lt;subst hlo;clear hb hrb hbn0 hli hbt;go_upto_region 9 with fail;refine wp_region_heldTz (fun Wx=>p < Wx.heap.size/\Wx.cell? ⟨p,6,none⟩=some (.slice (some ⟨lb,loff,none⟩) nn lc)/\X < Wx.heap.size/\Wx.cell? ⟨X,6,none⟩=some (.slice (some ⟨kb,koff,none⟩) nk kc)/\kb < Wx.heap.size/\Wx.cell? ⟨kb,koff + jj,none⟩=some (.int .i64 (b:Int))/\lb < Wx.heap.size/\Wx.cell? ⟨lb,loff + b,none⟩=some lv) 12 (by kernel_rfl) ?_;have HSS:=aH (show p < (World.drew wr).heap.size/\(World.drew wr).cell? ⟨p,6,none⟩=some (.slice (some ⟨lb,loff,none⟩) nn lc)/\X < (World.drew wr).heap.size/\(World.drew wr).cell? ⟨X,6,none⟩=some (.slice (some ⟨kb,koff,none⟩) nk kc)/\kb < (World.drew wr).heap.size/\(World.drew wr).cell? ⟨kb,koff + jj,none⟩=some (.int .i64 (b:Int))/\lb < (World.drew wr).heap.size/\(World.drew wr).cell? ⟨lb,loff + b,none⟩=some lv from ⟨pl,p6,yl,y6,kbl,kc0,hlb,l0⟩);clear pl p6 yl y6 kbl kc0 hlb l0 y0;refine heldTz.pure 0 rfl (v:=?_) (Or.inl ⟨by rfl,?_⟩) HSS.o ?_;rotate_left;· intro W _;go_simp;try with_reducible rfl
         go_simp;refine heldTz.pure 1 rfl (v:=?_) (Or.inl ⟨by rfl,?_⟩) HSS.o ?_;rotate_left;· intro W _;go_simp;try with_reducible rfl
         go_simp;refine heldTz.pure 2 rfl (v:=?_) (Or.inl ⟨by rfl,?_⟩) HSS.o ?_;rotate_left;· intro W _;go_simp;try with_reducible rfl
         go_simp;refine heldTz.pure 3 rfl (v:=?_) (Or.inl ⟨by rfl,?_⟩) HSS.o ?_;rotate_left;· intro W _;go_simp;try with_reducible rfl
         go_simp;refine heldTz.takeD 4 [10,11,12] rfl (v:=?_) (Or.inl ⟨by rfl,?_⟩) HSS.o ?_;rotate_left;· rintro W ⟨a0,a1,a2,a3,a4,a5,a6,a7⟩;go_simp;try with_reducible rfl
         go_simp;refine heldTz.pure 5 rfl (v:=?_) (Or.inl ⟨by rfl,?_⟩) HSS.o ?_;rotate_left;· intro W _;go_simp;try with_reducible rfl
         go_simp;refine heldTz.takeD 6 [8,9,10,11,12] rfl (v:=?_) (Or.inl ⟨by rfl,?_⟩) HSS.o ?_;rotate_left;· rintro W ⟨a0,a1,a2,a3,a4,a5,a6,a7⟩;go_simp;try with_reducible rfl
         go_simp;refine heldTz.pure 7 rfl (v:=?_) (Or.inl ⟨by rfl,?_⟩) HSS.o ?_;rotate_left;· intro W _;go_simp;try with_reducible rfl
         go_simp;refine heldTz.pure 8 rfl (v:=?_) (Or.inl ⟨by rfl,?_⟩) HSS.o ?_;rotate_left;· intro W _;go_simp;try with_reducible rfl
         go_simp;refine heldTz.takeD 9 [10,11,12] rfl (v:=?_) (Or.inl ⟨by rfl,?_⟩) HSS.o ?_;rotate_left;· rintro W ⟨a0,a1,a2,a3,a4,a5,a6,a7⟩;go_simp;try with_reducible rfl
         go_simp;refine heldTz.pure 10 rfl (v:=?_) (Or.inl ⟨by rfl,?_⟩) HSS.o ?_;rotate_left;· intro W _;go_simp;try with_reducible rfl
         go_simp;refine heldTz.takeD 11 [12] rfl (v:=?_) (Or.inl ⟨by rfl,?_⟩) HSS.o ?_;rotate_left;· rintro W ⟨a0,a1,a2,a3,a4,a5,a6,a7⟩;go_simp;try with_reducible rfl
         go_simp;refine heldTz.one (i:=12) (by kernel_rfl) (op_call (f:=38) (vs:=#[vv,lv]) rfl (by kernel_rfl) (by go_simp) ((HC.o (World.drew wr) (Below.refl wr.heap.size wr).drew).mono ?_));rintro e w4 ⟨v4,he,hI4,hb4⟩;refine ⟨_,he,.inl rfl,?_⟩;have hbd:Below wr.heap.size wr w4:=((Below.refl wr.heap.size wr).drew).trans hb4;have HI4:=aH hI4;have HS4:=aH (HS3.o.below hbd);have HX4:=aH (HX3.o.under hbd HX3.o.lt);have HB4:=aH (keepb HBW.o hbd);have HL4:=aH (show RisL (orL L (LD b))/\∀ y ∈ orL L (LD b),0<=y/\y < (gr.ns.length:Int) from ⟨RisL.or _ HL.o.1,fun y hy=>by rcases (orL_mem _ _ _).1 hy with h | h;exact HL.o.2 y h;exact (HLD.o b).2 y h⟩);have HKB:=aH (HKC.o w4 (HB.o.then_below HB4.o) jj b (by have:=HKI.o;exact HKJ.o));clear hI4 hb4 hbd HSS HC;go_simp;refine heldTz.one (i:=13) (by kernel_rfl) (op_value (v:=v4) (w':=w4) rfl (by kernel_rfl) (by go_simp;try rfl) ?_);refine ⟨.inr (.inl rfl),?_⟩;refine heldTz.done (by kernel_rfl) ?_ _;go_simp;have y6:w4.cell? ⟨X,6,none⟩=some (.slice (some ⟨kb,koff,none⟩) nk kc):=HX4.o.cell 6;have yl:=HX4.o.lt;obtain ⟨kc0,kbl⟩:=HKB.o;have p5:w4.cell? ⟨p,5,none⟩=some (.slice (some ⟨u,0,none⟩) nn nn):=(by rw [<- HLN.o];exact HS4.o.own.cell 5);have pl:=HS4.o.own.lt;have u0:w4.cell? ⟨u,b,none⟩=some (.bool (nulG gr b)):=(HS4.o.nu.cell b).trans (rowB_at _ _ b HBN.o);have ul:=HS4.o.nu.lt;obtain ⟨nb,hnb⟩:∃ z,nulG gr b=z:=⟨_,rfl⟩;rw [hnb] at u0;have HFT:=aH (show behF LD (nulG gr) [] r=if nb=true then behF LD (nulG gr) (orL L (LD b)) (r.drop (j + 1)) else (orL L (LD b),false) from by rw [HFS.o,hnb]);clear hnb HFS;go_upto_region 10 with fail;go_quiet (fail);clear y6 yl kc0 kbl p5 pl u0 ul;go_wp2
         go_roundw
         case rel=>exact ⟨_,j + 1,_,nb,rfl,rfl,by rw [<- HJJ.o];go_num,by omega,HFT,HI4,HL4,aH (below_drewN HB4.o _)⟩
         case measure=>simp [intOf];omega
        ·
         have hj1:decide ((jj:Int) < (nk:Int))=false:=aF hjn;have hj2:decide (jj < nk)=false:=aF (by omega);have y0:wr.cell? ⟨X,0,none⟩=some (.int .i64 4):=HX3.o.cell 0;have y6:wr.cell? ⟨X,6,none⟩=some (.slice (some ⟨kb,koff,none⟩) nk kc):=HX3.o.cell 6;have yl:=HX3.o.lt;have HE:=aH (show (if (4:Int)=4 then behF LD (nulG gr) [] r else ([],true))=(L,true) from by rw [if_pos rfl,HF.o,if_pos rfl,List.drop_of_length_le (by have h:=congrArg List.length HRD.o;rw [List.length_drop] at h;have:=HNK.o;have:=HJJ.o;omega)];rfl);go_wp2_with fail
         go_meet
         exact ⟨_,L,true,rfl,rfl,HE,HI,HL,HBW⟩
     ·
      have h4b:(op == 4)=false:=aN.2 h4;have h4d:decide (op=4)=false:=aF h4;have HE:=aH (show (if op=4 then behF LD (nulG gr) [] r else (([]:List Int),true))=([],true) from if_neg h4);have hi4:(i:Int) + 1<=nk:=(by omega);go_wp2_with fail
      go_loopw [6,7,8] (fun v6 v7 v8 wx=>v6=.slice none 0 0/\v7=.bool true/\v8=.int .i64 ((i:Int) + 1)/\wo=wx) (fun _ _ _ _=>0)
      case atStart=>exact ⟨rfl,rfl,rfl,rfl⟩
      case round =>
       obtain ⟨rfl,rfl,rfl,rfl⟩:=hrel;by_cases hjn:(i:Int) + 1 < nk
       ·
        have hj1:decide ((i:Int) + 1 < (nk:Int))=true:=aT hjn;go_wp2_with fail
        go_meet
        exact ⟨_,[],true,rfl,rfl,HE,aH (IntsAt.nil _ _),aH ⟨trivial,fun y hy=>(by cases hy)⟩,aH (Below.refl _ _)⟩
       ·
        have hj1:decide ((i:Int) + 1 < (nk:Int))=false:=aF hjn;go_wp2_with fail
        go_meet
        exact ⟨_,[],true,rfl,rfl,HE,aH (IntsAt.nil _ _),aH ⟨trivial,fun y hy=>(by cases hy)⟩,aH (Below.refl _ _)⟩
    case rest =>
    obtain ⟨v6,L1,z1,rfl,rfl,HP1,HI1,HL1,HBC⟩:=hcut;obtain ⟨WA,hwA⟩:∃ z,z=wc:=⟨_,rfl⟩;subst hwA;have HSC:=aH (HS.o.below HBC.o);have HXC:=aH (HX.o.under HBC.o HX.o.lt);have HBT:=aH (HB.o.then_below HBC.o);clear y0 y6 yl HS HX HB HBC;go_upto_region 11 with fail
    go_cut [73] (fun s73 wx=>s73=.bool (decide (op=6\/op=7))/\WA=wx)
    case first =>
     have y0:WA.cell? ⟨X,0,none⟩=some (.int .i64 op):=HXC.o.cell 0;have yl:=HXC.o.lt;by_cases h6:op=6
     ·
      have h6b:(op == 6)=true:=beq_iff_eq.2 h6;have h6c:decide (op=6\/op=7)=true:=aT (.inl h6);go_wp2_with fail
      go_meet
      exact ⟨by rw [h6c],rfl⟩
     ·
      have h6b:(op == 6)=false:=aN.2 h6;have h6d:decide (op=6)=false:=aF h6;by_cases h7:op=7
      ·
       have h7b:(op == 7)=true:=beq_iff_eq.2 h7;have h6c:decide (op=6\/op=7)=true:=aT (.inr h7);go_wp2_with fail
       go_meet
       exact ⟨by rw [h6c],rfl⟩
      ·
       have h7b:(op == 7)=false:=aN.2 h7;have h7d:decide (op=7)=false:=aF h7;have h6c:decide (op=6\/op=7)=false:=aF (fun h=>h.elim h6 h7);go_wp2_with fail
       go_meet
       exact ⟨by rw [h6c],rfl⟩
    case rest =>
    obtain ⟨rfl,rfl⟩:=hcut
    go_upto_if 73 with fail
    go_cut [6] (fun s6 wx=>∃ vv:Value,vv=s6/\aQ (IntsAt wx C vv (if op=6\/op=7 then orL L1 (LD k) else L1))/\aQ (Below WA.heap.size WA wx))
    case first =>
     obtain ⟨kc0,kbl⟩:=HKC.o WA HBT.o i k HKI.o;obtain ⟨lb,loff,lv,hlo,hlb,-,l0,hli⟩:=HSC.o.ld k HKN.o;have HC:=aH (fun W (hW:Below WA.heap.size WA W)=>HOR.o L1 (LD k) HL1.o (HLD.o k).2 (HLD.o k).1 v6 lv W (HI1.o.below hW) (hli.below hW) (Nat.le_trans HSC.o.sz hW.size));have p6:WA.cell? ⟨p,6,none⟩=some (.slice lo nn lc):=(by rw [<- HLN.o];exact HSC.o.own.cell 6);have pl:=HSC.o.own.lt;have y0:WA.cell? ⟨X,0,none⟩=some (.int .i64 op):=HXC.o.cell 0;have y6:WA.cell? ⟨X,6,none⟩=some (.slice (some ⟨kb,koff,none⟩) nk kc):=HXC.o.cell 6;have yl:=HXC.o.lt;subst hlo;clear hli;by_cases h67:op=6\/op=7
     ·
      have HE:=aH (show (if op=6\/op=7 then orL L1 (LD k) else L1)=orL L1 (LD k) from if_pos h67);have h67c:decide (op=6\/op=7)=true:=aT h67;rw [h67c];go_upto_region 12 with fail;refine wp_region_heldTz (fun Wx=>p < Wx.heap.size/\Wx.cell? ⟨p,6,none⟩=some (.slice (some ⟨lb,loff,none⟩) nn lc)/\X < Wx.heap.size/\Wx.cell? ⟨X,6,none⟩=some (.slice (some ⟨kb,koff,none⟩) nk kc)/\kb < Wx.heap.size/\Wx.cell? ⟨kb,koff + i,none⟩=some (.int .i64 (k:Int))/\lb < Wx.heap.size/\Wx.cell? ⟨lb,loff + k,none⟩=some lv) 12 (by kernel_rfl) ?_;have HSS:=aH (show p < (World.drew WA).heap.size/\(World.drew WA).cell? ⟨p,6,none⟩=some (.slice (some ⟨lb,loff,none⟩) nn lc)/\X < (World.drew WA).heap.size/\(World.drew WA).cell? ⟨X,6,none⟩=some (.slice (some ⟨kb,koff,none⟩) nk kc)/\kb < (World.drew WA).heap.size/\(World.drew WA).cell? ⟨kb,koff + i,none⟩=some (.int .i64 (k:Int))/\lb < (World.drew WA).heap.size/\(World.drew WA).cell? ⟨lb,loff + k,none⟩=some lv from ⟨pl,p6,yl,y6,kbl,kc0,hlb,l0⟩);clear pl p6 yl y6 kbl kc0 hlb l0 y0;refine heldTz.pure 0 rfl (v:=?_) (Or.inl ⟨by rfl,?_⟩) HSS.o ?_;rotate_left;· intro W _;go_simp;try with_reducible rfl
      go_simp;refine heldTz.pure 1 rfl (v:=?_) (Or.inl ⟨by rfl,?_⟩) HSS.o ?_;rotate_left;· intro W _;go_simp;try with_reducible rfl
      go_simp;refine heldTz.pure 2 rfl (v:=?_) (Or.inl ⟨by rfl,?_⟩) HSS.o ?_;rotate_left;· intro W _;go_simp;try with_reducible rfl
      go_simp;refine heldTz.pure 3 rfl (v:=?_) (Or.inl ⟨by rfl,?_⟩) HSS.o ?_;rotate_left;· intro W _;go_simp;try with_reducible rfl
      go_simp;refine heldTz.takeD 4 [10,11,12] rfl (v:=?_) (Or.inl ⟨by rfl,?_⟩) HSS.o ?_;rotate_left;· rintro W ⟨a0,a1,a2,a3,a4,a5,a6,a7⟩;go_simp;try with_reducible rfl
      go_simp;refine heldTz.pure 5 rfl (v:=?_) (Or.inl ⟨by rfl,?_⟩) HSS.o ?_;rotate_left;· intro W _;go_simp;try with_reducible rfl
      go_simp;refine heldTz.takeD 6 [8,9,10,11,12] rfl (v:=?_) (Or.inl ⟨by rfl,?_⟩) HSS.o ?_;rotate_left;· rintro W ⟨a0,a1,a2,a3,a4,a5,a6,a7⟩;go_simp;try with_reducible rfl
      go_simp;refine heldTz.pure 7 rfl (v:=?_) (Or.inl ⟨by rfl,?_⟩) HSS.o ?_;rotate_left;· intro W _;go_simp;try with_reducible rfl
      go_simp;refine heldTz.pure 8 rfl (v:=?_) (Or.inl ⟨by rfl,?_⟩) HSS.o ?_;rotate_left;· intro W _;go_simp;try with_reducible rfl
      go_simp;refine heldTz.takeD 9 [10,11,12] rfl (v:=?_) (Or.inl ⟨by rfl,?_⟩) HSS.o ?_;rotate_left;· rintro W ⟨a0,a1,a2,a3,a4,a5,a6,a7⟩;go_simp;try with_reducible rfl
      go_simp;refine heldTz.pure 10 rfl (v:=?_) (Or.inl ⟨by rfl,?_⟩) HSS.o ?_;rotate_left;· intro W _;go_simp;try with_reducible rfl
      go_simp;refine heldTz.takeD 11 [12] rfl (v:=?_) (Or.inl ⟨by rfl,?_⟩) HSS.o ?_;rotate_left;· rintro W ⟨a0,a1,a2,a3,a4,a5,a6,a7⟩;go_simp;try with_reducible rfl
      go_simp;refine heldTz.one (i:=12) (by kernel_rfl) (op_call (f:=38) (vs:=#[v6,lv]) rfl (by kernel_rfl) (by go_simp) ((HC.o (World.drew WA) (Below.refl WA.heap.size WA).drew).mono ?_));rintro e w4 ⟨v4,he,hI4,hb4⟩;refine ⟨_,he,.inl rfl,?_⟩;have hbd:Below WA.heap.size WA w4:=((Below.refl WA.heap.size WA).drew).trans hb4;have HI4:=aH hI4;have HB4:=aH hbd;clear hI4 hb4 hbd HSS HC;go_simp;refine heldTz.one (i:=13) (by kernel_rfl) (op_value (v:=v4) (w':=w4) rfl (by kernel_rfl) (by go_simp;try rfl) ?_);refine ⟨.inr (.inl rfl),?_⟩;refine heldTz.done (by kernel_rfl) ?_ _;go_simp;try go_wp2_with fail
      go_meet
      rw [HE.o];exact ⟨_,rfl,HI4,HB4⟩
     ·
      have HE:=aH (show (if op=6\/op=7 then orL L1 (LD k) else L1)=L1 from if_neg h67);have h67c:decide (op=6\/op=7)=false:=aF h67;rw [h67c];go_wp2_with fail
      go_meet
      rw [HE.o];exact ⟨_,rfl,HI1,aH (Below.refl _ _)⟩
    case rest =>
    obtain ⟨vB,rfl,HI2,HBC⟩:=hcut;obtain ⟨WB,hwB⟩:∃ z,z=wc:=⟨_,rfl⟩;subst hwB;obtain ⟨L2,hL2⟩:∃ z,(if op=6\/op=7 then orL L1 (LD k) else L1)=z:=⟨_,rfl⟩;have HP2:=aH hL2
    have HL2:=aH (show RisL L2/\∀ y ∈ L2,0<=y/\y < (gr.ns.length:Int) from by
     rw [<- hL2];split
     · exact ⟨RisL.or _ HL1.o.1,fun y hy=>by rcases (orL_mem _ _ _).1 hy with h | h;exact HL1.o.2 y h;exact (HLD.o k).2 y h⟩
     · exact HL1.o)
    rw [hL2] at HI2;clear hL2;have HSD:=aH (HSC.o.below HBC.o);have HXD:=aH (HXC.o.under HBC.o HXC.o.lt);have HBD:=aH (HBT.o.then_below HBC.o);clear HSC HXC HBT HBC HI1;go_upto_region 13 with fail
    go_cut [94] (fun s94 wx=>s94=.bool (decide (op=9\/op=10))/\WB=wx)
    case first =>
     have y0:WB.cell? ⟨X,0,none⟩=some (.int .i64 op):=HXD.o.cell 0;have yl:=HXD.o.lt;by_cases h6:op=9
     ·
      have h6b:(op == 9)=true:=beq_iff_eq.2 h6;have h6c:decide (op=9\/op=10)=true:=aT (.inl h6);go_wp2_with fail
      go_meet
      exact ⟨by rw [h6c],rfl⟩
     ·
      have h6b:(op == 9)=false:=aN.2 h6;have h6d:decide (op=9)=false:=aF h6;by_cases h7:op=10
      ·
       have h7b:(op == 10)=true:=beq_iff_eq.2 h7;have h6c:decide (op=9\/op=10)=true:=aT (.inr h7);go_wp2_with fail
       go_meet
       exact ⟨by rw [h6c],rfl⟩
      ·
       have h7b:(op == 10)=false:=aN.2 h7;have h7d:decide (op=10)=false:=aF h7;have h6c:decide (op=9\/op=10)=false:=aF (fun h=>h.elim h6 h7);go_wp2_with fail
       go_meet
       exact ⟨by rw [h6c],rfl⟩
    case rest =>
    obtain ⟨rfl,rfl⟩:=hcut
    go_upto_if 94 with fail
    go_cut [7] (fun v7 wx=>v7=.bool (if op=9\/op=10 then false else z1)/\WB=wx)
    case first =>
     by_cases h90:op=9\/op=10
     ·
      have HE:=aH (show (if op=9\/op=10 then false else z1)=false from if_pos h90);have h67c:decide (op=9\/op=10)=true:=aT h90;rw [h67c];go_wp2_with fail
      go_meet
      rw [HE.o];exact ⟨rfl,rfl⟩
     ·
      have HE:=aH (show (if op=9\/op=10 then false else z1)=z1 from if_neg h90);have h67c:decide (op=9\/op=10)=false:=aF h90;rw [h67c];go_wp2_with fail
      go_meet
      rw [HE.o];exact ⟨rfl,rfl⟩
    case rest =>
    obtain ⟨rfl,rfl⟩:=hcut;obtain ⟨z2,hz2⟩:∃ z,(if op=9\/op=10 then false else z1)=z:=⟨_,rfl⟩;have HZ2:=aH hz2;rw [hz2];clear hz2
    go_upto_if 95 with fail
    go_cut [6] (fun s6 wx=>∃ vv:Value,vv=s6/\aQ (IntsAt wx C vv (if z2=true then orL L2 (t n) else L2))/\aQ (Below WB.heap.size WB wx))
    case first =>
     obtain ⟨V,hV1,hV2⟩:=HSD.o.nx;have HV2:=aH hV2;have p7:WB.cell? ⟨p,7,none⟩=some (.slice (some ⟨q,0,none⟩) nn nn):=(by rw [<- HLN.o];exact HSD.o.own.cell 7);have pl:=HSD.o.own.lt;have qn:WB.cell? ⟨q,n,none⟩=some (V n):=(by rw [hV1.cell n,List.getElem?_map,List.getElem?_range HNN.o];rfl);have ql:=hV1.lt;have HC:=aH (HOR.o L2 (t n) HL2.o (HSD.o.ok n).2 (by have:=HSD.o.len n;have:=HLN.o;omega) vB (V n) WB HI2.o (HV2.o n HNN.o) HSD.o.sz);clear hV1 hV2
     cases z2 with
     | false =>
      go_wp2_with fail
      go_meet
      rw [if_neg (by decide)];exact ⟨_,rfl,HI2,aH (Below.refl _ _)⟩
     | true =>
      go_wp2_with fail;refine HC.o.mono ?_;rintro e w4 ⟨v4,he,hI4,hb4⟩;subst he;have HI4:=aH hI4;have HB4:=aH hb4;clear hI4 hb4;go_wp2_with fail
      go_meet
      first | rw [if_pos rfl] | rw [if_pos trivial]
      exact ⟨_,rfl,HI4,HB4⟩
    case rest =>
    obtain ⟨vC,rfl,HI3,HBC⟩:=hcut;obtain ⟨WD,hwD⟩:∃ z,z=wc:=⟨_,rfl⟩;subst hwD;obtain ⟨L3,hL3⟩:∃ z,(if z2=true then orL L2 (t n) else L2)=z:=⟨_,rfl⟩
    have HL3:=aH (show RisL L3/\∀ y ∈ L3,0<=y/\y < (gr.ns.length:Int) from by
     rw [<- hL3];split
     · exact ⟨RisL.or _ HL2.o.1,fun y hy=>by rcases (orL_mem _ _ _).1 hy with h | h;exact HL2.o.2 y h;exact (HSD.o.ok n).2 y h⟩
     · exact HL2.o)
    have HPL:=aH (show parL LD (nulG gr) n op k r t=L3 from by
     unfold parL;rw [HP1.o];simp only;rw [HP2.o,HZ2.o]
     exact hL3)
    rw [hL3] at HI3;rw [HPL.o] at HST;clear hL3;have HSE:=aH (HSD.o.below HBC.o);have HXE:=aH (HXD.o.under HBC.o HXD.o.lt);have HBF:=aH (HBD.o.then_below HBC.o);clear HSD HXD HBD HBC HI2 HP1 HP2 HZ2;obtain ⟨kc0,kbl⟩:=HKC.o WD HBF.o i k HKI.o;obtain ⟨V,hV1,hV2⟩:=HSE.o.nx;have HV1:=aH hV1;have HV2:=aH hV2;have p7:WD.cell? ⟨p,7,none⟩=some (.slice (some ⟨q,0,none⟩) nn nn):=(by rw [<- HLN.o];exact HSE.o.own.cell 7);have pl:=HSE.o.own.lt;have qk:WD.cell? ⟨q,k,none⟩=some (V k):=(by rw [hV1.cell k,List.getElem?_map,List.getElem?_range HKN.o];rfl);have ql:=hV1.lt;have y0:WD.cell? ⟨X,0,none⟩=some (.int .i64 op):=HXE.o.cell 0;have y6:WD.cell? ⟨X,6,none⟩=some (.slice (some ⟨kb,koff,none⟩) nk kc):=HXE.o.cell 6;have yl:=HXE.o.lt;clear hV1 hV2 y0;go_upto_region 17 with fail;refine wp_region_heldTz (fun Wx=>p < Wx.heap.size/\Wx.cell? ⟨p,7,none⟩=some (.slice (some ⟨q,0,none⟩) nn nn)/\X < Wx.heap.size/\Wx.cell? ⟨X,6,none⟩=some (.slice (some ⟨kb,koff,none⟩) nk kc)/\kb < Wx.heap.size/\Wx.cell? ⟨kb,koff + i,none⟩=some (.int .i64 (k:Int))/\q < Wx.heap.size/\Wx.cell? ⟨q,k,none⟩=some (V k)) 23 (by kernel_rfl) ?_;have HSS:=aH (show p < (World.drew WD).heap.size/\(World.drew WD).cell? ⟨p,7,none⟩=some (.slice (some ⟨q,0,none⟩) nn nn)/\X < (World.drew WD).heap.size/\(World.drew WD).cell? ⟨X,6,none⟩=some (.slice (some ⟨kb,koff,none⟩) nk kc)/\kb < (World.drew WD).heap.size/\(World.drew WD).cell? ⟨kb,koff + i,none⟩=some (.int .i64 (k:Int))/\q < (World.drew WD).heap.size/\(World.drew WD).cell? ⟨q,k,none⟩=some (V k) from ⟨pl,p7,yl,y6,kbl,kc0,ql,qk⟩);clear pl p7 yl y6 kbl kc0 ql qk;refine heldTz.pure 0 rfl (v:=?_) (Or.inl ⟨by rfl,?_⟩) HSS.o ?_;rotate_left;· intro W _;go_simp;try with_reducible rfl
    go_simp;refine heldTz.pure 1 rfl (v:=?_) (Or.inl ⟨by rfl,?_⟩) HSS.o ?_;rotate_left;· intro W _;go_simp;try with_reducible rfl
    go_simp;refine heldTz.pure 2 rfl (v:=?_) (Or.inl ⟨by rfl,?_⟩) HSS.o ?_;rotate_left;· intro W _;go_simp;try with_reducible rfl
    go_simp;refine heldTz.takeD 3 [22,23] rfl (v:=?_) (Or.inl ⟨by rfl,?_⟩) HSS.o ?_;rotate_left;· rintro W ⟨a0,a1,a2,a3,a4,a5,a6,a7⟩;go_simp;try with_reducible rfl
    go_simp;refine heldTz.pure 4 rfl (v:=?_) (Or.inl ⟨by rfl,?_⟩) HSS.o ?_;rotate_left;· intro W _;go_simp;try with_reducible rfl
    go_simp;refine heldTz.takeD 5 [7,8,22,23] rfl (v:=?_) (Or.inl ⟨by rfl,?_⟩) HSS.o ?_;rotate_left;· rintro W ⟨a0,a1,a2,a3,a4,a5,a6,a7⟩;go_simp;try with_reducible rfl
    go_simp;refine heldTz.pure 6 rfl (v:=?_) (Or.inl ⟨by rfl,?_⟩) HSS.o ?_;rotate_left;· intro W _;go_simp;try with_reducible rfl
    go_simp;refine heldTz.pure 7 rfl (v:=?_) (Or.inl ⟨by rfl,?_⟩) HSS.o ?_;rotate_left;· intro W _;go_simp;try with_reducible rfl
    go_simp;refine heldTz.takeD 8 [22,23] rfl (v:=?_) (Or.inl ⟨by rfl,?_⟩) HSS.o ?_;rotate_left;· rintro W ⟨a0,a1,a2,a3,a4,a5,a6,a7⟩;go_simp;try with_reducible rfl
    go_simp;refine heldTz.pure 9 rfl (v:=?_) (Or.inl ⟨by rfl,?_⟩) HSS.o ?_;rotate_left;· intro W _;go_simp;try with_reducible rfl
    go_simp;refine heldTz.pure 10 rfl (v:=?_) (Or.inl ⟨by rfl,?_⟩) HSS.o ?_;rotate_left;· intro W _;go_simp;try with_reducible rfl
    go_simp;refine heldTz.pure 11 rfl (v:=?_) (Or.inl ⟨by rfl,?_⟩) HSS.o ?_;rotate_left;· intro W _;go_simp;try with_reducible rfl
    go_simp;refine heldTz.takeD 12 [18,19,21,22,23] rfl (v:=?_) (Or.inl ⟨by rfl,?_⟩) HSS.o ?_;rotate_left;· rintro W ⟨a0,a1,a2,a3,a4,a5,a6,a7⟩;go_simp;try with_reducible rfl
    go_simp;refine heldTz.pure 13 rfl (v:=?_) (Or.inl ⟨by rfl,?_⟩) HSS.o ?_;rotate_left;· intro W _;go_simp;try with_reducible rfl
    go_simp;refine heldTz.takeD 14 [16,17,18,19,21,22,23] rfl (v:=?_) (Or.inl ⟨by rfl,?_⟩) HSS.o ?_;rotate_left;· rintro W ⟨a0,a1,a2,a3,a4,a5,a6,a7⟩;go_simp;try with_reducible rfl
    go_simp;refine heldTz.pure 15 rfl (v:=?_) (Or.inl ⟨by rfl,?_⟩) HSS.o ?_;rotate_left;· intro W _;go_simp;try with_reducible rfl
    go_simp;refine heldTz.pure 16 rfl (v:=?_) (Or.inl ⟨by rfl,?_⟩) HSS.o ?_;rotate_left;· intro W _;go_simp;try with_reducible rfl
    go_simp;refine heldTz.takeD 17 [18,19,21,22,23] rfl (v:=?_) (Or.inl ⟨by rfl,?_⟩) HSS.o ?_;rotate_left;· rintro W ⟨a0,a1,a2,a3,a4,a5,a6,a7⟩;go_simp;try with_reducible rfl
    go_simp;refine heldTz.pure 18 rfl (v:=?_) (Or.inl ⟨by rfl,?_⟩) HSS.o ?_;rotate_left;· intro W _;go_simp;try with_reducible rfl
    go_simp;refine heldTz.takeD 19 [21,22,23] rfl (v:=?_) (Or.inl ⟨by rfl,?_⟩) HSS.o ?_;rotate_left;· rintro W ⟨a0,a1,a2,a3,a4,a5,a6,a7⟩;go_simp;try with_reducible rfl
    go_simp;refine heldTz.pure 20 rfl (v:=?_) (Or.inl ⟨by rfl,?_⟩) HSS.o ?_;rotate_left;· intro W _;go_simp;try with_reducible rfl
    go_simp;refine heldTz.one (i:=21) (by kernel_rfl) (op_call (f:=38) (vs:=#[V k,vC]) rfl (by kernel_rfl) (by go_simp) ((HOR.o (t k) L3 (HSE.o.ok k) HL3.o.2 (by have:=HL3.o.1.room HL3.o.2;have:=HLN.o;omega) (V k) vC (World.drew WD) ((HV2.o k HKN.o).below (Below.refl WD.heap.size WD).drew) (HI3.o.below (Below.refl WD.heap.size WD).drew) HSE.o.sz).mono ?_));rintro e w4 ⟨v4,he,hI4,hb4⟩;have HS4:=aH ((HSE.o.below (Below.refl WD.heap.size WD).drew).below hb4);have HI4:=aH hI4;obtain ⟨ao4,n4,cap4,rfl⟩:∃ ao n c,v4=.slice ao n c:=(by obtain ⟨x1,x2,x3,-⟩:=hI4;exact ⟨x1,_,x2,x3⟩);have HB4:=aH (HBF.o.drew.then_below hb4);have HX4:=aH (((HXE.o.on_drew).under hb4 HXE.o.lt));obtain ⟨V4,hV4,-⟩:=HS4.o.nx;have HQ4:=aH hV4;refine ⟨_,he,.inr (.inr ⟨aL HSS.o.1 hb4.size,keepc HSS.o.2.1 hb4,aL HSS.o.2.2.1 hb4.size,keepc HSS.o.2.2.2.1 hb4,aL HSS.o.2.2.2.2.1 hb4.size,keepc HSS.o.2.2.2.2.2.1 hb4,aL HSS.o.2.2.2.2.2.2.1 hb4.size,keepc HSS.o.2.2.2.2.2.2.2 hb4⟩),?_⟩;have HSW:=aH (show p < w4.heap.size/\w4.cell? ⟨p,7,none⟩=some (.slice (some ⟨q,0,none⟩) nn nn)/\X < w4.heap.size/\w4.cell? ⟨X,6,none⟩=some (.slice (some ⟨kb,koff,none⟩) nk kc)/\kb < w4.heap.size/\w4.cell? ⟨kb,koff + i,none⟩=some (.int .i64 (k:Int))/\q < w4.heap.size/\w4.cell? ⟨q,k,none⟩=some (V k) from ⟨aL HSS.o.1 hb4.size,keepc HSS.o.2.1 hb4,aL HSS.o.2.2.1 hb4.size,keepc HSS.o.2.2.2.1 hb4,aL HSS.o.2.2.2.2.1 hb4.size,keepc HSS.o.2.2.2.2.2.1 hb4,aL HSS.o.2.2.2.2.2.2.1 hb4.size,keepc HSS.o.2.2.2.2.2.2.2 hb4⟩);clear hb4 hI4 hV4 HSS;have qf:w4.frozen? ⟨q,k,none⟩=false:=HQ4.o.thaw k;obtain ⟨pl,p7,yl,y6,kbl,kc0,ql,qk⟩:=HSW.o;go_simp;refine heldTz.one (i:=22) (by kernel_rfl) (op_value (v:=.pointer (some ⟨q,k,none⟩)) (w':=w4) rfl (by kernel_rfl) (by go_simp;try rfl) ?_);refine ⟨.inr (.inr HSW.o),?_⟩;go_simp;refine heldTz.one (i:=23) (by kernel_rfl) (op_store (w':=w4.setCell ⟨q,k,none⟩ (.slice ao4 n4 cap4)) rfl (by kernel_rfl) 23 (.tmp 127) (.tmp 126) rfl _ _ rfl rfl (by go_simp;try rfl) ⟨.inl rfl,?_⟩);refine heldTz.done (by kernel_rfl) ?_ _;have HS9:=aH (HS4.o.set (n:=k) (L:=orL (t k) L3) ⟨RisL.or _ (HSE.o.ok k).1,fun y hy=>by rcases (orL_mem _ _ _).1 hy with h | h;exact (HSE.o.ok k).2 y h;exact HL3.o.2 y h⟩ HI4.o);have HB9:=aH (HB4.o.trans (But.put w4 q k (.slice ao4 n4 cap4)) (fun g _ h=>h));have HX9:=aH (HX4.o.but (But.put w4 q k (.slice ao4 n4 cap4)) HXQ.o);generalize w4.setCell ⟨q,k,none⟩ (.slice ao4 n4 cap4)=w9 at *;clear pl p7 yl y6 kbl kc0 ql qk qf;go_simp;try go_wp2
    go_roundw
    case rel=>exact ⟨i + 1,_,by go_num,by omega,aH (by rw [HRD.o];exact HST.o),HS9,HX9,HB9⟩
    case measure=>simp [intOf];omega
   ·
    have hi1:decide ((i:Int) < (nk:Int))=false:=aF hin;have hi2:decide (i < nk)=false:=aF (by omega);have HE:=aH (show RES=t from by rw [HR.o,List.drop_of_length_le (by have:=HNK.o;omega)];rfl);go_wp2
    first
     | (go_end0;rw [HE.o];exact ⟨rfl,HS.o,HB2.o.trans HB.o (fun g _ h=>h)⟩)
     | (refine bodyPost_ret (results_none rfl _ _ _) rfl ?_;rw [HE.o];exact ⟨rfl,HS.o,HB2.o.trans HB.o (fun g _ h=>h)⟩)
end Go.Proofs.Ythddifjhoniacaa
