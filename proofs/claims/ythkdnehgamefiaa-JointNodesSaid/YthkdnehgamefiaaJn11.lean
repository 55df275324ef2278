import Derived.Test.YthkdnehgamefiaaAw11
import Derived.Test.YthkdnehgamefiaaRsz
namespace Go.Proofs.Ythkdnehgamefiaa
set_option linter.unusedVariables false
open Go.RowKit Go.Sort
theorem cnt_small:∀ (l:List Md),(∀ m ∈ l,m.ru.length<=24)->l.length<=5->cntR l<=1000:=fun l h h5=>by
 have key:∀ l:List Md,(∀ m ∈ l,m.ru.length<=24)->cntR l<=24 * l.length:=fun l=>by
  induction l with
  | nil=>intro _;exact Nat.zero_le _
  | cons m r ih =>
   intro h;have h1:=h m (List.mem_cons_self ..);have h2:=ih (fun x hx=>h x (List.mem_cons_of_mem _ hx));show m.ru.length + cntR r<=24 * (r.length + 1);omega
 have:=key l h;omega
theorem lay_tx {ML:List Md} {F:List Nat} {mod:Nat} {ru:Int} {T:Nat}:∀ (d b:Nat) (e:Ex) (E:List Nj),TxA T e->LayE ML F mod ru d b e E->∀ (i:Nat) (x:Nj),E[i]?=some x->x.tx.size<=T
 | 0,_,_,_,_,h=>by cases h
 | d + 1,b,e,E,hT,h=>by
  obtain ⟨tt,ks,E',h1,h2,h3⟩:=h;intro i x hx;rw [h2] at hx
  cases i with
  | zero =>
   have hx:sW e ks tt mod ru=x:=(by simpa using hx);subst hx;exact hT.text
  | succ i =>
   have hx:E'[i]?=some x:=(by simpa using hx);obtain ⟨y,hy,c,E1,j,h4,h5,-,-⟩:=layK_at e.kids _ _ _ h3 i x hx;exact lay_tx d c y E1 (hT.kid hy) h4 j x h5
theorem layR_ex {L:Int->Nat->Ex->List Nj->Prop} {mod:Nat}:∀ (rs:List (ByteArray × Ex)) (k b:Nat) (B:List Hj) (E:List Nj),LayR L mod k b rs B E->∀ (p:Nat) (x:Nj),E[p]?=some x->∃ r ∈ rs,∃ (k:Int) (c:Nat) (E1:List Nj) (q:Nat),L k c r.2 E1/\E1[q]?=some x
 | [],k,b,B,E,h,p,x,hx=>by rw [h.2] at hx;simp at hx
 | r :: rs,k,b,B,E,h,p,x,hx=>by
  obtain ⟨E1,E2,B',h1,h2,h3,h4⟩:=h;rw [h2] at hx;by_cases hp:p < E1.length
  · rw [List.getElem?_append_left hp] at hx;exact ⟨r,List.mem_cons_self ..,_,_,_,_,h3,hx⟩
  · rw [List.getElem?_append_right (by omega)] at hx;obtain ⟨y,hy,a1⟩:=layR_ex rs _ _ _ _ h4 (p - E1.length) x hx;exact ⟨y,List.mem_cons_of_mem _ hy,a1⟩
theorem layM_ex {L:Nat->Int->Nat->Ex->List Nj->Prop}:∀ (l:List Md) (i b:Nat) (H:List Hj) (W:List Int) (E:List Nj),LayM L i b l H W E->∀ (p:Nat) (x:Nj),E[p]?=some x->∃ m ∈ l,∃ e,(e=m.wa\/∃ r ∈ m.ru,e=r.2)/\∃ (i:Nat) (k:Int) (c:Nat) (E1:List Nj) (q:Nat),L i k c e E1/\E1[q]?=some x
 | [],i,b,H,W,E,h,p,x,hx=>by rw [h.2.2] at hx;simp at hx
 | m :: r,i,b,H,W,E,h,p,x,hx=>by
  obtain ⟨E0,E1,E2,H1,H2,wt,W',h1,h2,h3,h4,h5,h6⟩:=h;rw [h3] at hx;by_cases hp:p < E0.length
  ·
   rw [List.getElem?_append_left hp] at hx
   cases hw:m.wet with
   | true=>exact ⟨m,List.mem_cons_self ..,m.wa,.inl rfl,_,_,_,_,_,(h4.1 hw).2,hx⟩
   | false=>rw [(h4.2 hw).2] at hp;simp at hp
  ·
   rw [List.getElem?_append_right (by omega)] at hx;by_cases hq:p - E0.length < E1.length
   · rw [List.getElem?_append_left hq] at hx;obtain ⟨y,hy,k,c,E3,q,a1,a2⟩:=layR_ex _ _ _ _ _ h5 _ x hx;exact ⟨m,List.mem_cons_self ..,y.2,.inr ⟨y,hy,rfl⟩,_,_,_,_,_,a1,a2⟩
   · rw [List.getElem?_append_right (by omega)] at hx;obtain ⟨m',hm',a1⟩:=layM_ex r _ _ _ _ _ h6 _ x hx;exact ⟨m',List.mem_cons_of_mem _ hm',a1⟩
theorem Laid.tx {ML:List Md} {gr:Gj} (h:Laid ML gr) (hw:∀ m ∈ ML,Wel m) {p:Nat} {x:Nj} (hx:gr.ns[p]?=some x):x.tx.size<=100000:=by
 obtain ⟨m,hm,e,he,i,k,c,E1,q,h1,h2⟩:=layM_ex _ _ _ _ _ _ h.lay p x hx;have hT:TxA 100000 e:=by
  rcases he with rfl | ⟨r,hr,rfl⟩
  · exact (hw m hm).wa.1
  · exact ((hw m hm).bo r hr).1
 exact lay_tx 53 c e E1 hT h1 q x h2
theorem layK_cnt {L:Nat->Ex->List Nj->Prop}:∀ (K:List Ex) (b:Nat) (ks:List Nat) (E:List Nj),(∀ y b E,L b y E->0 < E.length)->LayK L b K ks E->ks.length<=E.length
 | [],b,ks,E,_,h=>by rw [h.1,h.2];exact Nat.le_refl _
 | y :: r,b,ks,E,hL,h=>by obtain ⟨E1,E2,ks',h1,h2,h3,h4⟩:=h;have:=hL _ _ _ h3;have:=layK_cnt r _ _ _ hL h4;rw [h1,h2,List.length_cons,List.length_append];omega
theorem layK_in {L:Nat->Ex->List Nj->Prop}:∀ (K:List Ex) (b:Nat) (ks:List Nat) (E:List Nj),LayK L b K ks E->∀ (i:Nat) (x:Nj),E[i]?=some x->∃ y ∈ K,∃ (c:Nat) (E1:List Nj) (j:Nat),L c y E1/\E1[j]?=some x/\E1.length<=E.length
 | [],b,ks,E,h=>by rw [h.2];intro i x hx;simp at hx
 | y :: r,b,ks,E,h=>by
  obtain ⟨E1,E2,ks',h1,h2,h3,h4⟩:=h;intro i x hx;rw [h2] at hx ⊢;rw [List.length_append];by_cases hi:i < E1.length
  · rw [List.getElem?_append_left hi] at hx;exact ⟨y,List.mem_cons_self ..,b,E1,i,h3,hx,by omega⟩
  · rw [List.getElem?_append_right (by omega)] at hx;obtain ⟨z,hz,c,E3,j,h5,h6,h7⟩:=layK_in r _ _ _ h4 (i - E1.length) x hx;exact ⟨z,List.mem_cons_of_mem _ hz,c,E3,j,h5,h6,by omega⟩
theorem lay_kl {ML:List Md} {F:List Nat} {mod:Nat} {ru:Int}:∀ (d b:Nat) (e:Ex) (E:List Nj),LayE ML F mod ru d b e E->∀ (i:Nat) (x:Nj),E[i]?=some x->x.ks.length<=E.length
 | 0,_,_,_,h=>by cases h
 | d + 1,b,e,E,h=>by
  obtain ⟨tt,ks,E',h1,h2,h3⟩:=h;intro i x hx;rw [h2] at hx ⊢;rw [List.length_cons]
  cases i with
  | zero =>
   have hx:sW e ks tt mod ru=x:=(by simpa using hx);subst hx;have:=layK_cnt e.kids _ _ _ (fun y b E hl=>lay_pos hl) h3;show ks.length<=_;omega
  | succ i =>
   have hx:E'[i]?=some x:=(by simpa using hx);obtain ⟨y,hy,c,E1,j,h4,h5,h6⟩:=layK_in e.kids _ _ _ h3 i x hx;have h8:=lay_kl d c y E1 h4 j x h5;omega
theorem Laid.kl {ML:List Md} {gr:Gj} (h:Laid ML gr) {p:Nat} {x:Nj} (hx:gr.ns[p]?=some x):x.ks.length<=160:=by obtain ⟨j,m,k,e,c,E1,q,h1,h2,h3,h4,h5,h6⟩:=layM_at _ _ _ _ _ _ h.lay p x hx;have h7:=lay_kl 53 c e E1 h3 q x h4;have h8:=h6 _ (ati_self _);have h9:=h.len;have hp:0 < E1.length:=lay_pos h3;obtain ⟨z,hz⟩:∃ z,E1[E1.length - 1]?=some z:=⟨_,aG (by omega)⟩;have:=(aS.1 (h8 _ z hz)).1;omega
theorem Laid.part {ML:List Md} {gr:Gj} (h:Laid ML gr) {i:Nat} {m:Md} (hm:ML[i]?=some m) (k:Nat):0<=szM (ML.take i) 0/\0<=szW m/\szM (ML.take i) 0 + szW m<=160/\szM (ML.take i) 0 + szW m<=szR (m.ru.take k) (szM (ML.take i) 0 + szW m)/\szR (m.ru.take k) (szM (ML.take i) 0 + szW m)<=160:=by have h1:=szM_take ML (i + 1) 0;rw [szM_snoc 0 hm,h.size] at h1;have h2:=h.len;have h3:=szR_take m.ru k (szM (ML.take i) 0 + szW m);have h4:=szR_le (m.ru.take k) (szM (ML.take i) 0 + szW m);have h5:=szM_le (ML.take i) 0;have h6:=szW_nn m;omega
set_option maxRecDepth 1000000 in
set_option maxHeartbeats 6400000 in
theorem jnodes_walk (l:List ByteArray) (ao:Option Addr) (cap:Nat) (s:ByteArray) (w:World) (hl:gI w ao l) (hmx:Mx w):Calls Try.prog 3 #[.slice ao l.length cap,.string s] w fun e w'=>e=.returned (.bool true)/\Below w.heap.size w w':=by
 have HPA:=aH (parsed11_any l ao cap w hl);have HAW:=aH (fun W (hW:Mx W)=>awake11_any W hW);have HX:=aH hmx;obtain ⟨PO,hPO⟩:∃ r,mX l=r:=⟨_,rfl⟩;have HPO:=aH hPO;rw [hPO] at HPA;obtain ⟨nl,hnl⟩:∃ n,l.length=n:=⟨_,rfl⟩;rw [hnl] at HPA ⊢;clear hl hmx hPO hnl;go_enter Try.func3,Try.ntmps3;go_wp2_with fail;refine HPA.o.mono ?_;rintro e w2 ⟨hP,hb2⟩;have HB2:=aH hb2;have HX2:=aH (HX.o.below hb2);clear hb2 HPA HX
 cases PO with
 | none =>
  have hP':e=.returned (.tuple #[.slice none 0 0,.bool false]):=hP;subst hP';go_wp2_with fail;refine (HAW.o w2 HX2.o).mono ?_;rintro e w3 ⟨rfl,hb3⟩;go_wp2;go_ret;exact ⟨rfl,HB2.o.trans (hb3.mono HB2.o.size)⟩
 | some ML =>
  obtain ⟨mo,mc,he,hM⟩:∃ mo mc,e=.returned (.tuple #[.slice mo ML.length mc,.bool true])/\fK w2 w.heap.size mo ML:=hP;subst he;by_cases hs:(50:Int) < (s.size:Int)
  · have hs1:decide ((50:Int) < (s.size:Int))=true:=aT hs;have hs2:decide (50 < s.size)=true:=aT (by omega);clear hM;go_wp2_with fail;refine (HAW.o w2 HX2.o).mono ?_;rintro e w3 ⟨rfl,hb3⟩;go_wp2;go_ret;exact ⟨rfl,HB2.o.trans (hb3.mono HB2.o.size)⟩
  ·
   have hs1:decide ((50:Int) < (s.size:Int))=false:=aF hs;have hs2:decide (50 < s.size)=false:=aF (by omega);have hok:=yG HPO.o;have HOK:=aH hok.1;have HWE:=aH (Vg HPO.o);have HFEW:=aH (qW HPO.o).1;have hml:=hok.2;have HJ:=aH (pjoin_any ML mo mc w.heap.size hok.1 hok.2 (qW HPO.o).1 s (by omega) w2 hM HX2.o);have HM2:=aH hM;obtain ⟨JO,hJO⟩:∃ r,iW ML s=r:=⟨_,rfl⟩;have HJO:=aH hJO;rw [hJO] at HJ;obtain ⟨nm,hnm⟩:∃ n,ML.length=n:=⟨_,rfl⟩;have HNM:=aH hnm;rw [hnm] at HJ hml ⊢;clear hM hJO hok hnm HPO;go_wp2_with fail;refine HJ.o.mono ?_;rintro e w3 ⟨hJ,hb3⟩;have HB3:=aH (HB2.o.trans (hb3.mono HB2.o.size));have HX3:=aH (HX2.o.below hb3);have HM3:=aH (HM2.o.below hb3);clear hb3 HJ HB2 HX2 HM2
   cases JO with
   | error f =>
    obtain ⟨he,hf⟩:=hJ;subst he;have hf1:decide (f.1=0)=false:=aF hf;have hbl:Below w3.heap.size w3 ((w3.alloc (.cells #[.slice none 0 0,.slice none 0 0,.slice none 0 0,.slice none 0 0,.int .i64 0] 31)).alloc (.cells #[.int .i64 f.1,.int .i64 0,.int .i64 f.2.1,.int .i64 f.2.2] 34)):=(bA _).alloc (by simp) _;have HOG:=aH ((Own.fresh w3 31 [.slice none 0 0,.slice none 0 0,.slice none 0 0,.slice none 0 0,.int .i64 0]).on_alloc (.cells #[.int .i64 f.1,.int .i64 0,.int .i64 f.2.1,.int .i64 f.2.2] 34));have hof:=Own.fresh (w3.alloc (.cells #[.slice none 0 0,.slice none 0 0,.slice none 0 0,.slice none 0 0,.int .i64 0] 31)) 34 [.int .i64 f.1,.int .i64 0,.int .i64 f.2.1,.int .i64 f.2.2];rw [show (w3.alloc (.cells #[.slice none 0 0,.slice none 0 0,.slice none 0 0,.slice none 0 0,.int .i64 0] 31)).heap.size=w3.heap.size + 1 from by simp] at hof;have HOF:=aH hof;clear hof;have HB4:=aH (HB3.o.trans (hbl.mono HB3.o.size));have HX4:=aH (HX3.o.below hbl);clear hbl HB3 HX3 HM3;go_upto_region 5 with fail;obtain ⟨Ba,hBa⟩:∃ B,w3.heap.size=B:=⟨_,rfl⟩;rw [hBa] at HOG HOF;generalize (w3.alloc (.cells #[.slice none 0 0,.slice none 0 0,.slice none 0 0,.slice none 0 0,.int .i64 0] 31)).alloc (.cells #[.int .i64 f.1,.int .i64 0,.int .i64 f.2.1,.int .i64 f.2.2] 34)=w4 at *;try rw [hBa]
    clear hBa;have f0:=HOF.o.cell 0;have fl:=HOF.o.lt;have y1:=HOG.o.cell 1;have y2:=HOG.o.cell 2;have yl:=HOG.o.lt;go_wp2_with fail;clear y1 y2 yl;refine (HAW.o w4 HX4.o).mono ?_;rintro e w5 ⟨rfl,hb5⟩;have y1:=aC (HOG.o.cell 1) hb5;have y2:=aC (HOG.o.cell 2) hb5;have yl:=aL HOG.o.lt hb5.size;go_wp2;go_ret;exact ⟨rfl,HB4.o.trans (hb5.mono HB4.o.size)⟩
   | ok gr =>
    obtain ⟨a,he,hG⟩:=hJ;have hG:dG w3 gr a:=hG.mono (fun _ _ _=>trivial);have HLD:=aH (join_laid HJO.o);obtain ⟨gms,gns,ghs,gws,gst⟩:=gr;obtain ⟨gmo,gno,gho,gwo,gmc,gnc,ghc,gwc⟩:=a;obtain ⟨gt,hgt,hgt2⟩:=HLD.o.st;have hgt:gst=(gt:Int):=hgt;subst hgt;unfold grv at he;simp only at he;have hms:gms.length=nm:=(by have h1:=HLD.o.ms;have h1:gms=ML.map (·.nm):=h1;rw [h1,List.length_map];exact HNM.o);have hws:gws.length=nm:=(by have h1:=HLD.o.waters;have h1:gws.length=ML.length:=h1;rw [h1];exact HNM.o);obtain ⟨NN,hNN⟩:∃ z,gns.length=z:=⟨_,rfl⟩;obtain ⟨NH,hNH⟩:∃ z,ghs.length=z:=⟨_,rfl⟩;have HNN:=aH hNN;have HNH:=aH hNH;have hn160:NN<=160:=(by rw [<- hNN];exact HLD.o.len);have hcr:cntR ML<=1000:=cnt_small ML (fun m hm=>(HOK.o m hm).2.2) (by have:=HNM.o;omega);have HCR:=aH (show NH=cntR ML from by rw [<- hNH];exact HLD.o.heads);have hgt3:gt < NH:=(by rw [HCR.o];exact hgt2);have hnh1:NH<=1000:=(by rw [HCR.o];exact hcr);have HZZ:=aH (show szM ML 0=(NN:Int) from by rw [<- hNN];exact HLD.o.size);rw [hms,hws,hNN,hNH] at he;clear hms hws hNN hNH hgt2 hcr;subst he;have hbl:Below w3.heap.size w3 ((w3.alloc (.cells #[.slice gmo nm gmc,.slice gno NN gnc,.slice gho NH ghc,.slice gwo nm gwc,.int .i64 (gt:Int)] 31)).alloc (.cells #[.int .i64 0,.int .i64 0,.int .i64 0,.int .i64 0] 34)):=(bA _).alloc (by simp) _;have HOG:=aH ((Own.fresh w3 31 [.slice gmo nm gmc,.slice gno NN gnc,.slice gho NH ghc,.slice gwo nm gwc,.int .i64 (gt:Int)]).on_alloc (.cells #[.int .i64 0,.int .i64 0,.int .i64 0,.int .i64 0] 34));have hof:=Own.fresh (w3.alloc (.cells #[.slice gmo nm gmc,.slice gno NN gnc,.slice gho NH ghc,.slice gwo nm gwc,.int .i64 (gt:Int)] 31)) 34 [.int .i64 0,.int .i64 0,.int .i64 0,.int .i64 0];rw [show (w3.alloc (.cells #[.slice gmo nm gmc,.slice gno NN gnc,.slice gho NH ghc,.slice gwo nm gwc,.int .i64 (gt:Int)] 31)).heap.size=w3.heap.size + 1 from by simp] at hof;have HOF:=aH hof;clear hof;have HB4:=aH (HB3.o.trans (hbl.mono HB3.o.size));have HX4:=aH (HX3.o.below hbl);have HM4:=aH (HM3.o.below hbl);have HG4:=aH (hG.below hbl);clear hbl HB3 HX3 HM3 hG;go_upto_region 5 with fail;obtain ⟨Ba,hBa⟩:∃ B,w3.heap.size=B:=⟨_,rfl⟩;rw [hBa] at HOG HOF;generalize (w3.alloc (.cells #[.slice gmo nm gmc,.slice gno NN gnc,.slice gho NH ghc,.slice gwo nm gwc,.int .i64 (gt:Int)] 31)).alloc (.cells #[.int .i64 0,.int .i64 0,.int .i64 0,.int .i64 0] 34)=w4 at *;try rw [hBa]
    clear hBa;have f0:=HOF.o.cell 0;have fl:=HOF.o.lt;go_wp2_with fail;clear f0 fl HOF
    go_loopw [9,10,11,12] (fun v9 v10 v11 v12 wr=>∃ (N:Int) (R i:Nat) (vv:Value),v9=.int .i64 N/\v10=.int .i64 (R:Int)/\v11=.int .i64 (i:Int)/\vv=v12/\i<=nm/\aQ (N=szM (ML.take i) 0)/\aQ (R=cntR (ML.take i))/\aQ (Below w4.heap.size w4 wr)) (fun _ _ v11 _ _=>nm - (intOf v11).toNat)
    case atStart=>exact ⟨0,0,0,_,rfl,rfl,rfl,rfl,Nat.zero_le _,aH rfl,aH rfl,aH (Below.refl _ _)⟩
    case round =>
     obtain ⟨N,R,i,vv,rfl,rfl,rfl,hvv,him,HN,HR,HB⟩:=hrel;subst hvv;obtain ⟨wo,hwo⟩:∃ z,z=wr:=⟨_,rfl⟩;subst hwo;by_cases hi:i < nm
     ·
      have d1:decide ((i:Int) < (nm:Int))=true:=aT (by omega);have d2:decide (i < nm)=true:=aT hi;have hw1:IntKind.i64.wrap ((i:Int) + 1)=(i:Int) + 1:=wI;obtain ⟨m,hm⟩:∃ m,ML[i]?=some m:=⟨_,aG (by have:=HNM.o;omega)⟩;have HMI:=aH hm;have HQI:=aH (cnt_snoc ML i m hm);have HCA:=aH (cnt_at ML i m hm);have hm24:m.ru.length<=24:=(HOK.o m (aM hm)).2.2;obtain ⟨nd,hMM⟩:=HM4.o;obtain ⟨mb,moff,io,ic,ko,kc,ro,rc,hmo,hml2,-,-,-,c2,c3,c4,c5,c6,c7,c8,c9,cA,-,hwk,hru⟩:=hMM i m hm;subst hmo;have HRU:=aH hru;have HWK:=aH hwk;have HMC:=aH (And.intro hml2 (And.intro c2 (And.intro c3 (And.intro c4 (And.intro c5 (And.intro c6 (And.intro c7 (And.intro c8 (And.intro c9 cA)))))))));obtain ⟨nr,hnr⟩:∃ z,m.ru.length=z:=⟨_,rfl⟩;have HNR:=aH hnr;rw [hnr] at hm24 HMC HQI HCA;have x0:=aL hml2 HB.o.size;have x2:=aC c2 HB.o;obtain ⟨wet,hwet⟩:∃ z,m.wet=z:=⟨_,rfl⟩;have HWT:=aH hwet;rw [hwet] at x2;clear hm hMM hwk hru c2 c3 c4 c5 c6 c7 c8 c9 cA hml2 hnr hwet
      cases wet with
      | false =>
       have HN0:=aH (show N=szM (ML.take i) 0 + szW m from by rw [HN.o];unfold szW;rw [if_neg (by rw [HWT.o];simp)];omega);go_wp2_with fail;clear x0 x2;go_wp2_with fail
       go_loopw [9,10,12] (fun v9 v10 v12 wr=>∃ (N:Int) (R k:Nat),v9=.int .i64 N/\v10=.int .i64 (R:Int)/\v12=.int .i64 (k:Int)/\k<=nr/\aQ (N=szR (m.ru.take k) (szM (ML.take i) 0 + szW m))/\aQ (R=cntR (ML.take i) + k)/\aQ (Below w4.heap.size w4 wr)) (fun _ _ v12 _=>nr - (intOf v12).toNat)
       case atStart=>exact ⟨_,R,0,rfl,rfl,rfl,Nat.zero_le _,aH (by rw [HN0.o];rfl),HR,HB⟩
       case round =>
        clear HN HR;obtain ⟨N,R,k,rfl,rfl,rfl,hkn,HN,HR,HB⟩:=hrel;obtain ⟨x0,-,-,-,-,-,-,-,-,xA⟩:=HMC.o;have xA:=aC xA HB.o;have x0:=aL x0 HB.o.size;have hix:i < nm:=hi;by_cases hk:k < nr
        ·
         have d3:decide ((k:Int) < (nr:Int))=true:=aT (by omega);have d4:decide (k < nr)=true:=aT hk;have hw2:IntKind.i64.wrap ((k:Int) + 1)=(k:Int) + 1:=wI;have hw3:IntKind.i64.wrap ((R:Int) + 1)=(R:Int) + 1:=(by have:=IntKind.wrap_i64 ((R:Int) + 1);have:=HR.o;have:=HCA.o;have:=HCR.o;omega);obtain ⟨r,hr⟩:∃ r,m.ru[k]?=some r:=⟨_,aG (by have:=HNR.o;omega)⟩;have hmr:=aM hr;have hmm:=aM HMI.o;obtain ⟨rb,roff,yo,yc,hro,hrl,-,r0,r1,r2,r3,r4,r5,r6,r7,hry⟩:=HRU.o k r hr;subst hro;have HFT:=aH ((HWE.o m hmm).bo r hmr).2;have HKY:=aH (aV.fit HFT.o hry.hask);obtain ⟨z,hz⟩:∃ z,gW 53 r.2=z:=⟨_,rfl⟩;have hsn:=szR_snoc (szM (ML.take i) 0 + szW m) hr;have hp1:=HLD.o.part HMI.o k;have hp2:=HLD.o.part HMI.o (k + 1);have hz0:=size_nn 53 r.2;rw [hsn] at hp2;rw [<- HN.o] at hsn hp1 hp2;rw [hz] at hsn hp2 hz0;have HN1:=aH (show N + z=szR (m.ru.take (k + 1)) (szM (ML.take i) 0 + szW m) from hsn.symm);have hzz:z<=160/\0<=N/\N<=160:=(by omega);have hw4:IntKind.i64.wrap (N + z)=N + z:=by have:=IntKind.wrap_i64 (N + z);omega
         have HSZ:=aH (fun (W:World) (hW:Below w4.heap.size w4 W)=>show Calls Try.prog 8 #[.agg #[.int .i64 r.2.op,.string r.2.text,.int .u64 r.2.s0,.int .u64 r.2.s1,.int .u64 r.2.s2,.int .u64 r.2.s3,.slice yo r.2.kids.length yc]] W (fun e w'=>e=.returned (.int .i64 z)/\Below W.heap.size W w') from by
          have q1:=rsizew_any 53 r.2 yo yc W HFT.o (by omega) (aV.below hW HKY.o);rw [hz] at q1
          exact q1)
         have r1:=aC r1 HB.o;have r2:=aC r2 HB.o;have r3:=aC r3 HB.o;have r4:=aC r4 HB.o;have r5:=aC r5 HB.o;have r6:=aC r6 HB.o;have r7:=aC r7 HB.o;have hrl:=aL hrl HB.o.size;clear hr hmr hmm r0 hry hz hsn hp1 hp2 hz0;go_wp2_with fail;refine (HSZ.o wr HB.o).mono ?_;rintro e w5 ⟨rfl,hb5⟩;have HB5:=aH (HB.o.trans (hb5.mono HB.o.size));have HR1:=aH (show R + 1=cntR (ML.take i) + (k + 1) from by have:=HR.o;omega);clear r1 r2 r3 r4 r5 r6 r7 hrl hb5 x0 xA;go_wp2
         go_roundw
         case rel=>exact ⟨N + z,R + 1,k + 1,by rfl,by go_num,by go_num,by omega,HN1,HR1,HB5⟩
         case measure=>simp [intOf];omega
        ·
         have d3:decide ((k:Int) < (nr:Int))=false:=aF (by omega);have d4:decide (k < nr)=false:=aF hk;obtain rfl:k=nr:=(by omega);have HN1:=aH (show N=szM (ML.take (i + 1)) 0 from by rw [HN.o,szM_snoc 0 HMI.o,List.take_of_length_le (by have:=HNR.o;omega)]);have HR1:=aH (show R=cntR (ML.take (i + 1)) from by have h1:=HR.o;have h2:=HQI.o;omega);go_wp2
         go_roundw
         case rel=>exact ⟨N,R,i + 1,_,rfl,rfl,by go_num,rfl,by omega,HN1,HR1,HB⟩
         case measure=>simp [intOf];omega
      | true =>
       have hmm:=aM HMI.o;have HFT:=aH (HWE.o m hmm).wa.2;have HKY:=aH (aV.fit HFT.o HWK.o.hask);obtain ⟨z,hz⟩:∃ z,gW 53 m.wa=z:=⟨_,rfl⟩;have hp:=HLD.o.part HMI.o 0;have hwz:szW m=z:=(by unfold szW;rw [if_pos HWT.o];exact hz);rw [hwz,<- HN.o] at hp;have HN0:=aH (show N + z=szM (ML.take i) 0 + szW m from by rw [HN.o,hwz]);have hzz:z<=160/\0<=N/\N<=160:=(by omega);have hw4:IntKind.i64.wrap (N + z)=N + z:=by have:=IntKind.wrap_i64 (N + z);omega
       have HSZ:=aH (show Calls Try.prog 8 #[.agg #[.int .i64 m.wa.op,.string m.wa.text,.int .u64 m.wa.s0,.int .u64 m.wa.s1,.int .u64 m.wa.s2,.int .u64 m.wa.s3,.slice ko m.wa.kids.length kc]] wo (fun e w'=>e=.returned (.int .i64 z)/\Below wo.heap.size wo w') from by
        have q1:=rsizew_any 53 m.wa ko kc wo HFT.o (by omega) (aV.below HB.o HKY.o);rw [hz] at q1
        exact q1)
       obtain ⟨-,-,x3,x4,x5,x6,x7,x8,x9,-⟩:=HMC.o;have x3:=aC x3 HB.o;have x4:=aC x4 HB.o;have x5:=aC x5 HB.o;have x6:=aC x6 HB.o;have x7:=aC x7 HB.o;have x8:=aC x8 HB.o;have x9:=aC x9 HB.o;clear hmm hz hp hwz;go_wp2_with fail;refine HSZ.o.mono ?_;rintro e w5 ⟨rfl,hb5⟩;have HB5:=aH (HB.o.trans (hb5.mono HB.o.size));clear x0 x2 x3 x4 x5 x6 x7 x8 x9 hb5;go_wp2_with fail
       go_loopw [9,10,12] (fun v9 v10 v12 wr=>∃ (N:Int) (R k:Nat),v9=.int .i64 N/\v10=.int .i64 (R:Int)/\v12=.int .i64 (k:Int)/\k<=nr/\aQ (N=szR (m.ru.take k) (szM (ML.take i) 0 + szW m))/\aQ (R=cntR (ML.take i) + k)/\aQ (Below w4.heap.size w4 wr)) (fun _ _ v12 _=>nr - (intOf v12).toNat)
       case atStart=>exact ⟨_,R,0,rfl,rfl,rfl,Nat.zero_le _,aH (by rw [HN0.o];rfl),HR,HB5⟩
       case round =>
        clear HN HR;obtain ⟨N,R,k,rfl,rfl,rfl,hkn,HN,HR,HB⟩:=hrel;obtain ⟨x0,-,-,-,-,-,-,-,-,xA⟩:=HMC.o;have xA:=aC xA HB.o;have x0:=aL x0 HB.o.size;have hix:i < nm:=hi;by_cases hk:k < nr
        ·
         have d3:decide ((k:Int) < (nr:Int))=true:=aT (by omega);have d4:decide (k < nr)=true:=aT hk;have hw2:IntKind.i64.wrap ((k:Int) + 1)=(k:Int) + 1:=wI;have hw3:IntKind.i64.wrap ((R:Int) + 1)=(R:Int) + 1:=(by have:=IntKind.wrap_i64 ((R:Int) + 1);have:=HR.o;have:=HCA.o;have:=HCR.o;omega);obtain ⟨r,hr⟩:∃ r,m.ru[k]?=some r:=⟨_,aG (by have:=HNR.o;omega)⟩;have hmr:=aM hr;have hmm:=aM HMI.o;obtain ⟨rb,roff,yo,yc,hro,hrl,-,r0,r1,r2,r3,r4,r5,r6,r7,hry⟩:=HRU.o k r hr;subst hro;have HFT:=aH ((HWE.o m hmm).bo r hmr).2;have HKY:=aH (aV.fit HFT.o hry.hask);obtain ⟨z,hz⟩:∃ z,gW 53 r.2=z:=⟨_,rfl⟩;have hsn:=szR_snoc (szM (ML.take i) 0 + szW m) hr;have hp1:=HLD.o.part HMI.o k;have hp2:=HLD.o.part HMI.o (k + 1);have hz0:=size_nn 53 r.2;rw [hsn] at hp2;rw [<- HN.o] at hsn hp1 hp2;rw [hz] at hsn hp2 hz0;have HN1:=aH (show N + z=szR (m.ru.take (k + 1)) (szM (ML.take i) 0 + szW m) from hsn.symm);have hzz:z<=160/\0<=N/\N<=160:=(by omega);have hw4:IntKind.i64.wrap (N + z)=N + z:=by have:=IntKind.wrap_i64 (N + z);omega
         have HSZ:=aH (fun (W:World) (hW:Below w4.heap.size w4 W)=>show Calls Try.prog 8 #[.agg #[.int .i64 r.2.op,.string r.2.text,.int .u64 r.2.s0,.int .u64 r.2.s1,.int .u64 r.2.s2,.int .u64 r.2.s3,.slice yo r.2.kids.length yc]] W (fun e w'=>e=.returned (.int .i64 z)/\Below W.heap.size W w') from by
          have q1:=rsizew_any 53 r.2 yo yc W HFT.o (by omega) (aV.below hW HKY.o);rw [hz] at q1
          exact q1)
         have r1:=aC r1 HB.o;have r2:=aC r2 HB.o;have r3:=aC r3 HB.o;have r4:=aC r4 HB.o;have r5:=aC r5 HB.o;have r6:=aC r6 HB.o;have r7:=aC r7 HB.o;have hrl:=aL hrl HB.o.size;clear hr hmr hmm r0 hry hz hsn hp1 hp2 hz0;go_wp2_with fail;refine (HSZ.o wr HB.o).mono ?_;rintro e w5 ⟨rfl,hb5⟩;have HB5:=aH (HB.o.trans (hb5.mono HB.o.size));have HR1:=aH (show R + 1=cntR (ML.take i) + (k + 1) from by have:=HR.o;omega);clear r1 r2 r3 r4 r5 r6 r7 hrl hb5 x0 xA;go_wp2
         go_roundw
         case rel=>exact ⟨N + z,R + 1,k + 1,by rfl,by go_num,by go_num,by omega,HN1,HR1,HB5⟩
         case measure=>simp [intOf];omega
        ·
         have d3:decide ((k:Int) < (nr:Int))=false:=aF (by omega);have d4:decide (k < nr)=false:=aF hk;obtain rfl:k=nr:=(by omega);have HN1:=aH (show N=szM (ML.take (i + 1)) 0 from by rw [HN.o,szM_snoc 0 HMI.o,List.take_of_length_le (by have:=HNR.o;omega)]);have HR1:=aH (show R=cntR (ML.take (i + 1)) from by have h1:=HR.o;have h2:=HQI.o;omega);go_wp2
         go_roundw
         case rel=>exact ⟨N,R,i + 1,_,rfl,rfl,by go_num,rfl,by omega,HN1,HR1,HB⟩
         case measure=>simp [intOf];omega
     ·
      have d1:decide ((i:Int) < (nm:Int))=false:=aF (by omega);have d2:decide (i < nm)=false:=aF hi;obtain rfl:nm=i:=(by omega);have hN:N=(NN:Int):=(by rw [HN.o,List.take_of_length_le (by have:=HNM.o;omega)];exact HZZ.o);have hR:NH=R:=(by rw [HR.o,List.take_of_length_le (by have:=HNM.o;omega)];exact HCR.o);subst hN;subst hR;have y0:=aC (HOG.o.cell 0) HB.o;have y1:=aC (HOG.o.cell 1) HB.o;have y2:=aC (HOG.o.cell 2) HB.o;have y3:=aC (HOG.o.cell 3) HB.o;have y4:=aC (HOG.o.cell 4) HB.o;have yl:=aL HOG.o.lt HB.o.size;have e1:decide ((NH:Int)<=(gt:Int))=false:=aF (by omega);have e2:decide (NH<=gt)=false:=aF (by omega);have e3:decide ((gt:Int) < 0)=false:=aF (by omega);go_wp2_with fail;clear y0 y1 y2 y3 y4 yl e1 e2 e3
      go_loopw [13,14,15,16,17,18] (fun v13 v14 v15 v16 v17 v18 wr=>∃ (p:Nat) (a14 a15 a16 a17 a18:Value),v13=.int .i64 (p:Int)/\a14=v14/\a15=v15/\a16=v16/\a17=v17/\a18=v18/\p<=NN/\aQ (Below w4.heap.size w4 wr)) (fun v13 _ _ _ _ _ _=>NN - (intOf v13).toNat)
      case atStart=>exact ⟨0,_,_,_,_,_,rfl,rfl,rfl,rfl,rfl,rfl,Nat.zero_le _,HB⟩
      case round =>
       clear HB HN HR;obtain ⟨p,a14,a15,a16,a17,a18,rfl,h14,h15,h16,h17,h18,hpn,HB⟩:=hrel;subst h14 h15 h16 h17 h18;obtain ⟨wp,hwp⟩:∃ z,z=wr:=⟨_,rfl⟩;subst hwp;by_cases hp:p < NN
       ·
        have d3:decide ((p:Int) < (NN:Int))=true:=aT (by omega);have d4:decide (p < NN)=true:=aT hp;have hw1:IntKind.i64.wrap ((p:Int) + 1)=(p:Int) + 1:=wI;obtain ⟨x,hx⟩:∃ x,gns[p]?=some x:=⟨_,aG (by have:=HNN.o;omega)⟩;obtain ⟨m,hm,hru,hkids,href,hnr⟩:=HLD.o.node hx;have htx:=HLD.o.tx HWE.o hx;have hn160k:=HLD.o.kl hx;have HKD:=aH hkids;have HRF:=aH href;have HNF:=aH hnr;have HTX:=aH htx;obtain ⟨nb,noff,xo,xc,hno,hnl,⟨-,hxc⟩,c0,c1,c2,c3,c4,c5,c6,c7,c8,c9,hks⟩:=HG4.o.1 p x hx;have hno:gno=some ⟨nb,noff,none⟩:=hno;subst hno;have HKS:=aH hks;obtain ⟨nd,hMM⟩:=HM4.o;obtain ⟨mb,moff,io,ic,ko,kc,ro,rc,hmo,hml2,-,-,-,-,-,-,-,-,-,-,-,mA,-,-,-⟩:=hMM x.mo m hm;subst hmo;have hxm:x.mo < ML.length:=(aS.1 hm).1;rw [HNM.o] at hxm;have HXM:=aH hxm;obtain ⟨op,hop⟩:∃ z,x.op=z:=⟨_,rfl⟩;obtain ⟨tx,htxe⟩:∃ z,x.tx=z:=⟨_,rfl⟩;obtain ⟨s0,hs0⟩:∃ z,x.s0=z:=⟨_,rfl⟩;obtain ⟨s1,hs1⟩:∃ z,x.s1=z:=⟨_,rfl⟩;obtain ⟨s2,hs2⟩:∃ z,x.s2=z:=⟨_,rfl⟩;obtain ⟨s3,hs3⟩:∃ z,x.s3=z:=⟨_,rfl⟩;obtain ⟨tg,htg⟩:∃ z,x.tg=z:=⟨_,rfl⟩;obtain ⟨xm,hxme⟩:∃ z,x.mo=z:=⟨_,rfl⟩;obtain ⟨xr,hxre⟩:∃ z,x.ru=z:=⟨_,rfl⟩;obtain ⟨ks,hkse⟩:∃ z,x.ks=z:=⟨_,rfl⟩;obtain ⟨n,hn⟩:∃ z,ks.length=z:=⟨_,rfl⟩;obtain ⟨nr,hnrl⟩:∃ z,m.ru.length=z:=⟨_,rfl⟩;rw [hkse] at HKD HKS c6 hxc;rw [hkse,hn] at hn160k;rw [hn] at c6 hxc;rw [hop,htg,hxme,htxe] at HRF;rw [hop,htg] at HNF;rw [hxme,hxre] at HKD;rw [hxme] at HXM hxm mA c8;rw [hxre] at c9;rw [hxre,hnrl] at hru;rw [htxe] at HTX c1;rw [hop] at c0;rw [hs0] at c2;rw [hs1] at c3;rw [hs2] at c4;rw [hs3] at c5;rw [htg] at c7;rw [hnrl] at mA;have HN:=aH hn;have HMM:=aH hMM;clear hx hm hkids href hnr htx hks hMM hop htxe hs0 hs1 hs2 hs3 htg hxme hxre hkse hn hnrl;have c0:=aC c0 HB.o;have c1:=aC c1 HB.o;have c2:=aC c2 HB.o;have c3:=aC c3 HB.o;have c4:=aC c4 HB.o;have c5:=aC c5 HB.o;have c6:=aC c6 HB.o;have c7:=aC c7 HB.o;have c8:=aC c8 HB.o;have c9:=aC c9 HB.o;have hnl1:=aL hnl HB.o.size;have y1:=aC (HOG.o.cell 1) HB.o;have yl:=aL HOG.o.lt HB.o.size;have hbx:Below wp.heap.size wp (wp.alloc (.cells #[.int .i64 op,.string tx,.int .u64 s0,.int .u64 s1,.int .u64 s2,.int .u64 s3,.slice xo n xc,.int .i64 tg,.int .i64 (xm:Int),.int .i64 xr] 50)):=bA _;have HON:=aH (Own.fresh wp 50 [.int .i64 op,.string tx,.int .u64 s0,.int .u64 s1,.int .u64 s2,.int .u64 s3,.slice xo n xc,.int .i64 tg,.int .i64 (xm:Int),.int .i64 xr]);have HB5:=aH (HB.o.trans (hbx.mono HB.o.size));clear hbx;go_upto_region 24 with fail;clear c0 c1 c2 c3 c4 c5 c6 c7 c8 c9 hnl1 y1 yl;obtain ⟨C,hC⟩:∃ C,wp.heap.size=C:=⟨_,rfl⟩;rw [hC] at HON;generalize wp.alloc (.cells #[.int .i64 op,.string tx,.int .u64 s0,.int .u64 s1,.int .u64 s2,.int .u64 s3,.slice xo n xc,.int .i64 tg,.int .i64 (xm:Int),.int .i64 xr] 50)=w5 at *;try rw [hC]
        clear hC;have n5:=HON.o.cell 8;have n6:=HON.o.cell 9;have nl:=HON.o.lt;have mA5:=aC mA HB5.o;have ml5:=aL hml2 HB5.o.size;have e1:decide ((xm:Int) < 0)=false:=aF (by omega);have e2:decide ((nm:Int)<=(xm:Int))=false:=aF (by omega);have e3:decide (nm<=xm)=false:=aF (by omega);have e4:decide (xr < -1)=false:=aF (by omega);have e5:decide ((nr:Int)<=xr)=false:=aF (by omega);go_quiet (fail);have HB6:=aH (show Below w4.heap.size w4 (w5.drewN nq) from below_drewN HB5.o nq);have HON6:=aH (show Own (w5.drewN nq) C 50 [.int .i64 op,.string tx,.int .u64 s0,.int .u64 s1,.int .u64 s2,.int .u64 s3,.slice xo n xc,.int .i64 tg,.int .i64 (xm:Int),.int .i64 xr] from HON.o);clear n5 n6 nl mA5 ml5 e1 e2 e3 e4 e5 HB5 HON;generalize w5.drewN nq=w6 at *;go_wp2_with fail
        go_loopw [15] (fun v15 wr=>∃ k:Nat,v15=.int .i64 (k:Int)/\k<=n/\aQ (Below w6.heap.size w6 wr)) (fun v15 _=>n - (intOf v15).toNat)
        case atStart=>exact ⟨0,rfl,Nat.zero_le _,aH (Below.refl _ _)⟩
        case round =>
         obtain ⟨k,rfl,hkn,HBk⟩:=hrel;have HONk:=aH (HON6.o.under HBk.o HON6.o.lt);have HBk4:=aH (HB6.o.trans (HBk.o.mono HB6.o.size));have nl:=HONk.o.lt;have n3:=HONk.o.cell 6;by_cases hk:k < n
         ·
          have d5:decide ((k:Int) < (n:Int))=true:=aT (by omega);have d6:decide (k < n)=true:=aT hk;have hkx:k < xc:=(by omega);have hw2:IntKind.i64.wrap ((k:Int) + 1)=(k:Int) + 1:=wI;obtain ⟨y,hy⟩:∃ y,ks[k]?=some y:=⟨_,aG (by have:=HN.o;omega)⟩;obtain ⟨kb,koff,hxo,hkl,-,k0⟩:=HKS.o k y hy;subst hxo;obtain ⟨hpy,yn,hyn,hym,hyr⟩:=HKD.o y (aM hy);obtain ⟨nb',noff',yo,yc,e,-,-,-,-,-,-,-,-,-,-,c8,c9,-⟩:=HG4.o.1 y yn hyn;injection e with e;injection e with q1 q2;subst q1 q2;rw [hym] at c8;rw [hyr] at c9;have hyl:y < NN:=(by have h9:y < gns.length:=(aS.1 hyn).1;rw [HNN.o] at h9;exact h9);have k0:=aC k0 HBk4.o;have c8:=aC c8 HBk4.o;have c9:=aC c9 HBk4.o;have hkl:=aL hkl HBk4.o.size;have hnlk:=aL hnl HBk4.o.size;have y1:=aC (HOG.o.cell 1) HBk4.o;have yl:=aL HOG.o.lt HBk4.o.size;have n5:=HONk.o.cell 8;have n6:=HONk.o.cell 9;have e1:decide ((y:Int)<=(p:Int))=false:=aF (by omega);have e2:decide (y<=p)=false:=aF (by omega);have e3:decide ((NN:Int)<=(y:Int))=false:=aF (by omega);have e4:decide (NN<=y)=false:=aF (by omega);clear hy hpy hyn hym hyr;go_upto_region 29 with fail;go_quiet (fail);have HB9:=aH (show Below w6.heap.size w6 (wr.drewN nq) from below_drewN HBk.o nq);clear k0 c8 c9 hkl hnlk y1 yl n5 n6 e1 e2 e3 e4 nl n3;generalize wr.drewN nq=w9 at *;go_wp2
          go_roundw
          case rel=>exact ⟨k + 1,by go_num,by omega,HB9⟩
          case measure=>simp [intOf];omega
         ·
          have d5:decide ((k:Int) < (n:Int))=false:=aF (by omega);have d6:decide (k < n)=false:=aF hk;have n0:=HONk.o.cell 0;by_cases h11:op=11
          ·
           subst h11;obtain ⟨j,q,mj,rj,cc,hres,hmj,hrj,htge,hhd⟩:=HRF.o rfl;subst htge;have hRS:=Ia ML w.heap.size (some ⟨mb,moff,none⟩) mc (xm:Int) tx (by have:=HTX.o;omega) HFEW.o wr (HM4.o.below HBk4.o);rw [hres,HNM.o] at hRS;have HRS:=aH (show Calls Try.prog 9 #[.slice (some ⟨mb,moff,none⟩) nm mc,.int .i64 (xm:Int),.string tx] wr (fun e w'=>e=.returned (.tuple #[.int .i64 (j:Int),.int .i64 (q:Int),.bool true])/\Below wr.heap.size wr w') from hRS);have n1:=HONk.o.cell 1;have n5:=HONk.o.cell 8;obtain ⟨T,hT⟩:∃ T,cntR (ML.take j) + q=T:=⟨_,rfl⟩;rw [hT] at hhd HONk;have hTl:T < NH:=(by have h9:T < ghs.length:=(aS.1 hhd).1;rw [HNH.o] at h9;exact h9);obtain ⟨hb,hoff,hho,hhl,-,t0,t1,-⟩:=HG4.o.2.1 T _ hhd;have hho:gho=some ⟨hb,hoff,none⟩:=hho;subst hho;obtain ⟨mb',moff',io',ic',ko',kc',ro',rc',e,-,-,-,-,-,-,-,-,-,-,-,-,jA,-,-,hruj⟩:=HMM.o j mj hmj;injection e with e;injection e with q1 q2;subst q1 q2;obtain ⟨rb,roff,-,-,hro',hrl,-,r0,-⟩:=hruj q rj hrj;subst hro';obtain ⟨nrj,hnrj⟩:∃ z,mj.ru.length=z:=⟨_,rfl⟩;rw [hnrj] at jA;have hql:q < nrj:=(by rw [<- hnrj];exact (aS.1 hrj).1);have hjl:j < nm:=(by rw [<- HNM.o];exact (aS.1 hmj).1);have HTF:=aH (And.intro hhl (And.intro t0 (And.intro t1 (And.intro jA (And.intro hrl r0)))));clear hres hmj hrj hT hhd hRS hruj hnrj hhl t0 t1 jA hrl r0;go_wp2_with fail;refine HRS.o.mono ?_;rintro e w7 ⟨rfl,hb7⟩;have HB7:=aH (HBk4.o.trans (hb7.mono HBk4.o.size));have HON7:=aH (HONk.o.under hb7 HONk.o.lt);obtain ⟨hhl,t0,t1,jA,hrl,r0⟩:=HTF.o;have t0:=aC t0 HB7.o;have t1:=aC t1 HB7.o;have jA:=aC jA HB7.o;have r0:=aC r0 HB7.o;have hhl:=aL hhl HB7.o.size;have hrl:=aL hrl HB7.o.size;have hml7:=aL hml2 HB7.o.size;have y2:=aC (HOG.o.cell 2) HB7.o;have yl:=aL HOG.o.lt HB7.o.size;have n4:=HON7.o.cell 7;have nl7:=HON7.o.lt;have e1:decide ((T:Int) < 0)=false:=aF (by omega);have e2:decide ((NH:Int)<=(T:Int))=false:=aF (by omega);have e3:decide (NH<=T)=false:=aF (by omega);clear hb7 n0 n1 n5 n3 nl;go_upto_region 33 with fail;go_quiet (fail);have HB9:=aH (show Below w4.heap.size w4 (w7.drewN nq) from below_drewN HB7.o nq);clear t0 t1 jA r0 hhl hrl hml7 y2 yl n4 nl7 e1 e2 e3;generalize w7.drewN nq=w9 at *;go_wp2
           go_roundw
           case rel=>exact ⟨p + 1,_,_,_,_,_,by go_num,rfl,rfl,rfl,rfl,rfl,by omega,HB9⟩
           case measure=>simp [intOf];omega
          ·
           have htge:=HNF.o h11;subst htge;have e1:(op == 11)=false:=(by simpa using h11);have e2:decide (op=11)=false:=aF h11;have n4:=HONk.o.cell 7;go_wp2
           go_roundw
           case rel=>exact ⟨p + 1,_,_,_,_,_,by go_num,rfl,rfl,rfl,rfl,rfl,by omega,HBk4⟩
           case measure=>simp [intOf];omega
       · have d3:decide ((p:Int) < (NN:Int))=false:=aF (by omega);have d4:decide (p < NN)=false:=aF hp;have e1:decide ((NN:Int)<=160)=true:=aT (by omega);go_wp2_with fail;refine (HAW.o wp (HX4.o.below HB.o)).mono ?_;rintro e w9 ⟨rfl,hb9⟩;go_wp2;go_ret;exact ⟨rfl,HB4.o.trans ((HB.o.trans (hb9.mono HB.o.size)).mono HB4.o.size)⟩
end Go.Proofs.Ythkdnehgamefiaa
