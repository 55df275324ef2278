import Derived.Test.YthddifjhoniacaaGreatNa
namespace Go.Proofs.YthddifjhoniacaaGreat
set_option linter.unusedVariables false
set_option maxHeartbeats 3200000
set_option maxRecDepth 1000000
open Go.RowKit Go.Sort
def A7T (ks:List Nat):List Int:=ks.map (fun (k:Nat)=>(k:Int))
def Dp (NU:Nat->Bool) (op:Int) (ks:List Nat):List Int:=orL [] (A7T (if op=4 then eH NU ks else ks))
def A2g (gr:Gj) (mo:Nat) (L:List Int):List Int:=match gr.ws[mo]? with
 | some y=>if 0<=y then bT L y else L
 | none=>L
def AX (gr:Gj) (T:Nx) (nl n mo:Nat) (L:List Int):List Int:=A2g gr mo (if n < nl then orL L (T n) else L)
def jE (gr:Gj) (T:Nx) (nl n:Nat):List Int:=match gr.ns[n]? with
 | none=>[]
 | some x=>if x.op=11 then bT (Dp (aZ gr) x.op x.ks) (bY gr n:Int) else if x.op=13 then AX gr T nl n x.mo (Dp (aZ gr) x.op x.ks) else Dp (aZ gr) x.op x.ks
def Gn (gr:Gj) (T:Nx) (nl:Nat) (n:Int):List Int:=if 0<=n/\n < (gr.ns.length:Int) then jE gr T nl n.toNat else []
def Rg (N:Nat) (L:List Int):Prop:=gF L/\∀ y ∈ L,0<=y/\y < (N:Int)
theorem Rg.nil (N:Nat):Rg N []:=⟨trivial,fun y hy=>(by cases hy)⟩
theorem Rg.put {N:Nat} {L:List Int} {y:Int} (h:Rg N L) (hy:0<=y/\y < (N:Int)):Rg N (bT L y):=⟨h.1.put y,fun z hz=>by rcases (lW y _ z).1 hz with rfl | hz;exact hy;exact h.2 z hz⟩
theorem Rg.or {N:Nat} {L M:List Int} (h:Rg N L) (hM:∀ y ∈ M,0<=y/\y < (N:Int)):Rg N (orL L M):=⟨gF.or _ h.1,fun z hz=>by rcases (kX _ _ _).1 hz with hz | hz;exact h.2 z hz;exact hM z hz⟩
theorem Rg.len {N:Nat} {L:List Int} (h:Rg N L):L.length<=N:=h.1.room h.2
theorem VB {gr:Gj} (hg:Good gr) {n:Nat} {x:Nj} (hx:gr.ns[n]?=some x) (NU:Nat->Bool):Rg gr.ns.length (Dp NU x.op x.ks):=(Rg.nil _).or fun y hy=>by
 obtain ⟨k,hk,e⟩:=List.mem_map.1 hy;have hk2:k ∈ x.ks:=by
  split at hk
  · exact Gu NU x.ks k hk
  · exact hk
 have:=hg.kid x (aM hx) k hk2;rw [<- e];exact ⟨by omega,by omega⟩
theorem B6y {gr:Gj} (hw:WaG gr.ns gr.ws gr.ws.length) {L:List Int} (h:Rg gr.ns.length L) (mo:Nat):Rg gr.ns.length (A2g gr mo L):=by
 unfold A2g;split
 ·
  next y hy =>
  split
  · next h0=>exact h.put ⟨h0,(hw.ws y (aM hy)).2⟩
  · exact h
 · exact h
theorem B3z {gr:Gj} (hw:WaG gr.ns gr.ws gr.ws.length) {T:Nx} {nl:Nat} (hT:∀ k,k < nl->∀ y ∈ T k,0<=y/\y < (gr.ns.length:Int)) {L:List Int} (h:Rg gr.ns.length L) (n mo:Nat):Rg gr.ns.length (AX gr T nl n mo L):=by
 unfold AX;refine B6y hw ?_ mo;split
 · next h0=>exact h.or (hT n h0)
 · exact h
theorem Lr {gr:Gj} (hg:Good gr) (hw:WaG gr.ns gr.ws gr.ws.length) {T:Nx} {nl:Nat} (hT:∀ k,k < nl->∀ y ∈ T k,0<=y/\y < (gr.ns.length:Int)) (n:Nat):Rg gr.ns.length (jE gr T nl n):=by
 unfold jE;split
 · exact Rg.nil _
 ·
  next x hx =>
  have h:=VB hg hx (aZ gr);split
  · have:=jK hg (aS.1 hx).1;exact h.put ⟨by omega,by omega⟩
  split
  · exact B3z hw hT h n x.mo
  · exact h
def NxM (w:World) (no:Option Addr) (nl:Nat) (T:Nx):Prop:=∀ k,k < nl->∃ b off v,no=some ⟨b,off,none⟩/\b < w.heap.size/\w.cell? ⟨b,off + k,none⟩=some v/\aO w 0 v (T k)
theorem NxM.below {w w':World} {no:Option Addr} {nl:Nat} {T:Nx} (h:NxM w no nl T) (hb:Below w.heap.size w w'):NxM w' no nl T:=fun k hk=>by obtain ⟨b,off,v,e,hl,hc,hi⟩:=h k hk;exact ⟨b,off,v,e,aL hl hb.size,aC hc hb,hi.below hb⟩
theorem NxM.row {w:World} {q C nn:Nat} {T:Nx} {V:Nat->Value} (h1:Own w q 25 ((List.range nn).map V)) (h2:∀ k,k < nn->aO w C (V k) (T k)):NxM w (some ⟨q,0,none⟩) nn T:=fun k hk=>⟨q,0,V k,rfl,h1.lt,by rw [Nat.zero_add,h1.cell k,List.getElem?_map,List.getElem?_range hk];rfl,(h2 k hk).mono (Nat.zero_le _)⟩
theorem B1v {A:List Int} {ks:List Nat} {i k:Nat} (h:ks[i]?=some k):orL A (A7T (ks.drop i))=orL (bT A (k:Int)) (A7T (ks.drop (i + 1))):=by obtain ⟨h1,h2⟩:=aS.1 h;rw [List.drop_eq_getElem_cons h1,h2];rfl
theorem A9z {NU:Nat->Bool} {A:List Int} {ks:List Nat} {i k:Nat} (h:ks[i]?=some k):orL A (A7T (eH NU (ks.drop i)))=if NU k=true then orL (bT A (k:Int)) (A7T (eH NU (ks.drop (i + 1)))) else bT A (k:Int):=by obtain ⟨h1,h2⟩:=aS.1 h;rw [List.drop_eq_getElem_cons h1,h2];have e:eH NU (k :: ks.drop (i + 1))=if NU k=true then k :: eH NU (ks.drop (i + 1)) else [k]:=rfl;rw [e];split <;> rfl
def Yp (NU:Nat->Bool) (op:Int) (A:List Int) (r:List Nat):List Int:=orL A (A7T (if op=4 then eH NU r else r))
theorem SF {NU:Nat->Bool} {op:Int} {A:List Int} {ks:List Nat} {i k:Nat} (h:ks[i]?=some k):Yp NU op A (ks.drop i)=if op=4/\NU k=false then bT A (k:Int) else Yp NU op (bT A (k:Int)) (ks.drop (i + 1)):=by
 unfold Yp;by_cases h4:op=4
 ·
  rw [if_pos h4,if_pos h4,A9z h]
  cases hN:NU k with
  | true=>rw [if_pos rfl,if_neg (by simp)]
  | false=>rw [if_neg (by decide),if_pos ⟨h4,rfl⟩]
 · rw [if_neg h4,if_neg h4,B1v h,if_neg (fun g=>h4 g.1)]
theorem A1g {NU:Nat->Bool} {op:Int} {A:List Int}:Yp NU op A []=A:=by unfold Yp;split <;> rfl
def PuE (C:Nat) (L:List Int) (w:World) (e:Ending) (w':World):Prop:=∃ v,e=.returned v/\aO w' C v L/\Below w.heap.size w w'
theorem YL (gr:Gj) (a:Gv) (hg:Good gr) (hw:WaG gr.ns gr.ws gr.ws.length) (n:Nat) (x:Nj) (hx:gr.ns[n]?=some x) (T:Nx) (nl:Nat) (no:Option Addr) (nc:Nat) (hT:∀ k,k < nl->(∀ y ∈ T k,0<=y/\y < (gr.ns.length:Int))/\((T k).length:Int)<=1000) (L:List Int) (hL:Rg gr.ns.length L) (v:Value) (C:Nat) (w:World) (hG:dG w gr a) (hN:NxM w no nl T) (hv:aO w C v L) (hC:C<=w.heap.size) :
  Calls Tryz.prog 74 #[grv gr a,.slice no nl nc,.int .i64 (n:Int),v] w (PuE C (AX gr T nl n x.mo L) w):=by
 have hn:=(aS.1 hx).1;obtain ⟨y,hy⟩:∃ y,gr.ws[x.mo]?=some y:=⟨_,aG (hw.mo x (aM hx))⟩;have HYR:=aH (hw.ws y (aM hy));have HB1:=gB w a gr;have HO1:=gO w a gr;have HI1:=aH (hv.below HB1.o);have HL0:=aH hL;have HT0:=aH hT;have HC0:=aH hC;have HN1:=aH (hN.below HB1.o);obtain ⟨b,off,ko,kc,hno,hb,hcap,-,-,-,-,-,-,-,-,c8,-,-⟩:=(hG.below HB1.o).1 n x hx;obtain ⟨wb,woff,hwo,hwb,-,d0⟩:=(hG.below HB1.o).2.2.1 x.mo y hy;have HC8:=aH c8;have HD0:=aH d0;have HPU:=aH (fun (M:List Int) (j:Int) (hM:Rg gr.ns.length M) (u:Value) (W:World) (h:aO W C u M) (hCW:C<=W.heap.size)=>show Calls Tryz.prog 69 #[u,.int .i64 j] W (PuE C (bT M j) W) from (pJ M j (by have:=hM.len;have:=hg.len;omega) u C W h).mono (by rintro e w' ⟨v',he,hi,hb'⟩;exact ⟨v',he,hi.mono hCW,hb'⟩));obtain ⟨RES,hRES⟩:∃ z,AX gr T nl n x.mo L=z:=⟨_,rfl⟩;have HRS:=aH (show ∀ M,(if n < nl then orL L (T n) else L)=M->RES=if 0<=y then bT M y else M from fun M hM=>by rw [<- hRES];unfold AX A2g;rw [hM,hy]);have hmo:=hw.mo x (aM hx);unfold PuE;unfold PuE at HPU;rw [hRES];obtain ⟨mo,hmo2⟩:∃ z,x.mo=z:=⟨_,rfl⟩;rw [hmo2] at HC8 HD0 hmo;have hwo2:=hwo;have hno2:=hno;have hn160:=hg.len;unfold grv;obtain ⟨nn,nh,nms,nw,hnn,hnh,hnms,hnw⟩:=nG gr;rw [hnn,hnh,hnms,hnw] at HO1 HB1 HI1 HN1 HC8 HD0;rw [hnn] at hn HL0 HPU HT0 HYR hn160;rw [hnw] at hmo;rw [hnn,hnh,hnms,hnw];obtain ⟨B,hB⟩:∃ B,w.heap.size=B:=⟨_,rfl⟩;have HW1:=aH (show (w.alloc (.cells #[.slice a.mo nms a.mc,.slice a.no nn a.nc,.slice a.ho nh a.hc,.slice a.wo nw a.wc,.int .i64 gr.st] 27)).heap.size=B + 1 from by rw [<- hB];simp);have HBE:=aH hB;rw [hB] at HO1;have hn1:decide ((n:Int) < (nn:Int))=true:=aT (by omega);have hm1:decide ((mo:Int) < (nw:Int))=true:=aT (by omega);rw [hno,hwo] at HO1 HB1 HI1 HN1 HC8 HD0 HW1;rw [hno,hwo];clear hg hw hx hT hL hG hN hv hy hRES hnn hnh hnms hnw hmo2 c8 d0 hb hcap hno hwo hwb hC hno2 hwo2;go_enter Tryz.func74,Tryz.ntmps74;go_upto_region 1 with fail;generalize w.alloc (.cells #[.slice a.mo nms a.mc,.slice (some ⟨b,off,none⟩) nn a.nc,.slice a.ho nh a.hc,.slice (some ⟨wb,woff,none⟩) nw a.wc,.int .i64 gr.st] 27)=w1 at *;try rw [hB]
 clear hB;by_cases hnl:n < nl
 ·
  have hnl1:decide ((n:Int) < (nl:Int))=true:=aT (by omega);have hnl2:decide (n < nl)=true:=aT hnl;obtain ⟨tb,toff,tv,htn,htb,t0,hti⟩:=HN1.o n hnl;have hti2:=hti;obtain ⟨tq,tc,htv,htc,-⟩:=hti2;obtain ⟨m,hm⟩:∃ m,(T n).length=m:=⟨_,rfl⟩;have HM:=aH hm;have HTI:=aH hti;rw [htv] at t0 HTI;rw [hm] at t0 HTI htc;have hm1000:(m:Int)<=1000:=by rw [<- hm];exact (HT0.o n hnl).2
  have HTR:=aH (HT0.o n hnl).1;have HR0:=aH (show (if n < nl then orL L (T n) else L)=orL L ((T n).drop 0) from by rw [if_pos hnl];rfl);subst htn;clear hm htv hti;go_wp2_with fail;clear t0 htb
  go_loopw [3,21] (fun v3 v21 wr=>∃ (k:Nat) (M:List Int) (vv:Value),vv=v3/\v21=.int .i64 (k:Int)/\(k:Int)<=m/\aQ ((if n < nl then orL L (T n) else L)=orL M ((T n).drop k))/\aQ (aO wr C vv M)/\aQ (Rg nn M)/\aQ (Below w1.heap.size w1 wr)) (fun _ v21 _=>m - (intOf v21).toNat)
  case atStart=>exact ⟨0,L,v,rfl,rfl,by omega,HR0,HI1,HL0,aH (Below.refl _ _)⟩
  case round =>
   obtain ⟨k,M,vv,rfl,rfl,hk,HR,HI,HLM,HB⟩:=hrel;by_cases hkm:(k:Int) < m
   ·
    have hk1:decide ((k:Int) < (m:Int))=true:=aT hkm;have hk2:decide (k < m)=true:=aT (by omega);have hw1:IntKind.i64.wrap ((k:Int) + 1)=(k:Int) + 1:=wI;obtain ⟨z,hz⟩:∃ z,(T n)[k]?=some z:=⟨_,aG (by have:=HM.o;omega)⟩;have HST:=aH (HR.o.trans (JM (a:=M) hz));have HZR:=aH (HTR.o z (aM hz));have hII:=HTI.o.below HB.o;obtain ⟨g,goff,hgo,hgl,c0⟩:∃ g goff,tq=some ⟨g,goff,none⟩/\g < wr.heap.size/\wr.cell? ⟨g,goff + k,none⟩=some (.int .i64 z):=(by obtain ⟨ao1,c1,e1,-,hf⟩:=hII;injection e1 with e1 e2 e3;obtain ⟨g,off,e,h1,-,h3⟩:=hf k (by have:=HM.o;omega);refine ⟨g,off,e1.trans e,h1,?_⟩;rw [h3,List.getD_eq_getElem?_getD,hz];rfl);subst hgo;have HPW:=aH (HPU.o M z HLM.o vv wr HI.o (Nat.le_trans HC0.o (Nat.le_trans HB1.o.size HB.o.size)));clear hz hII;go_wp2_with fail;refine HPW.o.mono ?_;rintro e w5 ⟨v5,he,hI5,hb5⟩;subst he;have HI5:=aH hI5;have HB5:=aH (aD HB.o hb5);have HL5:=aH (HLM.o.put HZR.o);clear hI5 hb5 hgl c0 HPW;go_wp2
    go_roundw
    case rel=>exact ⟨k + 1,_,_,rfl,by go_num,by omega,HST,HI5,HL5,HB5⟩
    case measure=>simp [intOf];omega
   ·
    have hk1:decide ((k:Int) < (m:Int))=false:=aF hkm;have hk2:decide (k < m)=false:=aF (by omega);have HRE:=aH (show RES=if 0<=y then bT M y else M from HRS.o M (by rw [HR.o,List.drop_of_length_le (by have:=HM.o;omega)];rfl));have hOX:=HO1.o.under HB.o HO1.o.lt;have g1:wr.cell? ⟨B,1,none⟩=some (.slice (some ⟨b,off,none⟩) nn a.nc):=hOX.cell 1;have g3:wr.cell? ⟨B,3,none⟩=some (.slice (some ⟨wb,woff,none⟩) nw a.wc):=hOX.cell 3;have gl:=hOX.lt;have c8:=aC HC8.o HB.o;have d0:=aC HD0.o HB.o;have cl:=World.block_lt_of_cell? wr _ c8;have dl:=World.block_lt_of_cell? wr _ d0;have HWQ:=aH (fun nq=>below_drewN (Below.refl wr.heap.size wr) nq);clear hOX;go_upto_region 7 with fail;go_quiet (fail);clear g1 g3 gl c8 d0 cl dl;by_cases hy0:0<=y
    · have hy1:decide (0<=y)=true:=aT hy0;have HRF:=aH (show RES=bT M y from by rw [HRE.o,if_pos hy0]);have HPW:=aH (HPU.o M y HLM.o vv (wr.drewN nq) (aO.below HI.o (HWQ.o nq)) (Nat.le_trans HC0.o (Nat.le_trans HB1.o.size (Nat.le_trans (HB.o).size (HWQ.o nq).size))));go_wp2_with fail;refine HPW.o.mono ?_;rintro e w5 ⟨v5,he,hI5,hb5⟩;subst he;have HI5:=aH hI5;have HB5:=aH (HB1.o.trans (((HB.o).trans ((HWQ.o nq).trans (hb5.mono (HWQ.o nq).size) |>.mono (HB.o).size)).mono HB1.o.size));clear hI5 hb5;go_wp2;go_ret;rw [HRF.o];exact ⟨_,rfl,HI5.o,HB5.o⟩
    · have hy1:decide (0<=y)=false:=aF hy0;have HRF:=aH (show RES=M from by rw [HRE.o,if_neg hy0]);have HI5:=aH (aO.below HI.o (HWQ.o nq));have HB5:=aH (HB1.o.trans (((HB.o).trans ((HWQ.o nq).mono (HB.o).size)).mono HB1.o.size));go_wp2;go_ret;rw [HRF.o];exact ⟨_,rfl,HI5.o,HB5.o⟩
 ·
  have hnl1:decide ((n:Int) < (nl:Int))=false:=aF (by omega);have hnl2:decide (n < nl)=false:=aF hnl;have HRE:=aH (show RES=if 0<=y then bT L y else L from HRS.o L (if_neg hnl));have HZZ:=aH (Below.refl w1.heap.size w1);have hOX:=HO1.o.under HZZ.o HO1.o.lt;have g1:w1.cell? ⟨B,1,none⟩=some (.slice (some ⟨b,off,none⟩) nn a.nc):=hOX.cell 1;have g3:w1.cell? ⟨B,3,none⟩=some (.slice (some ⟨wb,woff,none⟩) nw a.wc):=hOX.cell 3;have gl:=hOX.lt;have c8:=aC HC8.o HZZ.o;have d0:=aC HD0.o HZZ.o;have cl:=World.block_lt_of_cell? w1 _ c8;have dl:=World.block_lt_of_cell? w1 _ d0;have HWQ:=aH (fun nq=>below_drewN (Below.refl w1.heap.size w1) nq);clear hOX;go_upto_region 7 with fail;go_quiet (fail);clear g1 g3 gl c8 d0 cl dl;by_cases hy0:0<=y
  · have hy1:decide (0<=y)=true:=aT hy0;have HRF:=aH (show RES=bT L y from by rw [HRE.o,if_pos hy0]);have HPW:=aH (HPU.o L y HL0.o v (w1.drewN nq) (aO.below HI1.o (HWQ.o nq)) (Nat.le_trans HC0.o (Nat.le_trans HB1.o.size (Nat.le_trans (HZZ.o).size (HWQ.o nq).size))));go_wp2_with fail;refine HPW.o.mono ?_;rintro e w5 ⟨v5,he,hI5,hb5⟩;subst he;have HI5:=aH hI5;have HB5:=aH (HB1.o.trans (((HZZ.o).trans ((HWQ.o nq).trans (hb5.mono (HWQ.o nq).size) |>.mono (HZZ.o).size)).mono HB1.o.size));clear hI5 hb5;go_wp2;go_ret;rw [HRF.o];exact ⟨_,rfl,HI5.o,HB5.o⟩
  · have hy1:decide (0<=y)=false:=aF hy0;have HRF:=aH (show RES=L from by rw [HRE.o,if_neg hy0]);have HI5:=aH (aO.below HI1.o (HWQ.o nq));have HB5:=aH (HB1.o.trans (((HZZ.o).trans ((HWQ.o nq).mono (HZZ.o).size)).mono HB1.o.size));go_wp2;go_ret;rw [HRF.o];exact ⟨_,rfl,HI5.o,HB5.o⟩
theorem ER (gr:Gj) (a:Gv) (hg:Good gr) (hw:WaG gr.ns gr.ws gr.ws.length) (n:Nat) (hn:n < gr.ns.length) (T:Nx) (nl:Nat) (no:Option Addr) (nc:Nat) (hT:∀ k,k < nl->(∀ y ∈ T k,0<=y/\y < (gr.ns.length:Int))/\((T k).length:Int)<=1000) (u:Nat) (w:World) (hG:dG w gr a) (hu:Own w u 4 (bZ (aZ gr) gr.ns.length)) (hN:NxM w no nl T) :
  Calls Tryz.prog 50 #[grv gr a,.slice (some ⟨u,0,none⟩) gr.ns.length gr.ns.length,.slice no nl nc,.int .i64 (n:Int)] w (PuE w.heap.size (jE gr T nl n) w):=by
 obtain ⟨x,hx⟩:∃ x,gr.ns[n]?=some x:=⟨_,aG hn⟩;have hxm:=aM hx;have HKID:=aH (hg.kid x hxm);have HNN:=aH hn;have HB1:=gB w a gr;have HO1:=gO w a gr;have HG1:=aH (hG.below HB1.o);have HU1:=aH (hu.under HB1.o hu.lt);have HN1:=aH (hN.below HB1.o);have HPU:=aH (fun (M:List Int) (j:Int) (hM:Rg gr.ns.length M) (u:Value) (W:World) (h:aO W w.heap.size u M) (hCW:w.heap.size<=W.heap.size)=>show Calls Tryz.prog 69 #[u,.int .i64 j] W (PuE w.heap.size (bT M j) W) from (pJ M j (by have:=hM.len;have:=hg.len;omega) u w.heap.size W h).mono (by rintro e w' ⟨v',he,hi,hb'⟩;exact ⟨v',he,hi.mono hCW,hb'⟩));have HBO:=aH (fun W h=>pU gr a hg n hn W h);have HBL:=aH (jK hg hn);have HBS:=aH (fun M (hM:Rg gr.ns.length M) v W h1 h2 h3 h4=>YL gr a hg hw n x hx T nl no nc hT M hM v w.heap.size W h1 h2 h3 h4);have HFR:=aH (VB hg hx (aZ gr));have hkl:=hg.kl x hxm;obtain ⟨RES,hRES⟩:∃ z,jE gr T nl n=z:=⟨_,rfl⟩;have HRS:=aH (show RES=if x.op=11 then bT (Dp (aZ gr) x.op x.ks) (bY gr n:Int) else if x.op=13 then AX gr T nl n x.mo (Dp (aZ gr) x.op x.ks) else Dp (aZ gr) x.op x.ks from by rw [<- hRES];unfold jE;rw [hx]);obtain ⟨FR,hFR⟩:∃ z,Dp (aZ gr) x.op x.ks=z:=⟨_,rfl⟩;have HF0:=aH (show FR=Yp (aZ gr) x.op [] (x.ks.drop 0) from by rw [<- hFR];rfl);rw [hFR] at HRS HFR;rw [hRES];unfold PuE;unfold PuE at HPU HBS;unfold grv at HBO HBS;unfold grv;obtain ⟨b,off,ko,kc,hno,hb,hcap,c0,c1,c2,c3,c4,c5,c6,c7,c8,c9,hkk⟩:=HG1.o.1 n x hx;have HKK:=aH hkk;obtain ⟨nn,nh,nms,nw,hnn,hnh,hnms,hnw⟩:=nG gr;have HLN:=aH hnn;have hn160:=hg.len;obtain ⟨nk,hnk⟩:∃ z,x.ks.length=z:=⟨_,rfl⟩;have HNK:=aH hnk;obtain ⟨op,hop⟩:∃ z,x.op=z:=⟨_,rfl⟩;have hkc:=hcap.2;rw [hnk] at c6 hkl hkc;rw [hop] at c0 HRS HF0;rw [hnn] at hn HFR HPU hn160 HU1;rw [hnn,hnh,hnms,hnw] at HO1 HB1 HBO HBS;rw [hnh,hnms,hnw] at HU1;rw [hnn,hnh,hnms,hnw] at HG1 HN1 c0 c1 c2 c3 c4 c5 c6 c7 c8 c9 HKK hb;rw [hnn,hnh,hnms,hnw];have hn1:decide ((n:Int) < (nn:Int))=true:=aT (by omega);rw [hno] at HO1 HB1 HG1 HU1 HN1 c0 c1 c2 c3 c4 c5 c6 c7 c8 c9 HKK hb HBO HBS;rw [hno];obtain ⟨B,hB⟩:∃ B,w.heap.size=B:=⟨_,rfl⟩;have HBE:=aH hB;have HW1:=aH (show (w.alloc (.cells #[.slice a.mo nms a.mc,.slice (some ⟨b,off,none⟩) nn a.nc,.slice a.ho nh a.hc,.slice a.wo nw a.wc,.int .i64 gr.st] 27)).heap.size=B + 1 from by rw [<- hB];simp);rw [hB] at HO1 HPU HBS;clear hg hw hx hxm hT hG hu hN hRES hFR hnn hnh hnms hnw hnk hop hcap hkk hno;go_enter Tryz.func50,Tryz.ntmps50;go_upto_region 1 with fail;generalize w.alloc (.cells #[.slice a.mo nms a.mc,.slice (some ⟨b,off,none⟩) nn a.nc,.slice a.ho nh a.hc,.slice a.wo nw a.wc,.int .i64 gr.st] 27)=w1 at *;try rw [hB]
 clear hB;have HB2:=aH (show Below w1.heap.size w1 (w1.alloc (.cells #[.int .i64 op,.string x.tx,.int .u64 x.s0,.int .u64 x.s1,.int .u64 x.s2,.int .u64 x.s3,.slice ko nk kc,.int .i64 x.tg,.int .i64 (x.mo:Int),.int .i64 x.ru] 45)) from bA _);have HO2:=aH (Own.fresh w1 45 [.int .i64 op,.string x.tx,.int .u64 x.s0,.int .u64 x.s1,.int .u64 x.s2,.int .u64 x.s3,.slice ko nk kc,.int .i64 x.tg,.int .i64 (x.mo:Int),.int .i64 x.ru]);have g1:w1.cell? ⟨B,1,none⟩=some (.slice (some ⟨b,off,none⟩) nn a.nc):=HO1.o.cell 1;have gl:=HO1.o.lt;go_upto_region 2 with fail;clear c0 c1 c2 c3 c4 c5 c6 c7 c8 c9 hb g1 gl;obtain ⟨X,hX⟩:∃ z,w1.heap.size=z:=⟨_,rfl⟩;have HXE:=aH hX;rw [hX] at HO2;generalize w1.alloc (.cells #[.int .i64 op,.string x.tx,.int .u64 x.s0,.int .u64 x.s1,.int .u64 x.s2,.int .u64 x.s3,.slice ko nk kc,.int .i64 x.tg,.int .i64 (x.mo:Int),.int .i64 x.ru] 45)=w2 at *;try rw [hX]
 clear hX;have HG2:=aH (HG1.o.below HB2.o);have HU2:=aH (HU1.o.under HB2.o HU1.o.lt);have HN2:=aH (HN1.o.below HB2.o);have HOG:=aH (HO1.o.under HB2.o HO1.o.lt);have HK2:=aH (HKK.o.below HB2.o);have HBW:=aH (HB1.o.trans (HB2.o.mono HB1.o.size));have HSZ:=aH (show B<=w2.heap.size from by have:=HB2.o.size;have:=HW1.o;have:=HOG.o.lt;omega);clear HG1 HU1 HN1 HO1 HKK HB2;have hkc2:(nk:Int)<=kc:=by omega
 have y6:w2.cell? ⟨X,6,none⟩=some (.slice ko nk kc):=HO2.o.cell 6;have yl:=HO2.o.lt
 go_upto_block 0 with fail
 clear y6 yl
 go_cut [10] (fun s10 wx=>∃ vv:Value,vv=s10/\aQ (aO wx B vv FR)/\aQ (Below w2.heap.size w2 wx))
 case first =>
  go_wp2_with fail
  go_loopw [10,21] (fun v10 v21 wr=>∃ (i:Nat) (M:List Int) (vv:Value),vv=v10/\v21=.int .i64 (i:Int)/\(i:Int)<=nk/\aQ (FR=Yp (aZ gr) op M (x.ks.drop i))/\aQ (aO wr B vv M)/\aQ (Rg nn M)/\aQ (Below w2.heap.size w2 wr)) (fun _ v21 _=>nk - (intOf v21).toNat)
  case atStart=>exact ⟨0,[],_,rfl,rfl,by omega,HF0,aH (aO.nil _ _),aH (Rg.nil _),aH (Below.refl _ _)⟩
  case round =>
   obtain ⟨i,M,vv,rfl,rfl,hi,HF,HI,HLM,HB⟩:=hrel;by_cases hin:(i:Int) < nk
   ·
    have hi1:decide ((i:Int) < (nk:Int))=true:=aT hin;have hi2:decide (i < nk)=true:=aT (by omega);have hw1:IntKind.i64.wrap ((i:Int) + 1)=(i:Int) + 1:=wI;obtain ⟨k,hk⟩:∃ z,x.ks[i]?=some z:=⟨_,aG (by have:=HNK.o;omega)⟩;have hkn0:k < gr.ns.length:=HKID.o k (aM hk);have HKN:=aH hkn0;have hkn:k < nn:=(by rw [<- HLN.o];exact hkn0);have hk1:decide ((k:Int) < (nn:Int))=true:=aT (by omega);have hk2:decide (k < nn)=true:=aT hkn;have HST:=aH (HF.o.trans (SF hk));obtain ⟨kb,koff,hko,-,-,q2⟩:=HK2.o i k hk;have q0:=aC q2 HB.o;have kbl:=World.block_lt_of_cell? wr _ q0;subst hko;have HPW:=aH (HPU.o M (k:Int) HLM.o vv wr HI.o (Nat.le_trans HSZ.o HB.o.size));clear hk hkn0 q2;go_wp2_with fail;refine HPW.o.mono ?_;rintro e w5 ⟨v5,he,hI5,hb5⟩;subst he;have HI5:=aH hI5;have HB5:=aH (aD HB.o hb5);have HL5:=aH (HLM.o.put (y:=(k:Int)) ⟨by omega,by omega⟩);clear hI5 hb5 q0 kbl HPW;have hOX:=HO2.o.under HB5.o HO2.o.lt;have y0:w5.cell? ⟨X,0,none⟩=some (.int .i64 op):=hOX.cell 0;have yl:=hOX.lt;have hUX:=HU2.o.under HB5.o HU2.o.lt;have u0:w5.cell? ⟨u,k,none⟩=some (.bool (aZ gr k)):=(hUX.cell k).trans (bH _ _ k hkn);have ul:=hUX.lt;obtain ⟨nb,hnb⟩:∃ z,aZ gr k=z:=⟨_,rfl⟩;rw [hnb] at u0 HST;clear hnb hOX hUX;by_cases h4:op=4
    ·
     subst h4
     cases nb with
     | true =>
      have HSN:=aH (show FR=Yp (aZ gr) 4 (bT M (k:Int)) (x.ks.drop (i + 1)) from by rw [HST.o,if_neg (by simp)]);go_wp2
      go_roundw
      case rel=>exact ⟨i + 1,_,_,rfl,by go_num,by omega,HSN,HI5,HL5,HB5⟩
      case measure=>simp [intOf];omega
     | false =>
      have HSN:=aH (show FR=bT M (k:Int) from by rw [HST.o,if_pos ⟨rfl,rfl⟩]);go_wp2_with fail
      go_meet
      rw [HSN.o];exact ⟨_,rfl,HI5,HB5⟩
    ·
     have h4b:(op == 4)=false:=aN.2 h4;have h4d:decide (op=4)=false:=aF h4;have HSN:=aH (show FR=Yp (aZ gr) op (bT M (k:Int)) (x.ks.drop (i + 1)) from by rw [HST.o,if_neg (fun g=>h4 g.1)]);go_wp2
     go_roundw
     case rel=>exact ⟨i + 1,_,_,rfl,by go_num,by omega,HSN,HI5,HL5,HB5⟩
     case measure=>simp [intOf];omega
   ·
    have hi1:decide ((i:Int) < (nk:Int))=false:=aF hin;have hi2:decide (i < nk)=false:=aF (by omega);have HSN:=aH (show FR=M from by rw [HF.o,List.drop_of_length_le (by have:=HNK.o;omega),A1g]);go_wp2_with fail
    go_meet
    rw [HSN.o];exact ⟨_,rfl,HI,HB⟩
 case rest =>
 obtain ⟨vv,rfl,HI,HB⟩:=hcut;obtain ⟨w3,hw3⟩:∃ z,z=wc:=⟨_,rfl⟩;subst hw3;have HG3:=aH (HG2.o.below HB.o);have HN3:=aH (HN2.o.below HB.o);have HB3:=aH (HBW.o.trans (HB.o.mono HBW.o.size));have HSB:=aH (Nat.le_trans HSZ.o HB.o.size);have hOX:=HO2.o.under HB.o HO2.o.lt;have y0:w3.cell? ⟨X,0,none⟩=some (.int .i64 op):=hOX.cell 0;have yl:=hOX.lt;have hOB:=HOG.o.under HB.o HOG.o.lt;have g0:w3.cell? ⟨B,0,none⟩=some (.slice a.mo nms a.mc):=hOB.cell 0;have g1:w3.cell? ⟨B,1,none⟩=some (.slice (some ⟨b,off,none⟩) nn a.nc):=hOB.cell 1;have g2:w3.cell? ⟨B,2,none⟩=some (.slice a.ho nh a.hc):=hOB.cell 2;have g3:w3.cell? ⟨B,3,none⟩=some (.slice a.wo nw a.wc):=hOB.cell 3;have g4:w3.cell? ⟨B,4,none⟩=some (.int .i64 gr.st):=hOB.cell 4;have gl:=hOB.lt;have HOX:=aH hOX;clear hOX hOB;by_cases h11:op=11
 · subst h11;have HE:=aH (show RES=bT FR (bY gr n:Int) from by rw [HRS.o,if_pos rfl]);obtain ⟨bg,hbg⟩:∃ z,bY gr n=z:=⟨_,rfl⟩;rw [hbg] at HBO HE HBL;have HC:=aH (HBO.o w3 HG3.o);clear hbg;go_wp2_with fail;refine HC.o.mono ?_;rintro e w4 ⟨he,hb4⟩;subst he;have HPW:=aH (HPU.o FR (bg:Int) HFR.o vv w4 (HI.o.below hb4) (Nat.le_trans HSB.o hb4.size));have HB4:=aH (HB3.o.trans (hb4.mono HB3.o.size));have hOX:=HOX.o.under hb4 HOX.o.lt;have HOX4:=aH hOX;clear hb4 hOX y0 yl g0 g1 g2 g3 g4 gl HC;go_wp2_with fail;refine HPW.o.mono ?_;rintro e w5 ⟨v5,he,hI5,hb5⟩;subst he;have hOX:=HOX4.o.under hb5 HOX4.o.lt;have y0:w5.cell? ⟨X,0,none⟩=some (.int .i64 11):=hOX.cell 0;have yl:=hOX.lt;have HI5:=aH hI5;have HB5:=aH (HB4.o.trans (hb5.mono HB4.o.size));clear hI5 hb5 HPW hOX;go_wp2;go_ret;rw [HE.o];exact ⟨_,rfl,by rw [HBE.o];exact HI5.o,HB5.o⟩
 ·
  have h11b:(op == 11)=false:=aN.2 h11;have h11d:decide (op=11)=false:=aF h11;by_cases h13:op=13
  · subst h13;have HE:=aH (show RES=AX gr T nl n x.mo FR from by rw [HRS.o,if_neg (by decide),if_pos rfl]);have HC:=aH (HBS.o FR HFR.o vv w3 HG3.o HN3.o HI.o HSB.o);go_wp2_with fail;refine HC.o.mono ?_;rintro e w5 ⟨v5,he,hI5,hb5⟩;subst he;have HI5:=aH hI5;have HB5:=aH (HB3.o.trans (hb5.mono HB3.o.size));clear hI5 hb5 HC y0 yl g0 g1 g2 g3 g4 gl;go_wp2;go_ret;rw [HE.o];exact ⟨_,rfl,by rw [HBE.o];exact HI5.o,HB5.o⟩
  · have h13b:(op == 13)=false:=aN.2 h13;have h13d:decide (op=13)=false:=aF h13;have HE:=aH (show RES=FR from by rw [HRS.o,if_neg h11,if_neg h13]);go_wp2;go_ret;rw [HE.o];exact ⟨_,rfl,by rw [HBE.o];exact HI.o,HB3.o⟩
abbrev Rcs:=(Nat->Bool) × List Int
def rcK (to1:Int):List Int->Rcs->Option Rcs
 | [],s=>some s
 | k :: r,s=>if k=to1 then none else if s.1 k.toNat=true then rcK to1 r s else rcK to1 r (dC s.1 k.toNat,s.2 ++ [k])
def rcF (CL:Nx) (to1:Int):Nat->Rcs->Bool
 | 0,_=>false
 | f + 1,s=>if s.2=[] then false else match rcK to1 (CL (s.2.getLastD 0).toNat) (s.1,s.2.dropLast) with
  | none=>true
  | some s'=>rcF CL to1 f s'
def Yk (CL:Nx) (N:Nat) (a b:Int):Bool:=rcF CL b (N + 1) (fun _=>false,[a])
def Tc (CL:Nx) (N:Nat):Nat->Nat->Int
 | 0,_=>-1
 | c + 1,n=>if Yk CL N n n=true then (n:Int) else Tc CL N c (n + 1)
def Au (CL:Nx) (N:Nat):Int:=Tc CL N N 0
theorem B2b {to1:Int} {L:List Int} {i:Nat} {k:Int} (h:L[i]?=some k) (s:Rcs):rcK to1 (L.drop i) s=if k=to1 then none else if s.1 k.toNat=true then rcK to1 (L.drop (i + 1)) s else rcK to1 (L.drop (i + 1)) (dC s.1 k.toNat,s.2 ++ [k]):=by obtain ⟨h1,h2⟩:=aS.1 h;rw [List.drop_eq_getElem_cons h1,h2];rfl
theorem He {M:Nat->Bool} {k N:Nat} (hk:k < N) (hm:M k=false):bF (dC M k) N + 1<=bF M N:=Hg hk hm (Nat.lt_succ_self _)
theorem Zg (L:List Int) (h:L ≠ []):∃ L0 z,L=L0 ++ [z]/\L.dropLast=L0/\L.getLastD 0=z:=by
 have e:L.dropLast ++ [L.getLast h]=L:=List.dropLast_concat_getLast h;refine ⟨L.dropLast,L.getLast h,e.symm,rfl,?_⟩
 conv=>lhs;rw [<- e]
 simp
theorem Win.head {S:Nat->Prop} {e:TypeId} {w:World} {ao:Option Addr} {n cap q:Nat} {xs:List Value} (h:Win S e 1 w (.slice ao n cap) n xs) (hq:q<=n) (hn:0 < n):Win S e 1 w (.slice ao q cap) q (xs.take q):=by
 obtain ⟨hl,h | ⟨g,off,cap',cur,ev,hS,hh,hnc,hcm,hsz,ht⟩⟩:=h
 · omega
 ·
  injection ev with e1 e2 e3;subst e1 e3;refine ⟨by rw [List.length_take,hl];omega,.inr ⟨g,off,cap,cur,rfl,hS,hh,by omega,hcm,hsz,?_⟩⟩;rw [<- ht,List.take_take]
  congr 1
  omega
theorem A1c (CL:Nx) (N:Nat) (hN160:N<=160) (hCL:∀ k,k < N->(∀ y ∈ CL k,0<=y/\y < (N:Int))/\((CL k).length:Int)<=1000) (co:Option Addr) (cc:Nat) (n:Nat) (hn:n < N) (to1:Int) (w:World) (hC:NxM w co N CL) :
  Calls Tryz.prog 51 #[.slice co N cc,.int .i64 (n:Int),.int .i64 to1] w fun e w'=>e=.returned (.bool (Yk CL N n to1))/\Below w.heap.size w w':=by
 have HC0:=aH hC;have HCL:=aH hCL;obtain ⟨RES,hRES⟩:∃ z,Yk CL N n to1=z:=⟨_,rfl⟩;have HR0:=aH (show RES=rcF CL to1 (N + 1) (fun _=>false,[(n:Int)]) from by rw [<- hRES];rfl);rw [hRES];have hmk:∀ W:World,(Instr.makeSlice 39 (.int .i64 (N:Int)) (.int .i64 (N:Int))).run Tryz.prog W=.ok (.slice (some ⟨W.heap.size,0,none⟩) N N) (W.alloc (.cells (Array.replicate N (Value.bool false)) 4)):=fun W=>mY N (by omega) W;have HLN:=aH hn;obtain ⟨B,hB⟩:∃ B,w.heap.size=B:=⟨_,rfl⟩;have HBE:=aH hB;have hb1:Below w.heap.size w (w.alloc (.cells (Array.replicate N (Value.bool false)) 4)):=bA _;have ho1:Own (w.alloc (.cells (Array.replicate N (Value.bool false)) 4)) B 4 (bZ (fun _=>false) N):=by
  have e:bZ (fun _=>false) N=List.replicate N (Value.bool false):=by unfold bZ;rw [List.map_const',List.length_range]
  rw [e,<- hB,<- List.toArray_replicate];exact Own.fresh w 4 _
 have hs1:(w.alloc (.cells (Array.replicate N (Value.bool false)) 4)).heap.size=B + 1:=by rw [<- hB];simp
 have HB1:=aH hb1;have HO1:=aH ho1;have HS1:=aH hs1;clear hC hCL hRES hb1 ho1 hs1;go_enter Tryz.func51,Tryz.ntmps51;go_upto_region 2 with fail;clear hmk;generalize w.alloc (.cells (Array.replicate N (Value.bool false)) 4)=w1 at *;try rw [hB]
 clear hB;have hb2:Below w1.heap.size w1 (w1.alloc (.cells #[.int .i64 (n:Int)] 3)):=bA _;have HB2:=aH (HB1.o.trans (hb2.mono HB1.o.size));have HO2:=aH (HO1.o.under hb2 HO1.o.lt);have ho3:=Own.fresh w1 3 [.int .i64 (n:Int)];have HWN:=aH (show Win (fun b=>B + 1<=b) 3 1 (w1.alloc (.cells #[.int .i64 (n:Int)] 3)) (.slice (some ⟨w1.heap.size,0,none⟩) 1 1) [(n:Int)].length ([(n:Int)].map (Value.int .i64)) from (Win.one ho3 rfl).mono (fun b _ e=>by have e:b=w1.heap.size:=e;have:=HS1.o;omega))
 go_upto_block 0 with fail
 try rw [HS1.o]
 try rw [HS1.o] at HWN
 generalize w1.alloc (.cells #[.int .i64 (n:Int)] 3)=w2 at *;clear hb2 ho3;go_wp2_with fail
 go_loopg [8] (N + 1) (fun f v8 wr=>∃ (s:Rcs) (vv:Value),vv=v8/\aQ (RES=rcF CL to1 f s)/\aQ (bF s.1 N + s.2.length<=f)/\aQ (bF s.1 N + s.2.length<=N + 1)/\aQ (∀ y ∈ s.2,0<=y/\y < (N:Int))/\aQ (Own wr B 4 (bZ s.1 N))/\aQ (Win (fun b=>B + 1<=b) 3 1 wr vv s.2.length (s.2.map (Value.int .i64)))/\aQ (Below w.heap.size w wr))
 case atStart=>exact ⟨(fun _=>false,[(n:Int)]),_,rfl,HR0,aH (by have:=iQ (fun _=>false) N;show bF (fun _=>false) N + 1<=N + 1;omega),aH (by have:=iQ (fun _=>false) N;show bF (fun _=>false) N + 1<=N + 1;omega),aH (fun y hy=>by rw [List.mem_singleton.1 hy];have:=HLN.o;omega),HO2,HWN,HB2⟩
 case round =>
  obtain ⟨s,vv,rfl,HR,HF,HFN,HY,HM,HW,HB⟩:=hrel;obtain ⟨wo,hwo⟩:∃ z,z=wr:=⟨_,rfl⟩;subst hwo;obtain ⟨M,L⟩:=s;clear HO2 HWN HB2;obtain ⟨mm,hmm⟩:∃ m,L.length=m:=⟨_,rfl⟩;have HMM:=aH hmm;have HW1:=aH (show Win (fun b=>B + 1<=b) 3 1 wo vv mm (L.map (Value.int .i64)) from by rw [<- hmm];exact HW.o);clear hmm HW;obtain ⟨ao,cap,hvv,hmc,-,hcl⟩:=HW1.o.form;subst hvv;have HCX:=aH hcl;clear hcl;by_cases h0:mm=0
  ·
   subst h0
   have HE:=aH (show RES=false from by
    have hL:L=[]:=List.eq_nil_of_length_eq_zero HMM.o;rw [HR.o,hL]
    cases gk with
    | zero=>rfl
    | succ f=>show (if ([]:List Int)=[] then false else _)=false;rw [if_pos rfl])
   go_wp2;go_ret;rw [HE.o];exact ⟨rfl,HB.o⟩
  ·
   obtain ⟨f,rfl⟩:∃ f,gk=f + 1:=⟨gk - 1,by have:bF M N + L.length<=gk:=HF.o;have:=HMM.o;omega⟩;have hLn:L ≠ []:=fun e=>h0 (by rw [<- HMM.o,e];rfl);obtain ⟨L0,z,hL,hdl,hgl⟩:=Zg L hLn;obtain ⟨q,hq⟩:∃ q,L0.length=q:=⟨_,rfl⟩;have hmq:mm=q + 1:=(by rw [<- HMM.o,hL,List.length_append,hq];rfl);obtain ⟨zn,hzn⟩:∃ k:Nat,z=(k:Int):=⟨z.toNat,by have:=(HY.o z (by show z ∈ L;rw [hL];simp)).1;omega⟩;have hzN:zn < N:=by have:=(HY.o z (by show z ∈ L;rw [hL];simp)).2;omega
   have HRC:=aH (show RES=match rcK to1 (CL zn) (M,L0) with | none=>true | some s'=>rcF CL to1 f s' from by
    rw [HR.o];show (if L=[] then false else match rcK to1 (CL (L.getLastD 0).toNat) (M,L.dropLast) with | none=>true | some s'=>rcF CL to1 f s')=_
    rw [if_neg hLn,hgl,hdl,hzn,Int.toNat_natCast])
   have HY0:=aH (show ∀ y ∈ L0,0<=y/\y < (N:Int) from fun y hy=>HY.o y (by show y ∈ L;rw [hL];simp [hy]));have HF0:=aH (show bF M N + L0.length<=f from by have h1:bF M N + L.length<=f + 1:=HF.o;rw [hL,List.length_append] at h1;have:([z]:List Int).length=1:=rfl;omega);obtain ⟨wb,woff,hao,hS,hwbl,hwc,-⟩:=HCX.o q (by omega);have hcz:wo.cell? ⟨wb,woff + q,none⟩=some (.int .i64 (zn:Int)):=by rw [hwc,List.getElem?_map,hL,List.getElem?_append_right (by omega),hq,Nat.sub_self,hzn];rfl
   have HW2:=aH (show Win (fun b=>B + 1<=b) 3 1 wo (.slice ao q cap) q (L0.map (Value.int .i64)) from by
    have h:=HW1.o.head (q:=q) (by omega) (by omega);have e:(L.map (Value.int .i64)).take q=L0.map (Value.int .i64):=(by rw [<- List.map_take,hL,List.take_left' hq]);rw [e] at h
    exact h)
   have hmm0:(0:Int) < (mm:Int):=(by omega);have hsub:((mm:Int) - 1)=(q:Int):=(by omega);have HF1:=aH (show bF M N + L0.length<=N + 1 from by have h1:bF M N + L.length<=N + 1:=HFN.o;rw [hL,List.length_append] at h1;omega);have hq1000:q<=1000:=(by have:=HF1.o;rw [hq] at this;omega);have hw0:IntKind.i64.wrap ((mm:Int) - 1)=(q:Int):=(by rw [hsub,IntKind.wrap_i64];omega);have hqm:(q:Int) < (mm:Int):=(by omega);have hqm2:q < mm:=(by omega);have hqc:(q:Int)<=(cap:Int):=(by omega);have hqc2:q<=cap:=(by omega);have hz1:decide ((zn:Int) < (N:Int))=true:=aT (by omega);have hz2:decide (zn < N)=true:=aT hzN;obtain ⟨cb,coff,cv,hco,hcb,cv0,hci⟩:=HC0.o zn hzN;have cv0:=aC cv0 HB.o;have hcb:cb < wo.heap.size:=aL hcb HB.o.size;obtain ⟨io,ic,hiv,hic,-⟩:=id hci;obtain ⟨li,hli⟩:∃ m,(CL zn).length=m:=⟨_,rfl⟩;have HLI:=aH hli;have HCI:=aH hci;rw [hiv] at cv0 HCI;rw [hli] at cv0 HCI hic;have hl1000:(li:Int)<=1000:=(by rw [<- hli];exact (HCL.o zn hzN).2);have HCR:=aH (HCL.o zn hzN).1;subst hao;subst hco;have HLQ:=aH hq;clear hli hiv hci hL hdl hgl hq hzn hwc hLn HR HF HFN HY HW1 HCX HMM hS hsub hq1000 hmq;go_wp2_with fail;clear hcz hwbl cv0 hcb hw0 hqm hqm2 hqc hqc2 hmm0 h0 hmc
   go_loopw [8,36] (fun v8 v36 wx=>∃ (i:Nat) (s:Rcs) (vv:Value),vv=v8/\v36=.int .i64 (i:Int)/\(i:Int)<=li/\aQ (rcK to1 (CL zn) (M,L0)=rcK to1 ((CL zn).drop i) s)/\aQ (bF s.1 N + s.2.length<=f)/\aQ (bF s.1 N + s.2.length<=N + 1)/\aQ (∀ y ∈ s.2,0<=y/\y < (N:Int))/\aQ (Own wx B 4 (bZ s.1 N))/\aQ (Win (fun b=>B + 1<=b) 3 1 wx vv s.2.length (s.2.map (Value.int .i64)))/\aQ (Below w.heap.size w wx)) (fun _ v36 _=>li - (intOf v36).toNat)
   case atStart=>exact ⟨0,(M,L0),_,rfl,rfl,by omega,aH rfl,HF0,HF1,HY0,HM,aH (by rw [HLQ.o];exact HW2.o),HB⟩
   case round =>
    obtain ⟨i,s,vv,rfl,rfl,hi,HK,HF,HFN,HY,HMx,HWx,HBx⟩:=hrel;obtain ⟨M1,L1⟩:=s;by_cases hil:(i:Int) < li
    ·
     have hi1:decide ((i:Int) < (li:Int))=true:=aT hil;have hi2:decide (i < li)=true:=aT (by omega);have hw1:IntKind.i64.wrap ((i:Int) + 1)=(i:Int) + 1:=wI;obtain ⟨k,hk⟩:∃ k,(CL zn)[i]?=some k:=⟨_,aG (by have:=HLI.o;omega)⟩;have hkr:=HCR.o k (aM hk);obtain ⟨kn,hkn⟩:∃ m:Nat,k=(m:Int):=⟨k.toNat,by omega⟩;subst hkn;have hkN:kn < N:=(by omega);have HST:=aH (HK.o.trans (B2b hk (M1,L1)));have hII:=HCI.o.below HBx.o;obtain ⟨gb,goff,hgo,hgbl,c0⟩:∃ g goff,io=some ⟨g,goff,none⟩/\g < wr.heap.size/\wr.cell? ⟨g,goff + i,none⟩=some (.int .i64 (kn:Int)):=(by obtain ⟨ao1,c1,e1,-,hf⟩:=hII;injection e1 with e1 e2 e3;obtain ⟨g,off,e,h1,-,h3⟩:=hf i (by have:=HLI.o;omega);refine ⟨g,off,e1.trans e,h1,?_⟩;rw [h3,List.getD_eq_getElem?_getD,hk];rfl);subst hgo;clear hk hkr hII;by_cases hto:(kn:Int)=to1
     · have hto1:((kn:Int) == to1)=true:=beq_iff_eq.2 hto;have HE:=aH (show RES=true from by rw [HRC.o,HST.o,if_pos hto]);have hto2:decide ((kn:Int)=to1)=true:=aT hto;go_wp2;go_ret;rw [HE.o];exact ⟨rfl,HBx.o⟩
     ·
      have hto1:((kn:Int) == to1)=false:=aN.2 hto;have hto2:decide ((kn:Int)=to1)=false:=aF hto;have hk1:decide ((kn:Int) < (N:Int))=true:=aT (by omega);have hk2:decide (kn < N)=true:=aT hkN;have m0:wr.cell? ⟨B,kn,none⟩=some (.bool (M1 kn)):=(HMx.o.cell kn).trans (bH M1 N kn hkN);have ml:=HMx.o.lt;obtain ⟨mb,hmb⟩:∃ z,M1 kn=z:=⟨_,rfl⟩;have HMB:=aH hmb;rw [hmb] at m0;clear hmb
      cases mb with
      | true =>
       have HSN:=aH (show rcK to1 (CL zn) (M,L0)=rcK to1 ((CL zn).drop (i + 1)) (M1,L1) from by
        rw [HST.o,if_neg hto,Int.toNat_natCast];show (if M1 kn=true then _ else _)=_
        rw [if_pos HMB.o])
       go_wp2
       go_roundw
       case rel=>exact ⟨i + 1,(M1,L1),_,rfl,by go_num,by omega,HSN,HF,HFN,HY,HMx,HWx,HBx⟩
       case measure=>simp [intOf];omega
      | false =>
       have HSN:=aH (show rcK to1 (CL zn) (M,L0)=rcK to1 ((CL zn).drop (i + 1)) (dC M1 kn,L1 ++ [(kn:Int)]) from by
        rw [HST.o,if_neg hto,Int.toNat_natCast];show (if M1 kn=true then _ else _)=_
        rw [if_neg (by rw [HMB.o];decide)])
       have f0:wr.frozen? ⟨B,kn,none⟩=false:=HMx.o.thaw kn;have hbt:But (fun j=>j=B) wr (wr.setCell ⟨B,kn,none⟩ (.bool true)):=But.put wr B kn _;have HM5:=aH (show Own (wr.setCell ⟨B,kn,none⟩ (.bool true)) B 4 (bZ (dC M1 kn) N) from by rw [<- qX M1 N kn hkN];exact HMx.o.put kn (.bool true));have HW5:=aH (show Win (fun b=>B + 1<=b) 3 1 (wr.setCell ⟨B,kn,none⟩ (.bool true)) vv L1.length (L1.map (Value.int .i64)) from HWx.o.keep hbt (fun g _ h e=>by have e:g=B:=e;omega));have HB5:=aH (HBx.o.trans (hbt.below (B:=w.heap.size) HBx.o.size (fun j e=>by have:=HBE.o;have e:j=B:=e;omega)));have HLK:=aH (show bF (dC M1 kn) N + 1<=bF M1 N from He hkN HMB.o);have HF5:=aH (show bF (dC M1 kn) N + (L1 ++ [(kn:Int)]).length<=f from by have h1:=HLK.o;have h2:bF M1 N + L1.length<=f:=HF.o;rw [List.length_append];show _ + (_ + 1)<=f;omega);have HFM:=aH (show bF (dC M1 kn) N + (L1 ++ [(kn:Int)]).length<=N + 1 from by have h1:=HLK.o;have h2:bF M1 N + L1.length<=N + 1:=HFN.o;rw [List.length_append];show _ + (_ + 1)<=N + 1;omega)
       have HY5:=aH (show ∀ y ∈ L1 ++ [(kn:Int)],0<=y/\y < (N:Int) from fun y hy=>by
        rcases List.mem_append.1 hy with hy | hy
        · exact HY.o y hy
        · rw [List.mem_singleton.1 hy];omega)
       have hln:L1.length<=161:=(by have h2:bF M1 N + L1.length<=N + 1:=HFN.o;omega);go_upto_region 13 with fail;clear m0 ml f0 hbt c0 hgbl;generalize wr.setCell ⟨B,kn,none⟩ (.bool true)=w5 at *;obtain ⟨i0,hi0,hz0,hz1q,hz2q⟩:=info_parts gL;have HNEW:=aH (bD w5 3 [.int .i64 (kn:Int)])
       go_wp2_with (first
        | (at_builtin;refine aX _ rfl _ _ 25 rfl (fun b=>B + 1<=b) 3 i0 _ 1 8 Tryz.underlying25 hi0 hz0 hz1q hz2q rfl (by decide) _ L1.length (L1.map (Value.int .i64)) rfl (HW5.o.below (bA _)) ⟨w5.heap.size,0,none⟩ 1 1 [.int .i64 (kn:Int)] rfl rfl HNEW.o (by intro u hu;rw [List.mem_singleton.1 hu];rfl) (by unfold maxLen;omega) (by omega) ?_))
       intro v' w6 hw6 hb6;have hblx:Below w5.heap.size w5 (w5.alloc (.cells #[.int .i64 (kn:Int)] 3)):=bA _;have HB6:=aH ((HB5.o.trans (hblx.mono HB5.o.size)).trans (hb6.below (B:=w.heap.size) (by have:=HB5.o.size;have:=hblx.size;omega) (fun j hs=>by have hs:B + 1<=j:=hs;have:=HBE.o;omega)));have HM6:=aH ((HM5.o.under hblx HM5.o.lt).but hb6 (fun h=>by have h:B + 1<=B:=h;omega))
       have HW6:=aH (show Win (fun b=>B + 1<=b) 3 1 w6 v' (L1 ++ [(kn:Int)]).length ((L1 ++ [(kn:Int)]).map (Value.int .i64)) from by
        rw [List.length_append,List.map_append];refine hw6.mono (fun j _ h=>?_);rcases h with h | h
        · exact h
        · have h1:=HM5.o.lt;have h2:=hblx.size;show B + 1<=j;omega)
       clear hw6 hb6 hblx hi0 hz0 hz1q hz2q hln;go_wp2
       go_roundw
       case rel=>exact ⟨i + 1,(dC M1 kn,L1 ++ [(kn:Int)]),_,rfl,by go_num,by omega,HSN,HF5,HFM,HY5,HM6,HW6,HB6⟩
       case measure=>simp [intOf];omega
    ·
     have hi1:decide ((i:Int) < (li:Int))=false:=aF hil;have hi2:decide (i < li)=false:=aF (by omega)
     have HSN:=aH (show RES=rcF CL to1 f (M1,L1) from by
      rw [HRC.o,HK.o,List.drop_of_length_le (by have:=HLI.o;omega)]
      rfl)
     go_wp2
     go_roundg f
     case measure=>omega
     case rel=>exact ⟨(M1,L1),_,rfl,HSN,HF,HFN,HY,HMx,HWx,HBx⟩
theorem zX (gr:Gj) (a:Gv) (hg:Good gr) (hw:WaG gr.ns gr.ws gr.ws.length) (T:Nx) (nl:Nat) (no:Option Addr) (nc:Nat) (hT:∀ k,k < nl->(∀ y ∈ T k,0<=y/\y < (gr.ns.length:Int))/\((T k).length:Int)<=1000) (w:World) (hG:dG w gr a) (hN:NxM w no nl T) :
  Calls Tryz.prog 31 #[grv gr a,.slice no nl nc] w fun e w'=>e=.returned (.int .i64 (Au (jE gr T nl) gr.ns.length))/\Below w.heap.size w w':=by
 have HB1:=gB w a gr;have HO1:=gO w a gr;have HG1:=aH (hG.below HB1.o);have HN1:=aH (hN.below HB1.o);have HNU:=aH (fun W h=>rP gr a hg W h);have HCL:=aH (fun (k:Nat) (hk:k < gr.ns.length) u W h1 h2 h3=>ER gr a hg hw k hk T nl no nc hT u W h1 h2 h3);have HRG:=aH (fun k=>Lr hg hw (T:=T) (nl:=nl) (fun j hj=>(hT j hj).1) k);have hn160:=hg.len;have HRE:=aH (fun (k:Nat) (hk:k < gr.ns.length) co cc W h=>A1c (jE gr T nl) gr.ns.length (by omega) (fun j _=>⟨(HRG.o j).2,by have:=(HRG.o j).len;omega⟩) co cc k hk (k:Int) W h);obtain ⟨RES,hRES⟩:∃ z,Au (jE gr T nl) gr.ns.length=z:=⟨_,rfl⟩;have HR0:=aH (show RES=Tc (jE gr T nl) gr.ns.length gr.ns.length 0 from by rw [<- hRES];rfl);rw [hRES];unfold PuE at HCL;unfold BoE at HNU;unfold grv at HNU HCL;unfold grv;obtain ⟨nn,nh,nms,nw,hnn,hnh,hnms,hnw⟩:=nG gr;rw [hnn,hnh,hnms,hnw] at HO1 HB1 HNU HCL HG1 HN1;rw [hnn] at HR0 HRE HRG hn160;rw [hnn,hnh,hnms,hnw];obtain ⟨B,hB⟩:∃ B,w.heap.size=B:=⟨_,rfl⟩;have HBE:=aH hB;rw [hB] at HO1;clear hg hw hT hG hN hRES hnn hnh hnms hnw;go_enter Tryz.func31,Tryz.ntmps31;go_upto_region 1 with fail;generalize w.alloc (.cells #[.slice a.mo nms a.mc,.slice a.no nn a.nc,.slice a.ho nh a.hc,.slice a.wo nw a.wc,.int .i64 gr.st] 27)=w1 at *;try rw [hB]
 clear hB;obtain ⟨g0,g1,g2,g3,g4,gl⟩:=oG HO1.o;have HC1:=aH (HNU.o w1 HG1.o);go_wp2_with fail;refine HC1.o.mono ?_;rintro e w2 ⟨u,he,hu,hul,hb2⟩;subst he;have HU2:=aH hu;have HO2:=aH (HO1.o.under hb2 HO1.o.lt);have HG2:=aH (HG1.o.below hb2);have HN2:=aH (HN1.o.below hb2);have HB2:=aH (HB1.o.trans (hb2.mono HB1.o.size));clear hu hul hb2 g0 g1 g2 g3 g4 gl HC1 HO1 HG1 HN1;have g1:w2.cell? ⟨B,1,none⟩=some (.slice a.no nn a.nc):=HO2.o.cell 1;have gl:=HO2.o.lt;obtain ⟨C,hC⟩:∃ C,w2.heap.size=C:=⟨_,rfl⟩;have HCE:=aH hC;have HBC:=aH (show B < C/\u < C from by rw [<- hC];exact ⟨HO2.o.lt,HU2.o.lt⟩);clear hC;go_wp2_with fail;clear g1 gl
 go_loopw [6,14] (fun v6 v14 wr=>∃ (k:Nat) (vl:Value),vl=v6/\v14=.int .i64 (k:Int)/\(k:Int)<=nn/\aQ (LdW wr C (jE gr T nl) vl k)/\aQ (Below w2.heap.size w2 wr)) (fun _ v14 _=>nn - (intOf v14).toNat)
 case atStart=>exact ⟨0,_,rfl,rfl,by omega,aH (LdW.nil _ _ _),aH (Below.refl _ _)⟩
 case round =>
  obtain ⟨k,vl,rfl,rfl,hk,HLk,HBk⟩:=hrel;by_cases hkn:(k:Int) < nn
  ·
   have hk1:decide ((k:Int) < (nn:Int))=true:=aT hkn;have hk2:decide (k < nn)=true:=aT (by omega);have hkk:k < nn:=(by omega);have hw1:IntKind.i64.wrap ((k:Int) + 1)=(k:Int) + 1:=wI;have hOX:=HO2.o.under HBk.o HO2.o.lt;have g0:wr.cell? ⟨B,0,none⟩=some (.slice a.mo nms a.mc):=hOX.cell 0;have g1:wr.cell? ⟨B,1,none⟩=some (.slice a.no nn a.nc):=hOX.cell 1;have g2:wr.cell? ⟨B,2,none⟩=some (.slice a.ho nh a.hc):=hOX.cell 2;have g3:wr.cell? ⟨B,3,none⟩=some (.slice a.wo nw a.wc):=hOX.cell 3;have g4:wr.cell? ⟨B,4,none⟩=some (.int .i64 gr.st):=hOX.cell 4;have gl:=hOX.lt;have HCC:=aH (HCL.o k hkk u wr (HG2.o.below HBk.o) (HU2.o.under HBk.o HU2.o.lt) (HN2.o.below HBk.o));obtain ⟨V,S,hW,hS2,hS3⟩:=HLk.o;have HWk:=aH hW;have HS2:=aH hS2;have HS3:=aH hS3;obtain ⟨ao,cap,hvl,-⟩:=hW.form;have HVL:=aH hvl;clear hOX hW hS2 hS3 hvl;go_wp2_with fail;refine HCC.o.mono ?_;rintro e w5 ⟨v5,he,hI5,hb5⟩;subst he;clear g0 g1 g2 g3 g4 gl HCC;obtain ⟨vo,vn,vc,hv5⟩:∃ ao n c,v5=.slice ao n c:=(by obtain ⟨x1,x2,x3,-⟩:=hI5;exact ⟨x1,_,x2,x3⟩);have hoff:Iq S v5:=fun g off n c e hn hs=>(by have:=(hI5.blk e hn).1;have:=(HS2.o g hs).2;omega);have HOF:=aH hoff;have HI5:=aH hI5;have HB5:=aH hb5;have hbx:Below w5.heap.size w5 (w5.alloc (.cells #[v5] 25)):=bA _;have HBX:=aH (hb5.trans (hbx.mono hb5.size));have HI6:=aH (hI5.below hbx);have HWX:=aH (HWk.o.below HBX.o);obtain ⟨i0,hi0,hz0,hz1q,hz2q⟩:=info_parts Es;have HNEW:=aH (bD w5 25 [v5]);have HONE:=aH (show v5.oneCell'=true from by rw [hv5];rfl);have HCW:=aH (show C<=wr.heap.size from by have:=HBk.o.size;have:=HCE.o;omega);clear hoff hI5 hb5 hbx;subst hv5
   go_wp2_with (first
    | (at_builtin;refine aX _ rfl _ _ 32 rfl S 25 i0 _ 1 24 Tryz.underlying32 hi0 hz0 hz1q hz2q rfl (by decide) vl k ((List.range k).map V) rfl HWX.o ⟨w5.heap.size,0,none⟩ 1 1 [.slice vo vn vc] rfl rfl HNEW.o (by intro u hu;rw [List.mem_singleton.1 hu];rfl) (by unfold maxLen;omega) (by omega) ?_))
   intro v' w6 hw6 hb6;have hLm:LdW w6 C (jE gr T nl) v' (k + 1):=LdW.more (V:=V) (S:=S) (Nat.le_trans HCW.o HBX.o.size) (fun g hg=>⟨(HS2.o g hg).1,aL (HS2.o g hg).2 HBX.o.size⟩) (fun j hj=>⟨(HS3.o j hj).1.below HBX.o,(HS3.o j hj).2⟩) (HI6.o.mono HCW.o) HOF.o (hw6.mono (fun j _ h=>h.elim .inl (fun h=>.inr (by simpa using h)))) hb6;have HL6:=aH hLm;have HB6:=aH ((HBk.o.trans (HBX.o.mono HBk.o.size)).trans (hb6.below (B:=w2.heap.size) (by have:=HBk.o.size;have:=HBX.o.size;omega) (fun j hs=>by have:=(HS2.o j hs).1;have:=HCE.o;omega)));clear hLm hw6 hb6 hi0 hz0 hz1q hz2q HBX HI6 HWX HNEW HONE;go_wp2
   go_roundw
   case rel=>exact ⟨k + 1,_,rfl,by go_num,by omega,HL6,HB6⟩
   case measure=>simp [intOf];omega
  ·
   have hk1:decide ((k:Int) < (nn:Int))=false:=aF hkn;have hk2:decide (k < nn)=false:=aF (by omega);obtain rfl:k=nn:=(by omega);obtain ⟨lo,lc,hvl⟩:∃ lo lc,vl=.slice lo k lc:=(by obtain ⟨V,S,h1,-⟩:=HLk.o;obtain ⟨ao,cap,e,-⟩:=h1.form;exact ⟨ao,cap,e⟩);subst hvl
   have HCM:=aH (show NxM wr lo k (jE gr T nl) from fun j hj=>by
    obtain ⟨b,off,v,e,h1,-,h2,h3⟩:=HLk.o.at_ j hj
    exact ⟨b,off,v,e,h1,h2,h3.mono (Nat.zero_le _)⟩)
   have hOX:=HO2.o.under HBk.o HO2.o.lt;have g1:wr.cell? ⟨B,1,none⟩=some (.slice a.no k a.nc):=hOX.cell 1;have gl:=hOX.lt;obtain ⟨wo,hwo⟩:∃ z,z=wr:=⟨_,rfl⟩;subst hwo;have HBT:=aH (HB2.o.trans (HBk.o.mono HB2.o.size));clear hOX HLk;go_wp2_with fail;clear g1 gl
   go_loopw [29] (fun v29 wx=>∃ n:Nat,v29=.int .i64 (n:Int)/\(n:Int)<=k/\aQ (RES=Tc (jE gr T nl) k (k - n) n)/\aQ (Below wo.heap.size wo wx)) (fun v29 _=>k - (intOf v29).toNat)
   case atStart=>exact ⟨0,rfl,by omega,HR0,aH (Below.refl _ _)⟩
   case round =>
    obtain ⟨n,rfl,hn,HR,HBx⟩:=hrel;by_cases hnk:(n:Int) < k
    ·
     have hn1:decide ((n:Int) < (k:Int))=true:=aT hnk;have hn2:decide (n < k)=true:=aT (by omega);have hnn:n < k:=(by omega);have hw1:IntKind.i64.wrap ((n:Int) + 1)=(n:Int) + 1:=wI
     have HST:=aH (show RES=if Yk (jE gr T nl) k n n=true then (n:Int) else Tc (jE gr T nl) k (k - (n + 1)) (n + 1) from by
      rw [HR.o,show k - n=(k - (n + 1)) + 1 by omega]
      rfl)
     have HCC:=aH (HRE.o n hnn lo lc wr (HCM.o.below HBx.o));obtain ⟨rb,hrb⟩:∃ z,Yk (jE gr T nl) k n n=z:=⟨_,rfl⟩;rw [hrb] at HST HCC;clear hrb;go_wp2_with fail;refine HCC.o.mono ?_;rintro e w5 ⟨he,hb5⟩;subst he;have HB5:=aH (aD HBx.o hb5);clear hb5 HCC
     cases rb with
     | true =>
      have HE:=aH (show RES=(n:Int) from by rw [HST.o,if_pos rfl]);go_wp2;go_ret;rw [HE.o];exact ⟨rfl,HBT.o.trans (HB5.o.mono HBT.o.size)⟩
     | false =>
      have HE:=aH (show RES=Tc (jE gr T nl) k (k - (n + 1)) (n + 1) from by rw [HST.o,if_neg (by decide)]);go_wp2
      go_roundw
      case rel=>exact ⟨n + 1,by go_num,by omega,HE,HB5⟩
      case measure=>simp [intOf];omega
    · have hn1:decide ((n:Int) < (k:Int))=false:=aF hnk;have hn2:decide (n < k)=false:=aF (by omega);have HE:=aH (show RES=-1 from by rw [HR.o,show k - n=0 by omega];rfl);go_wp2;go_ret;rw [HE.o];exact ⟨rfl,HBT.o.trans (HBx.o.mono HBT.o.size)⟩
end Go.Proofs.YthddifjhoniacaaGreat
