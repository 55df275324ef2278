import Derived.Test.YthddifjhoniacaaGf
import Derived.Test.YthddifjhoniacaaNa
import Derived.Test.YthddifjhoniacaaMa
import Derived.Test.YthddifjhoniacaaId
import Derived.Deep.CutBlock
import Derived.BigQuiet
namespace Go.Proofs.Ythddifjhoniacaa
set_option linter.unusedVariables false
set_option maxHeartbeats 3200000
set_option maxRecDepth 1000000
open Go.RowKit Go.Sort
def intL (ks:List Nat):List Int:=ks.map (fun (k:Nat)=>(k:Int))
def fstA (NU:Nat->Bool) (op:Int) (ks:List Nat):List Int:=orL [] (intL (if op=4 then frontL NU ks else ks))
def watA (gr:Gj) (mo:Nat) (L:List Int):List Int:=match gr.ws[mo]? with
 | some y=>if 0<=y then putL L y else L
 | none=>L
def besL (gr:Gj) (T:Nx) (nl n mo:Nat) (L:List Int):List Int:=watA gr mo (if n < nl then orL L (T n) else L)
def calL (gr:Gj) (T:Nx) (nl n:Nat):List Int:=match gr.ns[n]? with
 | none=>[]
 | some x=>if x.op=11 then putL (fstA (nulG gr) x.op x.ks) (bodyG gr n:Int) else if x.op=13 then besL gr T nl n x.mo (fstA (nulG gr) x.op x.ks) else fstA (nulG gr) x.op x.ks
def calI (gr:Gj) (T:Nx) (nl:Nat) (n:Int):List Int:=if 0<=n/\n < (gr.ns.length:Int) then calL gr T nl n.toNat else []
def Rg (N:Nat) (L:List Int):Prop:=RisL L/\∀ y ∈ L,0<=y/\y < (N:Int)
theorem Rg.nil (N:Nat):Rg N []:=⟨trivial,fun y hy=>(by cases hy)⟩
theorem Rg.put {N:Nat} {L:List Int} {y:Int} (h:Rg N L) (hy:0<=y/\y < (N:Int)):Rg N (putL L y):=⟨h.1.put y,fun z hz=>by rcases (putL_mem y _ z).1 hz with rfl | hz;exact hy;exact h.2 z hz⟩
theorem Rg.or {N:Nat} {L M:List Int} (h:Rg N L) (hM:∀ y ∈ M,0<=y/\y < (N:Int)):Rg N (orL L M):=⟨RisL.or _ h.1,fun z hz=>by rcases (orL_mem _ _ _).1 hz with hz | hz;exact h.2 z hz;exact hM z hz⟩
theorem Rg.len {N:Nat} {L:List Int} (h:Rg N L):L.length<=N:=h.1.room h.2
theorem fstA_rg {gr:Gj} (hg:Good gr) {n:Nat} {x:Nj} (hx:gr.ns[n]?=some x) (NU:Nat->Bool):Rg gr.ns.length (fstA NU x.op x.ks):=(Rg.nil _).or fun y hy=>by
 obtain ⟨k,hk,e⟩:=List.mem_map.1 hy;have hk2:k ∈ x.ks:=by
  split at hk
  · exact frontL_sub NU x.ks k hk
  · exact hk
 have:=hg.kid x (aM hx) k hk2;rw [<- e];exact ⟨by omega,by omega⟩
theorem watA_rg {gr:Gj} (hw:WaG gr.ns gr.ws gr.ws.length) {L:List Int} (h:Rg gr.ns.length L) (mo:Nat):Rg gr.ns.length (watA gr mo L):=by
 unfold watA;split
 ·
  next y hy =>
  split
  · next h0=>exact h.put ⟨h0,(hw.ws y (aM hy)).2⟩
  · exact h
 · exact h
theorem besL_rg {gr:Gj} (hw:WaG gr.ns gr.ws gr.ws.length) {T:Nx} {nl:Nat} (hT:∀ k,k < nl->∀ y ∈ T k,0<=y/\y < (gr.ns.length:Int)) {L:List Int} (h:Rg gr.ns.length L) (n mo:Nat):Rg gr.ns.length (besL gr T nl n mo L):=by
 unfold besL;refine watA_rg hw ?_ mo;split
 · next h0=>exact h.or (hT n h0)
 · exact h
theorem calL_rg {gr:Gj} (hg:Good gr) (hw:WaG gr.ns gr.ws gr.ws.length) {T:Nx} {nl:Nat} (hT:∀ k,k < nl->∀ y ∈ T k,0<=y/\y < (gr.ns.length:Int)) (n:Nat):Rg gr.ns.length (calL gr T nl n):=by
 unfold calL;split
 · exact Rg.nil _
 ·
  next x hx =>
  have h:=fstA_rg hg hx (nulG gr);split
  · have:=bodyG_lt hg (aS.1 hx).1;exact h.put ⟨by omega,by omega⟩
  split
  · exact besL_rg hw hT h n x.mo
  · exact h
def NxM (w:World) (no:Option Addr) (nl:Nat) (T:Nx):Prop:=∀ k,k < nl->∃ b off v,no=some ⟨b,off,none⟩/\b < w.heap.size/\w.cell? ⟨b,off + k,none⟩=some v/\IntsAt w 0 v (T k)
theorem NxM.below {w w':World} {no:Option Addr} {nl:Nat} {T:Nx} (h:NxM w no nl T) (hb:Below w.heap.size w w'):NxM w' no nl T:=fun k hk=>by obtain ⟨b,off,v,e,hl,hc,hi⟩:=h k hk;exact ⟨b,off,v,e,aL hl hb.size,keepc hc hb,hi.below hb⟩
theorem NxM.row {w:World} {q C nn:Nat} {T:Nx} {V:Nat->Value} (h1:Own w q 23 ((List.range nn).map V)) (h2:∀ k,k < nn->IntsAt w C (V k) (T k)):NxM w (some ⟨q,0,none⟩) nn T:=fun k hk=>⟨q,0,V k,rfl,h1.lt,by rw [Nat.zero_add,h1.cell k,List.getElem?_map,List.getElem?_range hk];rfl,(h2 k hk).mono (Nat.zero_le _)⟩
theorem orI_drop {A:List Int} {ks:List Nat} {i k:Nat} (h:ks[i]?=some k):orL A (intL (ks.drop i))=orL (putL A (k:Int)) (intL (ks.drop (i + 1))):=by obtain ⟨h1,h2⟩:=aS.1 h;rw [List.drop_eq_getElem_cons h1,h2];rfl
theorem frI_drop {NU:Nat->Bool} {A:List Int} {ks:List Nat} {i k:Nat} (h:ks[i]?=some k):orL A (intL (frontL NU (ks.drop i)))=if NU k=true then orL (putL A (k:Int)) (intL (frontL NU (ks.drop (i + 1)))) else putL A (k:Int):=by obtain ⟨h1,h2⟩:=aS.1 h;rw [List.drop_eq_getElem_cons h1,h2];have e:frontL NU (k :: ks.drop (i + 1))=if NU k=true then k :: frontL NU (ks.drop (i + 1)) else [k]:=rfl;rw [e];split <;> rfl
def remA (NU:Nat->Bool) (op:Int) (A:List Int) (r:List Nat):List Int:=orL A (intL (if op=4 then frontL NU r else r))
theorem remA_drop {NU:Nat->Bool} {op:Int} {A:List Int} {ks:List Nat} {i k:Nat} (h:ks[i]?=some k):remA NU op A (ks.drop i)=if op=4/\NU k=false then putL A (k:Int) else remA NU op (putL A (k:Int)) (ks.drop (i + 1)):=by
 unfold remA;by_cases h4:op=4
 ·
  rw [if_pos h4,if_pos h4,frI_drop h]
  cases hN:NU k with
  | true=>rw [if_pos rfl,if_neg (by simp)]
  | false=>rw [if_neg (by decide),if_pos ⟨h4,rfl⟩]
 · rw [if_neg h4,if_neg h4,orI_drop h,if_neg (fun g=>h4 g.1)]
theorem remA_nil {NU:Nat->Bool} {op:Int} {A:List Int}:remA NU op A []=A:=by unfold remA;split <;> rfl
def PuE (C:Nat) (L:List Int) (w:World) (e:Ending) (w':World):Prop:=∃ v,e=.returned v/\IntsAt w' C v L/\Below w.heap.size w w'
theorem besides_any (gr:Gj) (a:Gv) (hg:Good gr) (hw:WaG gr.ns gr.ws gr.ws.length) (n:Nat) (x:Nj) (hx:gr.ns[n]?=some x) (T:Nx) (nl:Nat) (no:Option Addr) (nc:Nat) (hT:∀ k,k < nl->(∀ y ∈ T k,0<=y/\y < (gr.ns.length:Int))/\((T k).length:Int)<=1000) (L:List Int) (hL:Rg gr.ns.length L) (v:Value) (C:Nat) (w:World) (hG:HasG w gr a) (hN:NxM w no nl T) (hv:IntsAt w C v L) (hC:C<=w.heap.size) :
  Calls Try.prog 41 #[grv gr a,.slice no nl nc,.int .i64 (n:Int),v] w (PuE C (besL gr T nl n x.mo L) w):=by
 have hn:=(aS.1 hx).1;obtain ⟨y,hy⟩:∃ y,gr.ws[x.mo]?=some y:=⟨_,aG (hw.mo x (aM hx))⟩;have HYR:=aH (hw.ws y (aM hy));have HB1:=gB w a gr;have HO1:=gO w a gr;have HI1:=aH (hv.below HB1.o);have HL0:=aH hL;have HT0:=aH hT;have HC0:=aH hC;have HN1:=aH (hN.below HB1.o);obtain ⟨b,off,ko,kc,hno,hb,hcap,-,-,-,-,-,-,-,-,c8,-,-⟩:=(hG.below HB1.o).1 n x hx;obtain ⟨wb,woff,hwo,hwb,-,d0⟩:=(hG.below HB1.o).2.2.1 x.mo y hy;have HC8:=aH c8;have HD0:=aH d0;have HPU:=aH (fun (M:List Int) (j:Int) (hM:Rg gr.ns.length M) (u:Value) (W:World) (h:IntsAt W C u M) (hCW:C<=W.heap.size)=>show Calls Try.prog 39 #[u,.int .i64 j] W (PuE C (putL M j) W) from (pput_any M j (by have:=hM.len;have:=hg.len;omega) u C W h).mono (by rintro e w' ⟨v',he,hi,hb'⟩;exact ⟨v',he,hi.mono hCW,hb'⟩));obtain ⟨RES,hRES⟩:∃ z,besL gr T nl n x.mo L=z:=⟨_,rfl⟩;have HRS:=aH (show ∀ M,(if n < nl then orL L (T n) else L)=M->RES=if 0<=y then putL M y else M from fun M hM=>by rw [<- hRES];unfold besL watA;rw [hM,hy]);have hmo:=hw.mo x (aM hx);unfold PuE;unfold PuE at HPU;rw [hRES];obtain ⟨mo,hmo2⟩:∃ z,x.mo=z:=⟨_,rfl⟩;rw [hmo2] at HC8 HD0 hmo;have hwo2:=hwo;have hno2:=hno;have hn160:=hg.len;unfold grv;obtain ⟨nn,hnn⟩:∃ z,gr.ns.length=z:=⟨_,rfl⟩;obtain ⟨nh,hnh⟩:∃ z,gr.hs.length=z:=⟨_,rfl⟩;obtain ⟨nms,hnms⟩:∃ z,gr.ms.length=z:=⟨_,rfl⟩;obtain ⟨nw,hnw⟩:∃ z,gr.ws.length=z:=⟨_,rfl⟩;rw [hnn,hnh,hnms,hnw] at HO1 HB1 HI1 HN1 HC8 HD0;rw [hnn] at hn HL0 HPU HT0 HYR hn160;rw [hnw] at hmo;rw [hnn,hnh,hnms,hnw];obtain ⟨B,hB⟩:∃ B,w.heap.size=B:=⟨_,rfl⟩;have HW1:=aH (show (w.alloc (.cells #[.slice a.mo nms a.mc,.slice a.no nn a.nc,.slice a.ho nh a.hc,.slice a.wo nw a.wc,.int .i64 gr.st] 27)).heap.size=B + 1 from by rw [<- hB];simp);have HBE:=aH hB;rw [hB] at HO1;have hn1:decide ((n:Int) < (nn:Int))=true:=aT (by omega);have hm1:decide ((mo:Int) < (nw:Int))=true:=aT (by omega);rw [hno,hwo] at HO1 HB1 HI1 HN1 HC8 HD0 HW1;rw [hno,hwo];clear hg hw hx hT hL hG hN hv hy hRES hnn hnh hnms hnw hmo2 c8 d0 hb hcap hno hwo hwb hC hno2 hwo2;go_enter Try.func41,Try.ntmps41;go_upto_region 1 with fail;generalize w.alloc (.cells #[.slice a.mo nms a.mc,.slice (some ⟨b,off,none⟩) nn a.nc,.slice a.ho nh a.hc,.slice (some ⟨wb,woff,none⟩) nw a.wc,.int .i64 gr.st] 27)=w1 at *;try rw [hB]
 clear hB;by_cases hnl:n < nl
 ·
  have hnl1:decide ((n:Int) < (nl:Int))=true:=aT (by omega);have hnl2:decide (n < nl)=true:=aT hnl;obtain ⟨tb,toff,tv,htn,htb,t0,hti⟩:=HN1.o n hnl;have hti2:=hti;obtain ⟨tq,tc,htv,htc,-⟩:=hti2;obtain ⟨m,hm⟩:∃ m,(T n).length=m:=⟨_,rfl⟩;have HM:=aH hm;have HTI:=aH hti;rw [htv] at t0 HTI;rw [hm] at t0 HTI htc;have hm1000:(m:Int)<=1000:=by rw [<- hm];exact (HT0.o n hnl).2
  have HTR:=aH (HT0.o n hnl).1;have HR0:=aH (show (if n < nl then orL L (T n) else L)=orL L ((T n).drop 0) from by rw [if_pos hnl];rfl);subst htn;clear hm htv hti;go_wp2_with fail;clear t0 htb
  go_loopw [3,21] (fun v3 v21 wr=>∃ (k:Nat) (M:List Int) (vv:Value),vv=v3/\v21=.int .i64 (k:Int)/\(k:Int)<=m/\aQ ((if n < nl then orL L (T n) else L)=orL M ((T n).drop k))/\aQ (IntsAt wr C vv M)/\aQ (Rg nn M)/\aQ (Below w1.heap.size w1 wr)) (fun _ v21 _=>m - (intOf v21).toNat)
  case atStart=>exact ⟨0,L,v,rfl,rfl,by omega,HR0,HI1,HL0,aH (Below.refl _ _)⟩
  case round =>
   obtain ⟨k,M,vv,rfl,rfl,hk,HR,HI,HLM,HB⟩:=hrel;by_cases hkm:(k:Int) < m
   ·
    have hk1:decide ((k:Int) < (m:Int))=true:=aT hkm;have hk2:decide (k < m)=true:=aT (by omega);have hw1:IntKind.i64.wrap ((k:Int) + 1)=(k:Int) + 1:=wI;obtain ⟨z,hz⟩:∃ z,(T n)[k]?=some z:=⟨_,aG (by have:=HM.o;omega)⟩;have HST:=aH (HR.o.trans (orL_drop (a:=M) hz));have HZR:=aH (HTR.o z (aM hz));have hII:=HTI.o.below HB.o;obtain ⟨g,goff,hgo,hgl,c0⟩:∃ g goff,tq=some ⟨g,goff,none⟩/\g < wr.heap.size/\wr.cell? ⟨g,goff + k,none⟩=some (.int .i64 z):=(by obtain ⟨ao1,c1,e1,-,hf⟩:=hII;injection e1 with e1 e2 e3;obtain ⟨g,off,e,h1,-,h3⟩:=hf k (by have:=HM.o;omega);refine ⟨g,off,e1.trans e,h1,?_⟩;rw [h3,List.getD_eq_getElem?_getD,hz];rfl);subst hgo;have HPW:=aH (HPU.o M z HLM.o vv wr HI.o (Nat.le_trans HC0.o (Nat.le_trans HB1.o.size HB.o.size)));clear hz hII;go_wp2_with fail;refine HPW.o.mono ?_;rintro e w5 ⟨v5,he,hI5,hb5⟩;subst he;have HI5:=aH hI5;have HB5:=aH (keepb HB.o hb5);have HL5:=aH (HLM.o.put HZR.o);clear hI5 hb5 hgl c0 HPW;go_wp2
    go_roundw
    case rel=>exact ⟨k + 1,_,_,rfl,by go_num,by omega,HST,HI5,HL5,HB5⟩
    case measure=>simp [intOf];omega
   ·
    have hk1:decide ((k:Int) < (m:Int))=false:=aF hkm;have hk2:decide (k < m)=false:=aF (by omega);have HRE:=aH (show RES=if 0<=y then putL M y else M from HRS.o M (by rw [HR.o,List.drop_of_length_le (by have:=HM.o;omega)];rfl));have hOX:=HO1.o.under HB.o HO1.o.lt;have g1:wr.cell? ⟨B,1,none⟩=some (.slice (some ⟨b,off,none⟩) nn a.nc):=hOX.cell 1;have g3:wr.cell? ⟨B,3,none⟩=some (.slice (some ⟨wb,woff,none⟩) nw a.wc):=hOX.cell 3;have gl:=hOX.lt;have c8:=keepc HC8.o HB.o;have d0:=keepc HD0.o HB.o;have cl:=World.block_lt_of_cell? wr _ c8;have dl:=World.block_lt_of_cell? wr _ d0;have HWQ:=aH (fun nq=>below_drewN (Below.refl wr.heap.size wr) nq);clear hOX;go_upto_region 7 with fail;go_quiet (fail);clear g1 g3 gl c8 d0 cl dl;by_cases hy0:0<=y
    · have hy1:decide (0<=y)=true:=aT hy0;have HRF:=aH (show RES=putL M y from by rw [HRE.o,if_pos hy0]);have HPW:=aH (HPU.o M y HLM.o vv (wr.drewN nq) (IntsAt.below HI.o (HWQ.o nq)) (Nat.le_trans HC0.o (Nat.le_trans HB1.o.size (Nat.le_trans (HB.o).size (HWQ.o nq).size))));go_wp2_with fail;refine HPW.o.mono ?_;rintro e w5 ⟨v5,he,hI5,hb5⟩;subst he;have HI5:=aH hI5;have HB5:=aH (HB1.o.trans (((HB.o).trans ((HWQ.o nq).trans (hb5.mono (HWQ.o nq).size) |>.mono (HB.o).size)).mono HB1.o.size));clear hI5 hb5;go_wp2;go_ret;rw [HRF.o];exact ⟨_,rfl,HI5.o,HB5.o⟩
    · have hy1:decide (0<=y)=false:=aF hy0;have HRF:=aH (show RES=M from by rw [HRE.o,if_neg hy0]);have HI5:=aH (IntsAt.below HI.o (HWQ.o nq));have HB5:=aH (HB1.o.trans (((HB.o).trans ((HWQ.o nq).mono (HB.o).size)).mono HB1.o.size));go_wp2;go_ret;rw [HRF.o];exact ⟨_,rfl,HI5.o,HB5.o⟩
 ·
  have hnl1:decide ((n:Int) < (nl:Int))=false:=aF (by omega);have hnl2:decide (n < nl)=false:=aF hnl;have HRE:=aH (show RES=if 0<=y then putL L y else L from HRS.o L (if_neg hnl));have HZZ:=aH (Below.refl w1.heap.size w1);have hOX:=HO1.o.under HZZ.o HO1.o.lt;have g1:w1.cell? ⟨B,1,none⟩=some (.slice (some ⟨b,off,none⟩) nn a.nc):=hOX.cell 1;have g3:w1.cell? ⟨B,3,none⟩=some (.slice (some ⟨wb,woff,none⟩) nw a.wc):=hOX.cell 3;have gl:=hOX.lt;have c8:=keepc HC8.o HZZ.o;have d0:=keepc HD0.o HZZ.o;have cl:=World.block_lt_of_cell? w1 _ c8;have dl:=World.block_lt_of_cell? w1 _ d0;have HWQ:=aH (fun nq=>below_drewN (Below.refl w1.heap.size w1) nq);clear hOX;go_upto_region 7 with fail;go_quiet (fail);clear g1 g3 gl c8 d0 cl dl;by_cases hy0:0<=y
  · have hy1:decide (0<=y)=true:=aT hy0;have HRF:=aH (show RES=putL L y from by rw [HRE.o,if_pos hy0]);have HPW:=aH (HPU.o L y HL0.o v (w1.drewN nq) (IntsAt.below HI1.o (HWQ.o nq)) (Nat.le_trans HC0.o (Nat.le_trans HB1.o.size (Nat.le_trans (HZZ.o).size (HWQ.o nq).size))));go_wp2_with fail;refine HPW.o.mono ?_;rintro e w5 ⟨v5,he,hI5,hb5⟩;subst he;have HI5:=aH hI5;have HB5:=aH (HB1.o.trans (((HZZ.o).trans ((HWQ.o nq).trans (hb5.mono (HWQ.o nq).size) |>.mono (HZZ.o).size)).mono HB1.o.size));clear hI5 hb5;go_wp2;go_ret;rw [HRF.o];exact ⟨_,rfl,HI5.o,HB5.o⟩
  · have hy1:decide (0<=y)=false:=aF hy0;have HRF:=aH (show RES=L from by rw [HRE.o,if_neg hy0]);have HI5:=aH (IntsAt.below HI1.o (HWQ.o nq));have HB5:=aH (HB1.o.trans (((HZZ.o).trans ((HWQ.o nq).mono (HZZ.o).size)).mono HB1.o.size));go_wp2;go_ret;rw [HRF.o];exact ⟨_,rfl,HI5.o,HB5.o⟩
theorem called_any (gr:Gj) (a:Gv) (hg:Good gr) (hw:WaG gr.ns gr.ws gr.ws.length) (n:Nat) (hn:n < gr.ns.length) (T:Nx) (nl:Nat) (no:Option Addr) (nc:Nat) (hT:∀ k,k < nl->(∀ y ∈ T k,0<=y/\y < (gr.ns.length:Int))/\((T k).length:Int)<=1000) (u:Nat) (w:World) (hG:HasG w gr a) (hu:Own w u 4 (rowB (nulG gr) gr.ns.length)) (hN:NxM w no nl T) :
  Calls Try.prog 23 #[grv gr a,.slice (some ⟨u,0,none⟩) gr.ns.length gr.ns.length,.slice no nl nc,.int .i64 (n:Int)] w (PuE w.heap.size (calL gr T nl n) w):=by
 obtain ⟨x,hx⟩:∃ x,gr.ns[n]?=some x:=⟨_,aG hn⟩;have hxm:=aM hx;have HKID:=aH (hg.kid x hxm);have HNN:=aH hn;have HB1:=gB w a gr;have HO1:=gO w a gr;have HG1:=aH (hG.below HB1.o);have HU1:=aH (hu.under HB1.o hu.lt);have HN1:=aH (hN.below HB1.o);have HPU:=aH (fun (M:List Int) (j:Int) (hM:Rg gr.ns.length M) (u:Value) (W:World) (h:IntsAt W w.heap.size u M) (hCW:w.heap.size<=W.heap.size)=>show Calls Try.prog 39 #[u,.int .i64 j] W (PuE w.heap.size (putL M j) W) from (pput_any M j (by have:=hM.len;have:=hg.len;omega) u w.heap.size W h).mono (by rintro e w' ⟨v',he,hi,hb'⟩;exact ⟨v',he,hi.mono hCW,hb'⟩));have HBO:=aH (fun W h=>ebody_any gr a hg n hn W h);have HBL:=aH (bodyG_lt hg hn);have HBS:=aH (fun M (hM:Rg gr.ns.length M) v W h1 h2 h3 h4=>besides_any gr a hg hw n x hx T nl no nc hT M hM v w.heap.size W h1 h2 h3 h4);have HFR:=aH (fstA_rg hg hx (nulG gr));have hkl:=hg.kl x hxm;obtain ⟨RES,hRES⟩:∃ z,calL gr T nl n=z:=⟨_,rfl⟩;have HRS:=aH (show RES=if x.op=11 then putL (fstA (nulG gr) x.op x.ks) (bodyG gr n:Int) else if x.op=13 then besL gr T nl n x.mo (fstA (nulG gr) x.op x.ks) else fstA (nulG gr) x.op x.ks from by rw [<- hRES];unfold calL;rw [hx]);obtain ⟨FR,hFR⟩:∃ z,fstA (nulG gr) x.op x.ks=z:=⟨_,rfl⟩;have HF0:=aH (show FR=remA (nulG gr) x.op [] (x.ks.drop 0) from by rw [<- hFR];rfl);rw [hFR] at HRS HFR;rw [hRES];unfold PuE;unfold PuE at HPU HBS;unfold grv at HBO HBS;unfold grv;obtain ⟨b,off,ko,kc,hno,hb,hcap,c0,c1,c2,c3,c4,c5,c6,c7,c8,c9,hkk⟩:=HG1.o.1 n x hx;have HKK:=aH hkk;obtain ⟨nn,hnn⟩:∃ z,gr.ns.length=z:=⟨_,rfl⟩;obtain ⟨nh,hnh⟩:∃ z,gr.hs.length=z:=⟨_,rfl⟩;obtain ⟨nms,hnms⟩:∃ z,gr.ms.length=z:=⟨_,rfl⟩;obtain ⟨nw,hnw⟩:∃ z,gr.ws.length=z:=⟨_,rfl⟩;have HLN:=aH hnn;have hn160:=hg.len;obtain ⟨nk,hnk⟩:∃ z,x.ks.length=z:=⟨_,rfl⟩;have HNK:=aH hnk;obtain ⟨op,hop⟩:∃ z,x.op=z:=⟨_,rfl⟩;have hkc:=hcap.2;rw [hnk] at c6 hkl hkc;rw [hop] at c0 HRS HF0;rw [hnn] at hn HFR HPU hn160 HU1;rw [hnn,hnh,hnms,hnw] at HO1 HB1 HBO HBS;rw [hnh,hnms,hnw] at HU1;rw [hnn,hnh,hnms,hnw] at HG1 HN1 c0 c1 c2 c3 c4 c5 c6 c7 c8 c9 HKK hb;rw [hnn,hnh,hnms,hnw];have hn1:decide ((n:Int) < (nn:Int))=true:=aT (by omega);rw [hno] at HO1 HB1 HG1 HU1 HN1 c0 c1 c2 c3 c4 c5 c6 c7 c8 c9 HKK hb HBO HBS;rw [hno];obtain ⟨B,hB⟩:∃ B,w.heap.size=B:=⟨_,rfl⟩;have HBE:=aH hB;have HW1:=aH (show (w.alloc (.cells #[.slice a.mo nms a.mc,.slice (some ⟨b,off,none⟩) nn a.nc,.slice a.ho nh a.hc,.slice a.wo nw a.wc,.int .i64 gr.st] 27)).heap.size=B + 1 from by rw [<- hB];simp);rw [hB] at HO1 HPU HBS;clear hg hw hx hxm hT hG hu hN hRES hFR hnn hnh hnms hnw hnk hop hcap hkk hno;go_enter Try.func23,Try.ntmps23;go_upto_region 1 with fail;generalize w.alloc (.cells #[.slice a.mo nms a.mc,.slice (some ⟨b,off,none⟩) nn a.nc,.slice a.ho nh a.hc,.slice a.wo nw a.wc,.int .i64 gr.st] 27)=w1 at *;try rw [hB]
 clear hB;have HB2:=aH (show Below w1.heap.size w1 (w1.alloc (.cells #[.int .i64 op,.string x.tx,.int .u64 x.s0,.int .u64 x.s1,.int .u64 x.s2,.int .u64 x.s3,.slice ko nk kc,.int .i64 x.tg,.int .i64 (x.mo:Int),.int .i64 x.ru] 44)) from bA _);have HO2:=aH (Own.fresh w1 44 [.int .i64 op,.string x.tx,.int .u64 x.s0,.int .u64 x.s1,.int .u64 x.s2,.int .u64 x.s3,.slice ko nk kc,.int .i64 x.tg,.int .i64 (x.mo:Int),.int .i64 x.ru]);have g1:w1.cell? ⟨B,1,none⟩=some (.slice (some ⟨b,off,none⟩) nn a.nc):=HO1.o.cell 1;have gl:=HO1.o.lt;go_upto_region 2 with fail;clear c0 c1 c2 c3 c4 c5 c6 c7 c8 c9 hb g1 gl;obtain ⟨X,hX⟩:∃ z,w1.heap.size=z:=⟨_,rfl⟩;have HXE:=aH hX;rw [hX] at HO2;generalize w1.alloc (.cells #[.int .i64 op,.string x.tx,.int .u64 x.s0,.int .u64 x.s1,.int .u64 x.s2,.int .u64 x.s3,.slice ko nk kc,.int .i64 x.tg,.int .i64 (x.mo:Int),.int .i64 x.ru] 44)=w2 at *;try rw [hX]
 clear hX;have HG2:=aH (HG1.o.below HB2.o);have HU2:=aH (HU1.o.under HB2.o HU1.o.lt);have HN2:=aH (HN1.o.below HB2.o);have HOG:=aH (HO1.o.under HB2.o HO1.o.lt);have HK2:=aH (HKK.o.below HB2.o);have HBW:=aH (HB1.o.trans (HB2.o.mono HB1.o.size));have HSZ:=aH (show B<=w2.heap.size from by have:=HB2.o.size;have:=HW1.o;have:=HOG.o.lt;omega);clear HG1 HU1 HN1 HO1 HKK HB2;have hkc2:(nk:Int)<=kc:=by omega
 have y6:w2.cell? ⟨X,6,none⟩=some (.slice ko nk kc):=HO2.o.cell 6;have yl:=HO2.o.lt
 go_upto_block 0 with fail
 clear y6 yl
 go_cut [10] (fun s10 wx=>∃ vv:Value,vv=s10/\aQ (IntsAt wx B vv FR)/\aQ (Below w2.heap.size w2 wx))
 case first =>
  go_wp2_with fail
  go_loopw [10,21] (fun v10 v21 wr=>∃ (i:Nat) (M:List Int) (vv:Value),vv=v10/\v21=.int .i64 (i:Int)/\(i:Int)<=nk/\aQ (FR=remA (nulG gr) op M (x.ks.drop i))/\aQ (IntsAt wr B vv M)/\aQ (Rg nn M)/\aQ (Below w2.heap.size w2 wr)) (fun _ v21 _=>nk - (intOf v21).toNat)
  case atStart=>exact ⟨0,[],_,rfl,rfl,by omega,HF0,aH (IntsAt.nil _ _),aH (Rg.nil _),aH (Below.refl _ _)⟩
  case round =>
   obtain ⟨i,M,vv,rfl,rfl,hi,HF,HI,HLM,HB⟩:=hrel;by_cases hin:(i:Int) < nk
   ·
    have hi1:decide ((i:Int) < (nk:Int))=true:=aT hin;have hi2:decide (i < nk)=true:=aT (by omega);have hw1:IntKind.i64.wrap ((i:Int) + 1)=(i:Int) + 1:=wI;obtain ⟨k,hk⟩:∃ z,x.ks[i]?=some z:=⟨_,aG (by have:=HNK.o;omega)⟩;have hkn0:k < gr.ns.length:=HKID.o k (aM hk);have HKN:=aH hkn0;have hkn:k < nn:=(by rw [<- HLN.o];exact hkn0);have hk1:decide ((k:Int) < (nn:Int))=true:=aT (by omega);have hk2:decide (k < nn)=true:=aT hkn;have HST:=aH (HF.o.trans (remA_drop hk));obtain ⟨kb,koff,hko,-,-,q2⟩:=HK2.o i k hk;have q0:=keepc q2 HB.o;have kbl:=World.block_lt_of_cell? wr _ q0;subst hko;have HPW:=aH (HPU.o M (k:Int) HLM.o vv wr HI.o (Nat.le_trans HSZ.o HB.o.size));clear hk hkn0 q2;go_wp2_with fail;refine HPW.o.mono ?_;rintro e w5 ⟨v5,he,hI5,hb5⟩;subst he;have HI5:=aH hI5;have HB5:=aH (keepb HB.o hb5);have HL5:=aH (HLM.o.put (y:=(k:Int)) ⟨by omega,by omega⟩);clear hI5 hb5 q0 kbl HPW;have hOX:=HO2.o.under HB5.o HO2.o.lt;have y0:w5.cell? ⟨X,0,none⟩=some (.int .i64 op):=hOX.cell 0;have yl:=hOX.lt;have hUX:=HU2.o.under HB5.o HU2.o.lt;have u0:w5.cell? ⟨u,k,none⟩=some (.bool (nulG gr k)):=(hUX.cell k).trans (rowB_at _ _ k hkn);have ul:=hUX.lt;obtain ⟨nb,hnb⟩:∃ z,nulG gr k=z:=⟨_,rfl⟩;rw [hnb] at u0 HST;clear hnb hOX hUX;by_cases h4:op=4
    ·
     subst h4
     cases nb with
     | true =>
      have HSN:=aH (show FR=remA (nulG gr) 4 (putL M (k:Int)) (x.ks.drop (i + 1)) from by rw [HST.o,if_neg (by simp)]);go_wp2
      go_roundw
      case rel=>exact ⟨i + 1,_,_,rfl,by go_num,by omega,HSN,HI5,HL5,HB5⟩
      case measure=>simp [intOf];omega
     | false =>
      have HSN:=aH (show FR=putL M (k:Int) from by rw [HST.o,if_pos ⟨rfl,rfl⟩]);go_wp2_with fail
      go_meet
      rw [HSN.o];exact ⟨_,rfl,HI5,HB5⟩
    ·
     have h4b:(op == 4)=false:=aN.2 h4;have h4d:decide (op=4)=false:=aF h4;have HSN:=aH (show FR=remA (nulG gr) op (putL M (k:Int)) (x.ks.drop (i + 1)) from by rw [HST.o,if_neg (fun g=>h4 g.1)]);go_wp2
     go_roundw
     case rel=>exact ⟨i + 1,_,_,rfl,by go_num,by omega,HSN,HI5,HL5,HB5⟩
     case measure=>simp [intOf];omega
   ·
    have hi1:decide ((i:Int) < (nk:Int))=false:=aF hin;have hi2:decide (i < nk)=false:=aF (by omega);have HSN:=aH (show FR=M from by rw [HF.o,List.drop_of_length_le (by have:=HNK.o;omega),remA_nil]);go_wp2_with fail
    go_meet
    rw [HSN.o];exact ⟨_,rfl,HI,HB⟩
 case rest =>
 obtain ⟨vv,rfl,HI,HB⟩:=hcut;obtain ⟨w3,hw3⟩:∃ z,z=wc:=⟨_,rfl⟩;subst hw3;have HG3:=aH (HG2.o.below HB.o);have HN3:=aH (HN2.o.below HB.o);have HB3:=aH (HBW.o.trans (HB.o.mono HBW.o.size));have HSB:=aH (Nat.le_trans HSZ.o HB.o.size);have hOX:=HO2.o.under HB.o HO2.o.lt;have y0:w3.cell? ⟨X,0,none⟩=some (.int .i64 op):=hOX.cell 0;have yl:=hOX.lt;have hOB:=HOG.o.under HB.o HOG.o.lt;have g0:w3.cell? ⟨B,0,none⟩=some (.slice a.mo nms a.mc):=hOB.cell 0;have g1:w3.cell? ⟨B,1,none⟩=some (.slice (some ⟨b,off,none⟩) nn a.nc):=hOB.cell 1;have g2:w3.cell? ⟨B,2,none⟩=some (.slice a.ho nh a.hc):=hOB.cell 2;have g3:w3.cell? ⟨B,3,none⟩=some (.slice a.wo nw a.wc):=hOB.cell 3;have g4:w3.cell? ⟨B,4,none⟩=some (.int .i64 gr.st):=hOB.cell 4;have gl:=hOB.lt;have HOX:=aH hOX;clear hOX hOB;by_cases h11:op=11
 · subst h11;have HE:=aH (show RES=putL FR (bodyG gr n:Int) from by rw [HRS.o,if_pos rfl]);obtain ⟨bg,hbg⟩:∃ z,bodyG gr n=z:=⟨_,rfl⟩;rw [hbg] at HBO HE HBL;have HC:=aH (HBO.o w3 HG3.o);clear hbg;go_wp2_with fail;refine HC.o.mono ?_;rintro e w4 ⟨he,hb4⟩;subst he;have HPW:=aH (HPU.o FR (bg:Int) HFR.o vv w4 (HI.o.below hb4) (Nat.le_trans HSB.o hb4.size));have HB4:=aH (HB3.o.trans (hb4.mono HB3.o.size));have hOX:=HOX.o.under hb4 HOX.o.lt;have HOX4:=aH hOX;clear hb4 hOX y0 yl g0 g1 g2 g3 g4 gl HC;go_wp2_with fail;refine HPW.o.mono ?_;rintro e w5 ⟨v5,he,hI5,hb5⟩;subst he;have hOX:=HOX4.o.under hb5 HOX4.o.lt;have y0:w5.cell? ⟨X,0,none⟩=some (.int .i64 11):=hOX.cell 0;have yl:=hOX.lt;have HI5:=aH hI5;have HB5:=aH (HB4.o.trans (hb5.mono HB4.o.size));clear hI5 hb5 HPW hOX;go_wp2;go_ret;rw [HE.o];exact ⟨_,rfl,by rw [HBE.o];exact HI5.o,HB5.o⟩
 ·
  have h11b:(op == 11)=false:=aN.2 h11;have h11d:decide (op=11)=false:=aF h11;by_cases h13:op=13
  · subst h13;have HE:=aH (show RES=besL gr T nl n x.mo FR from by rw [HRS.o,if_neg (by decide),if_pos rfl]);have HC:=aH (HBS.o FR HFR.o vv w3 HG3.o HN3.o HI.o HSB.o);go_wp2_with fail;refine HC.o.mono ?_;rintro e w5 ⟨v5,he,hI5,hb5⟩;subst he;have HI5:=aH hI5;have HB5:=aH (HB3.o.trans (hb5.mono HB3.o.size));clear hI5 hb5 HC y0 yl g0 g1 g2 g3 g4 gl;go_wp2;go_ret;rw [HE.o];exact ⟨_,rfl,by rw [HBE.o];exact HI5.o,HB5.o⟩
  · have h13b:(op == 13)=false:=aN.2 h13;have h13d:decide (op=13)=false:=aF h13;have HE:=aH (show RES=FR from by rw [HRS.o,if_neg h11,if_neg h13]);go_wp2;go_ret;rw [HE.o];exact ⟨_,rfl,by rw [HBE.o];exact HI.o,HB3.o⟩
theorem calls_any (gr:Gj) (a:Gv) (hg:Good gr) (hw:WaG gr.ns gr.ws gr.ws.length) (n:Int) (T:Nx) (nl:Nat) (no:Option Addr) (nc:Nat) (hT:∀ k,k < nl->(∀ y ∈ T k,0<=y/\y < (gr.ns.length:Int))/\((T k).length:Int)<=1000) (w:World) (hG:HasG w gr a) (hN:NxM w no nl T) :
  Calls Try.prog 11 #[grv gr a,.slice no nl nc,.int .i64 n] w (PuE w.heap.size (calI gr T nl n) w):=by
 have HB1:=gB w a gr;have HO1:=gO w a gr;have HG1:=aH (hG.below HB1.o);have HN1:=aH (hN.below HB1.o);have HNU:=aH (fun W h=>enull_any gr a hg W h);have HCL:=aH (fun (k:Nat) (hk:k < gr.ns.length) u W h1 h2 h3=>called_any gr a hg hw k hk T nl no nc hT u W h1 h2 h3);obtain ⟨RES,hRES⟩:∃ z,calI gr T nl n=z:=⟨_,rfl⟩;have HRS:=aH (show RES=if 0<=n/\n < (gr.ns.length:Int) then calL gr T nl n.toNat else [] from by rw [<- hRES];rfl);rw [hRES];unfold PuE;unfold PuE at HCL;unfold BoE at HNU;unfold grv at HNU HCL;unfold grv;obtain ⟨nn,hnn⟩:∃ z,gr.ns.length=z:=⟨_,rfl⟩;obtain ⟨nh,hnh⟩:∃ z,gr.hs.length=z:=⟨_,rfl⟩;obtain ⟨nms,hnms⟩:∃ z,gr.ms.length=z:=⟨_,rfl⟩;obtain ⟨nw,hnw⟩:∃ z,gr.ws.length=z:=⟨_,rfl⟩;rw [hnn,hnh,hnms,hnw] at HO1 HB1 HNU HCL HG1 HN1;rw [hnn] at HRS;rw [hnn,hnh,hnms,hnw];obtain ⟨B,hB⟩:∃ B,w.heap.size=B:=⟨_,rfl⟩;have HBE:=aH hB;rw [hB] at HO1;clear hg hw hT hG hN hRES hnn hnh hnms hnw;go_enter Try.func11,Try.ntmps11;go_upto_region 1 with fail;generalize w.alloc (.cells #[.slice a.mo nms a.mc,.slice a.no nn a.nc,.slice a.ho nh a.hc,.slice a.wo nw a.wc,.int .i64 gr.st] 27)=w1 at *;try rw [hB]
 clear hB;have g0:w1.cell? ⟨B,0,none⟩=some (.slice a.mo nms a.mc):=HO1.o.cell 0;have g1:w1.cell? ⟨B,1,none⟩=some (.slice a.no nn a.nc):=HO1.o.cell 1;have g2:w1.cell? ⟨B,2,none⟩=some (.slice a.ho nh a.hc):=HO1.o.cell 2;have g3:w1.cell? ⟨B,3,none⟩=some (.slice a.wo nw a.wc):=HO1.o.cell 3;have g4:w1.cell? ⟨B,4,none⟩=some (.int .i64 gr.st):=HO1.o.cell 4;have gl:=HO1.o.lt;by_cases h0:n < 0
 · have h0d:decide (n < 0)=true:=aT h0;have HE:=aH (show RES=[] from by rw [HRS.o,if_neg (fun g=>by omega)]);go_wp2;go_ret;rw [HE.o];exact ⟨_,rfl,IntsAt.nil _ _,HB1.o⟩
 ·
  have h0d:decide (n < 0)=false:=aF h0;by_cases h1:(nn:Int)<=n
  · have h1d:decide ((nn:Int)<=n)=true:=aT h1;have HE:=aH (show RES=[] from by rw [HRS.o,if_neg (fun g=>by omega)]);go_wp2;go_ret;rw [HE.o];exact ⟨_,rfl,IntsAt.nil _ _,HB1.o⟩
  ·
   have h1d:decide ((nn:Int)<=n)=false:=aF h1;obtain ⟨k,rfl⟩:∃ k:Nat,n=(k:Int):=⟨n.toNat,by omega⟩;have HE:=aH (show RES=calL gr T nl k from by rw [HRS.o,if_pos (by omega),Int.toNat_natCast]);have HKK:=aH (show k < nn from by omega);have h1n:decide (nn<=k)=false:=aF (by omega);go_upto_region 3 with fail;refine wp_region_heldTz (fun Wx=>B < Wx.heap.size/\Wx.cell? ⟨B,0,none⟩=some (.slice a.mo nms a.mc)/\Wx.cell? ⟨B,1,none⟩=some (.slice a.no nn a.nc)/\Wx.cell? ⟨B,2,none⟩=some (.slice a.ho nh a.hc)/\Wx.cell? ⟨B,3,none⟩=some (.slice a.wo nw a.wc)/\Wx.cell? ⟨B,4,none⟩=some (.int .i64 gr.st)) 5 (by kernel_rfl) ?_;have HSS:=aH (show B < (World.drew w1).heap.size/\(World.drew w1).cell? ⟨B,0,none⟩=some (.slice a.mo nms a.mc)/\(World.drew w1).cell? ⟨B,1,none⟩=some (.slice a.no nn a.nc)/\(World.drew w1).cell? ⟨B,2,none⟩=some (.slice a.ho nh a.hc)/\(World.drew w1).cell? ⟨B,3,none⟩=some (.slice a.wo nw a.wc)/\(World.drew w1).cell? ⟨B,4,none⟩=some (.int .i64 gr.st) from ⟨gl,g0,g1,g2,g3,g4⟩);clear gl g0 g1 g2 g3 g4;refine heldTz.takeD 0 [5] rfl (v:=?_) (Or.inl ⟨by rfl,?_⟩) HSS.o ?_;rotate_left;· rintro W ⟨a0,a1,a2,a3,a4,a5⟩;go_simp;try with_reducible rfl
   go_simp;refine heldTz.takeD 1 [2,5] rfl (v:=?_) (Or.inl ⟨by rfl,?_⟩) HSS.o ?_;rotate_left;· rintro W ⟨a0,a1,a2,a3,a4,a5⟩;go_simp;try with_reducible rfl
   go_simp;refine heldTz.pure 3 rfl (v:=?_) (Or.inl ⟨by rfl,?_⟩) HSS.o ?_;rotate_left;· intro W _;go_simp;try with_reducible rfl
   go_simp;refine heldTz.pure 4 rfl (v:=?_) (Or.inl ⟨by rfl,?_⟩) HSS.o ?_;rotate_left;· intro W _;go_simp;try with_reducible rfl
   go_simp;refine heldTz.one (i:=2) (by kernel_rfl) (op_call (f:=24) (vs:=#[.agg #[.slice a.mo nms a.mc,.slice a.no nn a.nc,.slice a.ho nh a.hc,.slice a.wo nw a.wc,.int .i64 gr.st]]) rfl (by kernel_rfl) (by go_simp) ((HNU.o (World.drew w1) (HG1.o.below (Below.refl w1.heap.size w1).drew)).mono ?_));rintro e w3 ⟨u,he,hu,-,hb3⟩;have hS3:B < w3.heap.size/\w3.cell? ⟨B,0,none⟩=some (.slice a.mo nms a.mc)/\w3.cell? ⟨B,1,none⟩=some (.slice a.no nn a.nc)/\w3.cell? ⟨B,2,none⟩=some (.slice a.ho nh a.hc)/\w3.cell? ⟨B,3,none⟩=some (.slice a.wo nw a.wc)/\w3.cell? ⟨B,4,none⟩=some (.int .i64 gr.st):=⟨aL HSS.o.1 hb3.size,keepc HSS.o.2.1 hb3,keepc HSS.o.2.2.1 hb3,keepc HSS.o.2.2.2.1 hb3,keepc HSS.o.2.2.2.2.1 hb3,keepc HSS.o.2.2.2.2.2 hb3⟩
   replace hb3:Below w1.heap.size w1 w3:=((Below.refl w1.heap.size w1).drew).trans hb3
   refine ⟨_,he,.inr (.inr hS3),?_⟩;have HCC:=aH (HCL.o k HKK.o u w3 (HG1.o.below hb3) hu (HN1.o.below hb3));have HB3:=aH (HB1.o.trans (hb3.mono HB1.o.size));have HSZ:=aH (show w.heap.size<=w3.heap.size from HB3.o.size);clear hS3 hb3 hu HSS;go_simp;refine heldTz.one (i:=5) (by kernel_rfl) (op_call (f:=23) (vs:=#[.agg #[.slice a.mo nms a.mc,.slice a.no nn a.nc,.slice a.ho nh a.hc,.slice a.wo nw a.wc,.int .i64 gr.st],.slice (some ⟨u,0,none⟩) nn nn,.slice no nl nc,.int .i64 (k:Int)]) rfl (by kernel_rfl) (by go_simp) (HCC.o.mono ?_));rintro e w5 ⟨v5,he,hI5,hb5⟩;refine ⟨_,he,.inl rfl,?_⟩;have HI5:=aH (hI5.mono HSZ.o);have HB5:=aH (HB3.o.trans (hb5.mono HB3.o.size));clear hI5 hb5 HCC;go_simp;refine heldTz.one (i:=6) (by kernel_rfl) (op_value (v:=v5) (w':=w5) rfl (by kernel_rfl) (by go_simp;try rfl) ?_);refine ⟨.inr (.inl rfl),?_⟩;refine heldTz.done (by kernel_rfl) ?_ _;go_simp;try go_wp2
   go_ret;rw [HE.o];exact ⟨_,rfl,HI5.o,HB5.o⟩
end Go.Proofs.Ythddifjhoniacaa
