import Derived.Test.YthddifjhoniacaaIa
import Derived.Deep.LoopGhost
import Derived.Deep.CutBlock
namespace Go.Proofs.Ythddifjhoniacaa
set_option linter.unusedVariables false
set_option maxHeartbeats 3200000
set_option maxRecDepth 1000000
open Go.RowKit Go.Sort
theorem info_boolE:(Try.prog.info? 4).map (fun i=>(i.zero,i.size,i.bytes))=some (some (.bool false),1,1):=by kernel_rfl
theorem run_boolsE (n:Nat) (hn:(n:Int)<=1000) (w:World):(Instr.makeSlice 37 (.int .i64 (n:Int)) (.int .i64 (n:Int))).run Try.prog w=.ok (.slice (some ⟨w.heap.size,0,none⟩) n n) (w.alloc (.cells (Array.replicate n (Value.bool false)) 4)):=by obtain ⟨j0,hj,hy0,hy1,hy2⟩:=info_parts info_boolE;have h:=run_make (P:=Try.prog) w 37 4 j0 (.bool false) Try.underlying37 hj hy0 .i64 .i64 n n (by omega) (Int.le_refl _) (by rw [hy2];omega) (by omega);rw [h,hy1,Int.toNat_natCast,Nat.mul_one,<- List.toArray_replicate,<- toList_madeCells_one];rfl
theorem rowB_zero (N:Nat):rowB (fun _=>false) N=List.replicate N (Value.bool false):=by unfold rowB;rw [List.map_const',List.length_range]
theorem passB_mark {R:(Nat->Bool)->Nat->Bool} {N k:Nat} {M:Nat->Bool} {z:Bool} (hk:k < N) (h1:M k=false) (h2:R M k=true):passB R (N - k) k M z=passB R (N - (k + 1)) (k + 1) (setB M k) true:=by rw [show N - k=(N - (k + 1)) + 1 by omega];show (if (!M k && R M k)=true then passB R (N - (k + 1)) (k + 1) (setB M k) true else passB R (N - (k + 1)) (k + 1) M z)=_;rw [h1,h2];exact if_pos rfl
theorem passB_keep {R:(Nat->Bool)->Nat->Bool} {N k:Nat} {M:Nat->Bool} {z:Bool} (hk:k < N) (h:(!M k && R M k)=false):passB R (N - k) k M z=passB R (N - (k + 1)) (k + 1) M z:=by rw [show N - k=(N - (k + 1)) + 1 by omega];show (if (!M k && R M k)=true then passB R (N - (k + 1)) (k + 1) (setB M k) true else passB R (N - (k + 1)) (k + 1) M z)=_;rw [h];exact if_neg (by decide)
theorem eleast_any (gr:Gj) (a:Gv) (hg:Good gr) (R:(Nat->Bool)->Nat->Bool) (fid:Nat) (eg:∀ args W,(callFunc fid args).run Try.prog W=.ok (.enter fid args) W)
  (hF:∀ (M:Nat->Bool) (n g:Nat) (W:World),n < gr.ns.length->HasG W gr a->Own W g 4 (rowB M gr.ns.length)->Calls Try.prog fid #[grv gr a,.slice (some ⟨g,0,none⟩) gr.ns.length gr.ns.length,.int .i64 (n:Int)] W fun e w'=>e=.returned (.bool (R M n))/\Below W.heap.size W w')
  (w:World) (hG:HasG w gr a) :
  Calls Try.prog 42 #[grv gr a,.func (.func fid) #[] #[]] w fun e w'=>∃ g,e=.returned (.slice (some ⟨g,0,none⟩) gr.ns.length gr.ns.length)/\Own w' g 4 (rowB (leastB R gr.ns.length (gr.ns.length + 1) (fun _=>false)) gr.ns.length)/\w.heap.size<=g/\Below w.heap.size w w':=by
 have HF:=aH hF;have HB1:=gB w a gr;have HO1:=gO w a gr;have HG1:=aH ((hG.mono (T:=fun b=>b < w.heap.size) (fun _ h _=>h)).below HB1.o);obtain ⟨RES,hRES⟩:∃ z,leastB R gr.ns.length (gr.ns.length + 1) (fun _=>false)=z:=⟨_,rfl⟩;have HR0:=aH hRES;rw [hRES];unfold grv;unfold grv at HF;obtain ⟨nn,hnn⟩:∃ z,gr.ns.length=z:=⟨_,rfl⟩;obtain ⟨nh,hnh⟩:∃ z,gr.hs.length=z:=⟨_,rfl⟩;obtain ⟨nms,hnms⟩:∃ z,gr.ms.length=z:=⟨_,rfl⟩;obtain ⟨nw,hnw⟩:∃ z,gr.ws.length=z:=⟨_,rfl⟩;have hn160:(nn:Int)<=160:=by have:=hg.len;omega
 rw [hnn] at HR0;rw [hnn,hnh,hnms,hnw] at HF HB1 HO1 HG1;rw [hnn,hnh,hnms,hnw];obtain ⟨B,hB⟩:∃ B,w.heap.size=B:=⟨_,rfl⟩;have HW1:=aH (show (w.alloc (.cells #[.slice a.mo nms a.mc,.slice a.no nn a.nc,.slice a.ho nh a.hc,.slice a.wo nw a.wc,.int .i64 gr.st] 27)).heap.size=B + 1 from by rw [<- hB];simp);have HBE:=aH hB;rw [hB] at HO1;clear hg hG hF hRES hnn hnh hnms hnw;have hmk:∀ W:World,(Instr.makeSlice 37 (.int .i64 (nn:Int)) (.int .i64 (nn:Int))).run Try.prog W=.ok (.slice (some ⟨W.heap.size,0,none⟩) nn nn) (W.alloc (.cells (Array.replicate nn (Value.bool false)) 4)):=fun W=>run_boolsE nn (by omega) W;go_enter Try.func42,Try.ntmps42;go_upto_region 1 with fail;generalize w.alloc (.cells #[.slice a.mo nms a.mc,.slice a.no nn a.nc,.slice a.ho nh a.hc,.slice a.wo nw a.wc,.int .i64 gr.st] 27)=w1 at *;try rw [hB]
 clear hB;have g0:w1.cell? ⟨B,0,none⟩=some (.slice a.mo nms a.mc):=HO1.o.cell 0;have g1:w1.cell? ⟨B,1,none⟩=some (.slice a.no nn a.nc):=HO1.o.cell 1;have gl:=HO1.o.lt;have hbl:Below w1.heap.size w1 (w1.alloc (.cells (Array.replicate nn (Value.bool false)) 4)):=bA _;have HB2:=aH (HB1.o.trans (hbl.mono HB1.o.size));have HG2:=aH (HG1.o.below hbl);have HO2:=aH (HO1.o.under hbl HO1.o.lt);have HM2:=aH (show Own (w1.alloc (.cells (Array.replicate nn (Value.bool false)) 4)) (B + 1) 4 (rowB (fun _=>false) nn) by rw [rowB_zero,<- List.toArray_replicate,<- HW1.o];exact Own.fresh w1 4 _);clear hbl;go_upto_region 3 with fail;generalize w1.alloc (.cells (Array.replicate nn (Value.bool false)) 4)=w2 at *;try rw [HW1.o]
 clear g0 g1 gl hmk HO1 HG1 HB1
 go_loopg [6] (nn + 1) (fun f v6 wr=>∃ (M:Nat->Bool) (z:Bool),v6=.bool z/\aQ (RES=if z=true then leastB R nn f M else M)/\aQ (z=true->lackB M nn < f)/\aQ (Own wr (B + 1) 4 (rowB M nn))/\aQ (Own wr B 27 [.slice a.mo nms a.mc,.slice a.no nn a.nc,.slice a.ho nh a.hc,.slice a.wo nw a.wc,.int .i64 gr.st])/\aQ (HasGR wr (fun b=>b < w.heap.size) gr a)/\aQ (Below w.heap.size w wr))
 case atStart=>exact ⟨fun _=>false,true,rfl,aH (by rw [if_pos rfl];exact HR0.o.symm),aH (fun _=>by have:=lackB_le (fun _=>false) nn;omega),HM2,HO2,HG2,HB2⟩
 case round =>
  obtain ⟨M,z,rfl,HS,HLK,HM,HO,HG,HB⟩:=hrel
  cases z with
  | false =>
   have HE:=aH (show RES=M from by rw [HS.o,if_neg (by decide)]);go_wp2;go_ret;exact ⟨B + 1,rfl,by rw [HE.o];exact HM.o,by have:=HBE.o;omega,HB.o⟩
  | true =>
   obtain ⟨f,rfl⟩:∃ f,gk=f + 1:=⟨gk - 1,by have:=HLK.o rfl;omega⟩;have HS1:=aH (show RES=leastB R nn (f + 1) M from by rw [HS.o,if_pos rfl]);have HL1:=aH (HLK.o rfl);clear HM2 HO2 HG2 HB2 HS HLK;have g1:wr.cell? ⟨B,1,none⟩=some (.slice a.no nn a.nc):=HO.o.cell 1;have gl:=HO.o.lt;go_wp2_with fail
   go_loopg [6,16] nn (fun j v6 v16 wx=>∃ (k:Nat) (M1:Nat->Bool) (z:Bool),v6=.bool z/\v16=.int .i64 (k:Int)/\k + j=nn/\aQ (passB R nn 0 M false=passB R (nn - k) k M1 z)/\aQ (lackB M1 nn + (if z=true then 1 else 0)<=lackB M nn)/\aQ (Own wx (B + 1) 4 (rowB M1 nn))/\aQ (Own wx B 27 [.slice a.mo nms a.mc,.slice a.no nn a.nc,.slice a.ho nh a.hc,.slice a.wo nw a.wc,.int .i64 gr.st])/\aQ (HasGR wx (fun b=>b < w.heap.size) gr a)/\aQ (Below w.heap.size w wx))
   case atStart=>exact ⟨0,M,false,rfl,rfl,by omega,aH rfl,aH (Nat.le_refl _),HM,HO,HG,HB⟩
   case round =>
    obtain ⟨k,M1,z,rfl,rfl,hkj,HP,HL,HMx,HOx,HGx,HBx⟩:=hrel;clear HM HO HG HB g1 gl;by_cases hk:k < nn
    ·
     obtain ⟨j,rfl⟩:∃ j,gk=j + 1:=⟨gk - 1,by omega⟩;have hk1:decide ((k:Int) < (nn:Int))=true:=aT (by omega);have hk2:decide (k < nn)=true:=aT hk;have hw1:IntKind.i64.wrap ((k:Int) + 1)=(k:Int) + 1:=wI;have m0:wr.cell? ⟨B + 1,k,none⟩=some (.bool (M1 k)):=(by rw [HMx.o.cell k];exact rowB_at M1 nn k hk);have ml:=HMx.o.lt;have g0:wr.cell? ⟨B,0,none⟩=some (.slice a.mo nms a.mc):=HOx.o.cell 0;have g1:wr.cell? ⟨B,1,none⟩=some (.slice a.no nn a.nc):=HOx.o.cell 1;have g2:wr.cell? ⟨B,2,none⟩=some (.slice a.ho nh a.hc):=HOx.o.cell 2;have g3:wr.cell? ⟨B,3,none⟩=some (.slice a.wo nw a.wc):=HOx.o.cell 3;have g4:wr.cell? ⟨B,4,none⟩=some (.int .i64 gr.st):=HOx.o.cell 4;have gl:=HOx.o.lt;obtain ⟨b1,hb1⟩:∃ z,M1 k=z:=⟨_,rfl⟩;have HBK:=aH hb1;rw [hb1] at m0;clear hb1
     cases b1 with
     | true =>
      have HPN:=aH (show passB R nn 0 M false=passB R (nn - (k + 1)) (k + 1) M1 z from HP.o.trans (passB_keep hk (by rw [HBK.o];rfl)));go_wp2
      go_roundg j
      case measure=>omega
      case rel=>exact ⟨k + 1,M1,z,rfl,by go_num,by omega,HPN,HL,HMx,HOx,HGx,HBx⟩
     | false =>
      have HC:=aH (HF.o M1 k (B + 1) wr hk (HGx.o.mono fun _ _ _=>trivial) HMx.o);go_wp2_with fail;refine HC.o.mono ?_;rintro e wy ⟨he,hby⟩;subst he;have HMy:=aH (HMx.o.under hby HMx.o.lt);have HOy:=aH (HOx.o.under hby HOx.o.lt);have HGy:=aH (HGx.o.below hby);have HBy:=aH (HBx.o.trans (hby.mono HBx.o.size));clear hby HMx HOx HGx HBx g0 g1 g2 g3 g4 gl m0 ml HC;obtain ⟨r,hr⟩:∃ z,R M1 k=z:=⟨_,rfl⟩;have HRK:=aH hr;rw [hr];clear hr
      cases r with
      | false =>
       have HPN:=aH (show passB R nn 0 M false=passB R (nn - (k + 1)) (k + 1) M1 z from HP.o.trans (passB_keep hk (by rw [HBK.o,HRK.o];rfl)));go_wp2
       go_roundg j
       case measure=>omega
       case rel=>exact ⟨k + 1,M1,z,rfl,by go_num,by omega,HPN,HL,HMy,HOy,HGy,HBy⟩
      | true =>
       have HPN:=aH (show passB R nn 0 M false=passB R (nn - (k + 1)) (k + 1) (setB M1 k) true from HP.o.trans (passB_mark hk HBK.o HRK.o))
       have HLN:=aH (show lackB (setB M1 k) nn + (if true=true then 1 else 0)<=lackB M nn from by
        have h1:=lackB_set M1 k HBK.o nn;have h2:=lackB_one M1 k HBK.o nn hk;rw [if_pos hk] at h1;have h3:=HL.o;rw [h1,if_pos rfl]
        omega)
       have m0:wy.cell? ⟨B + 1,k,none⟩=some (.bool false):=(by rw [HMy.o.cell k,rowB_at M1 nn k hk,HBK.o]);have f0:wy.frozen? ⟨B + 1,k,none⟩=false:=HMy.o.thaw k;have ml:=HMy.o.lt;have hbt:But (fun j=>j=B + 1) wy (wy.setCell ⟨B + 1,k,none⟩ (.bool true)):=(But.refl (fun j=>j=B + 1) wy).setCell (p:=⟨B + 1,k,none⟩) (fun _=>rfl) _;have HMz:=aH (show Own (wy.setCell ⟨B + 1,k,none⟩ (.bool true)) (B + 1) 4 (rowB (setB M1 k) nn) from by rw [<- rowB_set M1 nn k hk];exact HMy.o.put k (.bool true));have HOz:=aH (HOy.o.but hbt (by show ¬ B=B + 1;omega));have HGz:=aH (HGy.o.but hbt (fun j _ hj h=>by have:=HBE.o;have:j=B + 1:=h;omega));have HBz:=aH (HBy.o.trans (hbt.below (B:=w.heap.size) HBy.o.size (fun j h=>by have:=HBE.o;omega)));clear hbt;go_wp2
       go_roundg j
       case measure=>omega
       case rel=>exact ⟨k + 1,setB M1 k,true,rfl,by go_num,by omega,HPN,HLN,HMz,HOz,HGz,HBz⟩
    ·
     have hk1:decide ((k:Int) < (nn:Int))=false:=aF (by omega);have hk2:decide (k < nn)=false:=aF hk;have HP2:=aH (show passB R nn 0 M false=(M1,z) from HP.o.trans (by rw [show nn - k=0 by omega];rfl))
     have HSN:=aH (show RES=if z=true then leastB R nn f M1 else M1 from by
      rw [HS1.o]
      show (match passB R nn 0 M false with
       | (M',true)=>leastB R nn f M'
       | (M',false)=>M')=_
      rw [HP2.o]
      cases z <;> rfl)
     have HLN:=aH (show z=true->lackB M1 nn < f from fun h=>by
      have h1:=HL.o;have h2:=HL1.o;rw [if_pos h] at h1
      omega)
     go_wp2
     go_roundg f
     case measure=>omega
     case rel=>exact ⟨M1,z,rfl,HSN,HLN,HMx,HOx,HGx,HBx⟩
def BoE (gr:Gj) (M:Nat->Bool) (w:World) (e:Ending) (w':World):Prop:=∃ g,e=.returned (.slice (some ⟨g,0,none⟩) gr.ns.length gr.ns.length)/\Own w' g 4 (rowB M gr.ns.length)/\w.heap.size<=g/\Below w.heap.size w w'
theorem enull_any (gr:Gj) (a:Gv) (hg:Good gr) (w:World) (hG:HasG w gr a):Calls Try.prog 24 #[grv gr a] w (BoE gr (nulG gr) w):=by
 have HB1:=gB w a gr;have HO1:=gO w a gr;have HL:=aH (eleast_any gr a hg (nulB gr) 43 (fun _ _=>rfl) (fun M n g W hn h1 h2=>etake_any gr a hg M n g hn W h1 h2) (w.alloc (.cells #[.slice a.mo gr.ms.length a.mc,.slice a.no gr.ns.length a.nc,.slice a.ho gr.hs.length a.hc,.slice a.wo gr.ws.length a.wc,.int .i64 gr.st] 27)) (hG.below HB1.o));unfold grv;unfold grv at HL;obtain ⟨B,hB⟩:∃ B,w.heap.size=B:=⟨_,rfl⟩;rw [hB] at HO1;have HBE:=aH hB;clear hg hG;go_enter Try.func24,Try.ntmps24;go_upto_region 1 with fail;generalize w.alloc (.cells #[.slice a.mo gr.ms.length a.mc,.slice a.no gr.ns.length a.nc,.slice a.ho gr.hs.length a.hc,.slice a.wo gr.ws.length a.wc,.int .i64 gr.st] 27)=w1 at *;try rw [hB]
 clear hB;have g0:=HO1.o.cell 0;have g1:=HO1.o.cell 1;have g2:=HO1.o.cell 2;have g3:=HO1.o.cell 3;have g4:=HO1.o.cell 4;have gl:=HO1.o.lt;simp only [List.getElem?_cons_zero,List.getElem?_cons_succ] at g0 g1 g2 g3 g4;go_wp2_with fail;refine HL.o.mono ?_;rintro e w2 ⟨g,he,hO,hgs,hb⟩;subst he;have HO:=aH hO;have HB2:=aH (HB1.o.trans (hb.mono HB1.o.size));have HGS:=aH (show w.heap.size<=g from Nat.le_trans HB1.o.size hgs);clear hO hb hgs g0 g1 g2 g3 g4 gl;go_wp2;go_ret;exact ⟨g,rfl,HO.o,HGS.o,HB2.o⟩
end Go.Proofs.Ythddifjhoniacaa
