import Derived.Test.YthkdnehgamefiaaGreatJx
namespace Go.Proofs.YthkdnehgamefiaaGreat
set_option linter.unusedVariables false
open Go.RowKit Go.Sort
set_option maxRecDepth 1000000 in
set_option maxHeartbeats 6400000 in
theorem A7V (ML:List Md) (FL:List Nat) (mo:Option Addr) (mc:Nat) (w0:World) (D0:Nat) (hM:fK w0 D0 mo ML) (hfew:Few ML) (hFL:FL.length=ML.length) (hFb:∀ x ∈ FL,x<=1000000000) (g:Nat) (mod:Nat) (hmod:mod<=1000000) (ru:Int) (rows:Rw) (hr5:rows 5=(FL.length,lD FL)) (st:Int) (P:Ex->List Nj->Pt) (nd:Nat)
  (o a b c d:Int) (t:ByteArray) (K:List Ex)
  (hPL:∀ y N,N.length<=(P y N).1.length) (hP:∀ y ∈ K,∀ (yo:Option Addr) (yc:Nat),aV w0 nd yo y.kids->∀ (W:World) (ct:Nat->Nat) (N:List Nj),Jn w0 W g ct rows (.slice mo ML.length mc) st N none->Calls Tryz.prog 27 #[.pointer (some ⟨g,0,none⟩),exv y yo yc,.int .i64 (mod:Int),.int .i64 ru] W (JPo w0 g rows (.slice mo ML.length mc) st (P y N) W ct))
  (ht:t.size<=100000) (hk:K.length<=90001) (ko:Option Addr) (kc:Nat) (hK:aV w0 (nd + 1) ko K) (w:World) (ct:Nat->Nat) (N:List Nj) (hJ:Jn w0 w g ct rows (.slice mo ML.length mc) st N none) :
  Calls Tryz.prog 27 #[.pointer (some ⟨g,0,none⟩),.agg #[.int .i64 o,.string t,.int .u64 a,.int .u64 b,.int .u64 c,.int .u64 d,.slice ko K.length kc],.int .i64 (mod:Int),.int .i64 ru] w (JPo w0 g rows (.slice mo ML.length mc) st (B8b ML FL mod ru P (.mk o t a b c d K) N) w ct):=by
 have HP:=aH hP;have HPL:=aH hPL;have HK:=aH hK;obtain ⟨m,hm⟩:∃ m,K.length=m:=⟨_,rfl⟩;have HKM:=aH hm;have hm9:m<=90001:=by rw [<- hm];exact hk
 have HRV:=aH (fun (W:World) (hW:fK W D0 mo ML)=>Ia ML D0 mo mc (mod:Int) t (by omega) hfew W hW);have HMS:=aH (fun (W:World) (h:Below w0.heap.size w0 W)=>hM.below h);have HFEW:=aH hfew;obtain ⟨nm,hnm⟩:∃ n,ML.length=n:=⟨_,rfl⟩;have HNM:=aH hnm;have HFL:=aH (show FL.length=nm from hFL.trans hnm);have HFB:=aH hFb;have HR5:=aH hr5;obtain ⟨RES,hRES⟩:∃ r,B8b ML FL mod ru P (.mk o t a b c d K) N=r:=⟨_,rfl⟩
 have HS:=aH (show RES=if 160<=N.length then (N,some (3,(mod:Int),ru),0) else match toO ML FL mod (.mk o t a b c d K) with
  | none=>(N,some (5,(mod:Int),ru),0)
  | some tt=>AY N.length (kV P K (N ++ [sW (.mk o t a b c d K) [] tt mod ru]) []) from by rw [<- hRES];rfl)
 have HB1:=aH (show Below w.heap.size w (w.alloc (.cells #[.int .i64 o,.string t,.int .u64 a,.int .u64 b,.int .u64 c,.int .u64 d,.slice ko m kc] 32)) from bA _);have HX1:=aH (Own.fresh w 32 [.int .i64 o,.string t,.int .u64 a,.int .u64 b,.int .u64 c,.int .u64 d,.slice ko m kc]);have HJ1:=aH (hJ.below HB1.o);have HJ:=aH hJ;rw [hnm] at HJ1 HP HRV HJ;rw [hRES,hm,hnm];clear hP hPL hK hm hJ hM hfew hnm hFL hFb hr5 hRES;go_enter Tryz.func27,Tryz.ntmps27;go_upto_region 1 with fail;obtain ⟨B5,hB5⟩:∃ B,w.heap.size=B:=⟨_,rfl⟩;have HZB:=aH hB5;generalize hw1:w.alloc (.cells #[.int .i64 o,.string t,.int .u64 a,.int .u64 b,.int .u64 c,.int .u64 d,.slice ko m kc] 32)=w1 at *;clear hw1;rw [hB5] at HX1;try rw [hB5]
 clear hB5;obtain ⟨v,Z,hW,hZ,hKn⟩:=HJ1.o;have ho:Own w1 g 71 [.slice mo nm mc,v 1,v 2,v 3,v 4,.int .i64 st,v 5,.int .i64 0,.int .i64 0,.int .i64 0,.int .i64 0]:=hW.own;have HWN:=aH (show Win (fun b=>ct b=2) 62 10 w1 (v 2) Z.length (Z.flatMap tyN) from by have q:=hW.win 2 (by omega) (by omega);rw [upd_same] at q;exact q);obtain ⟨zn,hzn⟩:∃ n,Z.length=n:=⟨_,rfl⟩;have HZN:=aH hzn;rw [hzn] at HWN;have HNL:=aH (show N.length=zn from by rw [<- hZ,List.length_map,hzn]);obtain ⟨no,nc,hv2,hnc,-,-⟩:=HWN.o.form;obtain ⟨c0,-,c2,-,-,-,c6,c7,-⟩:=ho.elev;rw [hv2] at c2;have HW:=aH hW;have HZ:=aH hZ;have HKN:=aH hKn;have HV2:=aH hv2;have hgl:=ho.lt;obtain ⟨a0,a1,a2,a3,a4,a5,a6⟩:=HX1.o.seven;have al:=HX1.o.lt;clear ho hW hZ hKn hv2 hzn;by_cases h160:(160:Int)<=(zn:Int)
 · have g160:decide ((160:Int)<=(zn:Int))=true:=aT h160;have g160n:decide (160<=zn)=true:=aT (by omega);have HE:=aH (HS.o.trans (if_pos (by have:=HNL.o;omega)));go_wp2_with fail;refine (nO 3 (mod:Int) ru (by decide) HW.o).mono ?_;rintro e w2 ⟨rfl,hW2,hb2⟩;have HW2:=aH hW2;have HBU:=aH hb2;clear hW2 hb2;go_wp2;go_ret;rw [HE.o];exact ⟨ct,rfl,⟨v,Z,HW2.o,HZ.o,fun z hz=>(HKN.o z hz).but HBU.o fun b _ hb e=>by have e:b=g:=e;rw [e,HW.o.cg] at hb;omega⟩,(But.of_below HB1.o).trans (HBU.o.mono (T:=fun b=>b=g\/ct b=2) fun b _ h=>.inl h) (fun b _ h=>h),Agree.refl _ _⟩
 ·
  have g160:decide ((160:Int)<=(zn:Int))=false:=aF h160;have g160n:decide (160<=zn)=false:=aF (by omega);have HS2:=aH (HS.o.trans (if_neg (by have:=HNL.o;omega)));clear HS;have HB2:=aH (show Below w1.heap.size w1 (w1.alloc (.cells #[.int .i64 o,.string t,.int .u64 a,.int .u64 b,.int .u64 c,.int .u64 d,.slice none 0 0,.int .i64 (-1),.int .i64 (mod:Int),.int .i64 ru] 62)) from bA _);have HX2:=aH (HX1.o.on_alloc (.cells #[.int .i64 o,.string t,.int .u64 a,.int .u64 b,.int .u64 c,.int .u64 d,.slice none 0 0,.int .i64 (-1),.int .i64 (mod:Int),.int .i64 ru] 62));have HY2:=aH (Own.fresh w1 62 [.int .i64 o,.string t,.int .u64 a,.int .u64 b,.int .u64 c,.int .u64 d,.slice none 0 0,.int .i64 (-1),.int .i64 (mod:Int),.int .i64 ru]);have HW2:=aH (HW.o.below HB2.o);have HKN2:=aH (fun z hz=>(HKN.o z hz).but (S:=fun _=>False) (But.of_below HB2.o) fun _ _ _ h=>h);obtain ⟨A,hA⟩:∃ A,w1.heap.size=A:=⟨_,rfl⟩;have HA:=aH hA;obtain ⟨bo,hbo⟩:∃ z,(o == 11)=z:=⟨_,rfl⟩;have HBO:=aH hbo;go_upto_region 6 with fail;generalize hw2:w1.alloc (.cells #[.int .i64 o,.string t,.int .u64 a,.int .u64 b,.int .u64 c,.int .u64 d,.slice none 0 0,.int .i64 (-1),.int .i64 (mod:Int),.int .i64 ru] 62)=w2 at *;clear hw2;rw [hA] at HY2;try rw [hA]
  clear hA a0 a1 a2 a3 a4 a5 a6 al c0 c2 c6 c7 hgl;obtain ⟨a0,a1,a2,a3,a4,a5,a6⟩:=HX2.o.seven
  go_upto_if 39 with fail
  go_cut [] (fun wx=>∃ tt:Int,aQ (RES=AY N.length (kV P K (N ++ [sW (.mk o t a b c d K) [] tt mod ru]) []))/\aQ (Own wx A 62 [.int .i64 o,.string t,.int .u64 a,.int .u64 b,.int .u64 c,.int .u64 d,.slice none 0 0,.int .i64 tt,.int .i64 (mod:Int),.int .i64 ru])/\aQ (Own wx B5 32 [.int .i64 o,.string t,.int .u64 a,.int .u64 b,.int .u64 c,.int .u64 d,.slice ko m kc])/\aQ (∃ wq,Below w2.heap.size w2 wq/\But (fun j=>j=A) wq wx))
  case first =>
   cases bo with
   | false =>
    have HE:=aH (show RES=AY N.length (kV P K (N ++ [sW (.mk o t a b c d K) [] (-1) mod ru]) []) from by rw [HS2.o,show toO ML FL mod (.mk o t a b c d K)=some (-1) from if_neg (by have:=HBO.o;exact aN.1 this)]);go_wp2
    go_meet
    exact ⟨-1,HE,HY2,HX2,aH ⟨w2,Below.refl _ _,But.refl _ _⟩⟩
   | true =>
    have ho11:o=11:=beq_iff_eq.1 HBO.o;have ho2:Own w2 g 71 [.slice mo nm mc,v 1,v 2,v 3,v 4,.int .i64 st,v 5,.int .i64 0,.int .i64 0,.int .i64 0,.int .i64 0]:=HW2.o.own;have c0:w2.cell? ⟨g,0,none⟩=some (.slice mo nm mc):=ho2.cell 0;have c0':=cell_regrown c0;have a1':=cell_regrown a1;have hgl:=ho2.lt;obtain ⟨⟨rm,rr,rb⟩,hr⟩:∃ r,uD ML (mod:Int) t=r:=⟨_,rfl⟩;have HRR:=aH hr
    have HTO:=aH (show toO ML FL mod (.mk o t a b c d K)=(match (rm,rr,rb) with
     | (m,r,true)=>some ((FL.getD m.toNat 0:Nat) + r)
     | (_,_,false)=>none) from by rw [<- hr];exact if_pos ho11)
    have CPS:=aH (fun (dq:Nat) (os:Array Obj)=>show Calls Tryz.prog 58 #[.slice mo nm mc,.int .i64 (mod:Int),.string t] (grow (redrawn w2 dq) os) fun e w'=>e=.returned (.tuple #[.int .i64 rm,.int .i64 rr,.bool rb])/\Below (grow (redrawn w2 dq) os).heap.size (grow (redrawn w2 dq) os) w' from by
     have h:=HRV.o _ (HMS.o _ (HW2.o.bl.trans ((below_regrown w2 dq os).mono HW2.o.bl.size)));rw [hr] at h
     exact h)
    clear ho11 hr ho2;go_wp2_with fail;refine wp_region_quiet_below (by kernel_rfl) (by kernel_rfl) ?_
    repeat (go_big_quiet_step (first
     | (go_at_call 58;with_reducible exact Calls.regrown_of (CPS.o _ _))))
    refine wpQuiet_nil ?_;intro _ hw';obtain ⟨⟨dq,osq⟩,hw''⟩:=hw';subst hw'';have hbr:=below_regrown w2 dq osq;clear c0' a1' CPS c0;have HB3:=aH hbr;have HW3:=aH (HW2.o.below hbr);have HKN3:=aH (fun z hz=>(HKN2.o z hz).but (S:=fun _=>False) (But.of_below hbr) fun _ _ _ h=>h);have HX3:=aH (HX2.o.under hbr HX2.o.lt);have HY3:=aH (HY2.o.under hbr HY2.o.lt);clear hbr;generalize grow (redrawn w2 dq) osq=w3 at *
    cases rb with
    | false =>
     have HE:=aH (show RES=(N,some (5,(mod:Int),ru),0) from by rw [HS2.o,HTO.o]);go_wp2_with fail;refine (nO 5 (mod:Int) ru (by decide) HW3.o).mono ?_;rintro e w4 ⟨rfl,hW4,hb4⟩;have HW4:=aH hW4;have HBU:=aH hb4;clear hW4 hb4;go_wp2;go_ret;rw [HE.o];exact ⟨ct,rfl,⟨v,Z,HW4.o,HZ.o,fun z hz=>(HKN3.o z hz).but HBU.o fun b _ hb e=>by have e:b=g:=e;rw [e,HW3.o.cg] at hb;omega⟩,((But.of_below HB1.o).trans (But.of_below HB2.o) (fun b _ h=>h)).trans ((But.of_below HB3.o).trans (HBU.o.mono (T:=fun b=>b=g\/ct b=2) fun b _ h=>.inl h) (fun b _ h=>h)) (fun b _ h=>h),Agree.refl _ _⟩
    | true =>
     obtain ⟨mm,md,hmm,hmd,-,hr0,hr1⟩:=DJ HRR.o;subst hmm;have hmmn:mm < nm:=(by have:=(aS.1 hmd).1;have:=HNM.o;omega);have hrr:rr<=1000000:=(by have:=(HFEW.o.2 md (aM hmd)).2;omega);obtain ⟨fx,hfx⟩:∃ x,FL[mm]?=some x:=⟨_,aG (by have:=HFL.o;omega)⟩;have hfb:fx<=1000000000:=HFB.o fx (aM hfx)
     have HTO2:=aH (show toO ML FL mod (.mk o t a b c d K)=some ((fx:Int) + rr) from by
      rw [HTO.o];show some (((FL.getD (mm:Int).toNat 0:Nat):Int) + rr)=_
      rw [Int.toNat_natCast,List.getD_eq_getElem?_getD,hfx];rfl)
     have HWF:=aH (show Win (fun b=>ct b=5) 3 1 w3 (v 5) FL.length (lD FL) from by
      have q:=HW3.o.win 5 (by omega) (by omega)
      rw [iB _ _ (by decide),HR5.o] at q;exact q)
     obtain ⟨fo,fc,hv5,-,-,-⟩:=HWF.o.form;have hkf:=HWF.o;rw [hv5] at hkf;obtain ⟨fb,foff,hfo,hfl,-,d0⟩:=Tq hkf mm fx hfx;have ho3:Own w3 g 71 [.slice mo nm mc,v 1,v 2,v 3,v 4,.int .i64 st,v 5,.int .i64 0,.int .i64 0,.int .i64 0,.int .i64 0]:=HW3.o.own;have c6:w3.cell? ⟨g,6,none⟩=some (.slice (some ⟨fb,foff,none⟩) nm fc):=(by have q:=ho3.cell 6;rw [q,<- hfo,<- HFL.o];exact congrArg some hv5);have hwr:IntKind.i64.wrap ((fx:Int) + rr)=(fx:Int) + rr:=wI;have hmi:decide ((mm:Int) < (nm:Int))=true:=aT (by omega);have hmin:decide (mm < nm)=true:=aT hmmn;have hyl:=HY3.o.lt;have hyf:w3.frozen? ⟨A,7,none⟩=false:=HY3.o.thaw 7;have hy7:w3.cell? ⟨A,7,none⟩=some (.int .i64 (-1)):=HY3.o.cell 7;have hgl3:=ho3.lt;have HAB:=aH (show A ≠ B5/\B5 < w2.heap.size from ⟨fun e=>by have h1:=HX1.o.lt;have h2:=HA.o;omega,HX2.o.lt⟩);have HE:=aH (show RES=AY N.length (kV P K (N ++ [sW (.mk o t a b c d K) [] ((fx:Int) + rr) mod ru]) []) from by rw [HS2.o,HTO2.o]);clear hmd hfx hkf hfo ho3 hr1 hv5;go_wp2
     go_meet
     exact ⟨(fx:Int) + rr,HE,aH (HY3.o.put 7 _),aH (HX3.o.but (But.put w3 A 7 _) (fun e=>HAB.o.1 e.symm)),aH ⟨w3,HB3.o,But.put w3 A 7 _⟩⟩
  case rest =>
   obtain ⟨tt,HRS,HY,HX,HQ⟩:=hcut;obtain ⟨wq,hq1,hq2⟩:=HQ.o;have hgw:g < w.heap.size/\ct B5=0/\ct A=0/\w0.heap.size<=w.heap.size/\B5 < A/\ct g=9:=by
    obtain ⟨v',Z',hj,-⟩:=HJ.o;refine ⟨hj.own.lt,?_,?_,hj.bl.size,?_,hj.cg⟩
    ·
     by_cases e:ct B5=0
     · exact e
     · have:=(hj.dom B5 e).2;have:=HZB.o;omega
    ·
     by_cases e:ct A=0
     · exact e
     · have:=(hj.dom A e).2;have:=HB1.o.size;have:=HA.o;omega
    · have:=HX1.o.lt;have:=HA.o;omega
   have HGW:=aH hgw
   have HWC:=aH ((HW2.o.below hq1).other hq2 (fun b hb e=>by
    have e:b=A:=e;subst e
    exact ⟨hgw.2.2.1,by have:=HB1.o.size;have:=HA.o;omega⟩))
   have HBC:=aH ((But.of_below (S:=fun j=>j=A) hq1).trans hq2 (fun b _ h=>h));have HKC:=aH (Ml (c1:=ct) (w':=wc) HKN2.o HBC.o (fun b _ h7 e=>by have e:b=A:=e;rw [e,hgw.2.2.1] at h7;omega) (Agree.refl _ _))
   have HUC:=aH (show But (fun b=>b=g\/ct b=2) w wc from by
    have q:=((But.of_below (S:=fun b=>b=g\/ct b=2) HB1.o).trans (But.of_below HB2.o) (fun b _ h=>h)).trans HBC.o (T:=fun j=>j=A) (fun b hb e=>by
     have e:b=A:=e
     have:=HB1.o.size;have:=HA.o;omega)
    exact q)
   clear hq1 hq2 HQ HW2 HKN2 HY2 HX2 HBC a0 a1 a2 a3 a4 a5 a6 hgw HS2 HRV HMS HW HKN HJ1 HBO;clear hbo
   have HWN2:=aH (show Win (fun b=>ct b=2) 62 10 wc (.slice no zn nc) zn (Z.flatMap tyN) from by
    have q:=HWC.o.win 2 (by omega) (by omega);rw [upd_same] at q;have q:Win (fun b=>ct b=2) 62 10 wc (v 2) Z.length (Z.flatMap tyN):=q;rw [HZN.o,HV2.o] at q
    exact q)
   have hoc:Own wc g 71 [.slice mo nm mc,v 1,.slice no zn nc,v 3,v 4,.int .i64 st,v 5,.int .i64 0,.int .i64 0,.int .i64 0,.int .i64 0]:=(by have q:Own wc g 71 [.slice mo nm mc,v 1,v 2,v 3,v 4,.int .i64 st,v 5,.int .i64 0,.int .i64 0,.int .i64 0,.int .i64 0]:=HWC.o.own;rw [HV2.o] at q;exact q);have HOC:=aH hoc;have c2:wc.cell? ⟨g,2,none⟩=some (.slice no zn nc):=hoc.cell 2;have c2a:(wc.alloc (.cells #[.int .i64 o,.string t,.int .u64 a,.int .u64 b,.int .u64 c,.int .u64 d,.slice none 0 0,.int .i64 tt,.int .i64 (mod:Int),.int .i64 ru] 62)).cell? ⟨g,2,none⟩=some (.slice no zn nc):=(hoc.on_alloc _).cell 2;have hgl:=hoc.lt
   obtain ⟨y0,y1,y2,y3,y4,y5,y6,y7,y8,y9⟩:wc.cell? ⟨A,0,none⟩=some (.int .i64 o)/\wc.cell? ⟨A,1,none⟩=some (.string t)/\wc.cell? ⟨A,2,none⟩=some (.int .u64 a)/\wc.cell? ⟨A,3,none⟩=some (.int .u64 b)/\wc.cell? ⟨A,4,none⟩=some (.int .u64 c)/\wc.cell? ⟨A,5,none⟩=some (.int .u64 d)/\wc.cell? ⟨A,6,none⟩=some (.slice none 0 0)/\wc.cell? ⟨A,7,none⟩=some (.int .i64 tt)/\wc.cell? ⟨A,8,none⟩=some (.int .i64 (mod:Int))/\wc.cell? ⟨A,9,none⟩=some (.int .i64 ru) :=
    ⟨HY.o.cell 0,HY.o.cell 1,HY.o.cell 2,HY.o.cell 3,HY.o.cell 4,HY.o.cell 5,HY.o.cell 6,HY.o.cell 7,HY.o.cell 8,HY.o.cell 9⟩
   have yl:=HY.o.lt;obtain ⟨i0,hi,hz0,hz1,hz2⟩:=cZ A7R;have IP:=aH (And.intro hi (And.intro hz0 (And.intro hz1 hz2)));clear hi hz0 hz1 hz2 hoc;have K1:zn + 1<=maxLen:=(by unfold maxLen;omega);have K2:(zn + 1) * 104<=140737488355328:=(by omega);have FN:=aH (bD wc 62 [.int .i64 o,.string t,.int .u64 a,.int .u64 b,.int .u64 c,.int .u64 d,.slice none 0 0,.int .i64 tt,.int .i64 (mod:Int),.int .i64 ru]);have HCEL:=aH (show ∀ u ∈ ([.int .i64 o,.string t,.int .u64 a,.int .u64 b,.int .u64 c,.int .u64 d,.slice none 0 0,.int .i64 tt,.int .i64 (mod:Int),.int .i64 ru]:List Value),u.oneCell'=true by intro u hu;simp at hu;rcases hu with rfl | rfl | rfl | rfl | rfl | rfl | rfl | rfl | rfl | rfl <;> rfl);have NP:=aH (show ¬ ct g=2 from by rw [HGW.o.2.2.2.2.2];omega);obtain ⟨x0,hx0⟩:∃ x:Nj,x=sW (.mk o t a b c d K) [] tt mod ru:=⟨_,rfl⟩;have HX0:=aH hx0;obtain ⟨z0,hz0⟩:∃ z:Zj,z=⟨x0,none,0⟩:=⟨_,rfl⟩;have HROW:=aH (show tyN z0=[.int .i64 o,.string t,.int .u64 a,.int .u64 b,.int .u64 c,.int .u64 d,.slice none 0 0,.int .i64 tt,.int .i64 (mod:Int),.int .i64 ru] from by rw [hz0,hx0];rfl);have HZ0:=aH (show z0.n=x0/\z0.n.ks=[] from by rw [hz0,hx0];exact ⟨rfl,rfl⟩);rw [<- hx0] at HRS;clear hx0 hz0;go_upto_region 12 with fail
   go_cut [] (fun wx=>∃ (c1:Nat->Nat) (v1:Nat->Value),aQ (Wk w0 wx g c1 (upd rows 2 ((Z ++ [z0]).length,(Z ++ [z0]).flatMap tyN)) v1 (.slice mo nm mc) st none)/\aQ (∀ z ∈ Z ++ [z0],Il wx (fun b=>c1 b=7) z)/\aQ (But (fun b=>b=g\/ct b=2) w wx)/\aQ (Agree wc ct c1)/\aQ (But (fun b=>b=g\/ct b=2) wc wx))
   case first =>
    go_region_law ((refine dM rfl _ _ 37 rfl (fun b=>ct b=2) 62 _ _ 10 104 Tryz.underlying37 IP.o.1 IP.o.2.1 IP.o.2.2.1 IP.o.2.2.2 rfl (by decide) _ zn (Z.flatMap tyN) rfl (HWN2.o.below (bA _).drew) ⟨wc.heap.size,0,none⟩ 1 1 [.int .i64 o,.string t,.int .u64 a,.int .u64 b,.int .u64 c,.int .u64 d,.slice none 0 0,.int .i64 tt,.int .i64 (mod:Int),.int .i64 ru] rfl rfl FN.o HCEL.o K1 K2 ?_);intro v' w' hw hb;obtain ⟨vb,voff,vcap,rfl,hg2,hle2,hlt2⟩:=hw.has (by omega);have hO:=aH (((HOC.o.on_alloc (.cells #[.int .i64 o,.string t,.int .u64 a,.int .u64 b,.int .u64 c,.int .u64 d,.slice none 0 0,.int .i64 tt,.int .i64 (mod:Int),.int .i64 ru] 62)).on_drew).but hb NP.o);have d2:=hO.o.cell 2;have e2:=hO.o.thaw 2;have gl2:=hO.o.lt;have hw2:=aH hw;have hb2:=aH hb;clear hw hb)
    all_goals
     have HG:=aH (HWC.o.grown2 (z:=z0) (bA (.cells #[.int .i64 o,.string t,.int .u64 a,.int .u64 b,.int .u64 c,.int .u64 d,.slice none 0 0,.int .i64 tt,.int .i64 (mod:Int),.int .i64 ru] 62)).drew HZN.o (by rw [HROW.o];exact hw2.o) hb2.o);go_wp2
     go_meet
     refine ⟨_,_,aH HG.o.1,aH (fun z hz=>?_),aH (HUC.o.trans HG.o.2.1 (fun b _ h=>h)),aH HG.o.2.2,aH HG.o.2.1⟩;rcases List.mem_append.1 hz with hz | hz
     ·
      exact Ml HKC.o HG.o.2.1 (fun b _ h7 hs=>by
       rcases hs with hs | hs
       · rw [hs,HGW.o.2.2.2.2.2] at h7;omega
       · omega) HG.o.2.2 z hz
     · rw [List.mem_singleton] at hz;subst hz;exact ⟨by rw [HZ0.o.2];exact nC.nil _ _ _,by rw [HZ0.o.2];exact Nat.zero_le _⟩
   case rest =>
    clear c2 c2a y0 y1 y2 y3 y4 y5 y6 y7 y8 y9 yl hgl K1 K2;obtain ⟨c1,v1,HW1,HK1,HU1,HA1,HC1⟩:=hcut
    have HX1:=aH (HX.o.but HC1.o (fun h=>by
     rcases h with h | h
     · have:=HGW.o.1;have:=HZB.o;omega
     · have:=HGW.o.2.1;omega))
    have HJ1:=aH (show Jn w0 wc g c1 rows (.slice mo nm mc) st (N ++ [x0]) none from ⟨v1,Z ++ [z0],HW1.o,by rw [List.map_append,HZ.o];show N ++ [z0.n]=_;rw [HZ0.o.1],HK1.o⟩);have HC5:=aH (show c1 B5=0 from by rw [HA1.o B5 HX.o.lt];exact HGW.o.2.1);have HJ0:=HJ;have HAG:=aH (show Agree w ct c1 from fun x hx=>HA1.o x (aL hx HUC.o.size));have HSW:=aH (show w.heap.size<=wc.heap.size from HU1.o.size);clear HW1 HK1 HA1 HC1 HX HY HWC HKC HUC HWN2 HOC FN HCEL NP HROW HZ0 HX0;obtain ⟨RES0,hR0⟩:∃ r,kV P K (N ++ [x0]) []=r:=⟨_,rfl⟩;have HR1:=aH (show RES=AY N.length RES0 from by rw [<- hR0];exact HRS.o);have HQ0:=aH (show KQ P K RES0 0 (N ++ [x0]) [] none from by rw [<- hR0];rfl);have HL0:=aH (show N.length < (N ++ [x0]).length from by simp);have HG0:=aH (show ¬ g=B5/\g < w.heap.size/\ct g=9 from ⟨fun e=>by have:=HGW.o.1;have:=HZB.o;omega,HGW.o.1,HGW.o.2.2.2.2.2⟩);clear hR0 HRS HGW;go_wp2_with fail
    go_loopw [14,15] (fun v14 v15 wr=>∃ (k:Nat) (Nk:List Nj) (ks:List Nat) (Fk:Option Ft3) (ck:Nat->Nat) (SK:Nat->Prop) (so:Option Addr) (sc:Nat),v14=.slice so k sc/\v15=.int .i64 (k:Int)/\(k:Int)<=m/\aQ (ks.length=k)/\aQ (KQ P K RES0 k Nk ks Fk)/\aQ (N.length < Nk.length) ∧
      aQ (Jn w0 wr g ck rows (.slice mo nm mc) st Nk Fk)/\aQ (But (fun b=>b=g\/ct b=2) w wr)/\aQ (Agree w ct ck)/\aQ (Own wr B5 32 [.int .i64 o,.string t,.int .u64 a,.int .u64 b,.int .u64 c,.int .u64 d,.slice ko m kc])/\aQ (ck B5=0)/\aQ (Win SK 3 1 wr (.slice so k sc) k (lD ks))/\aQ (∀ b,SK b->ck b=0/\w.heap.size<=b/\b < wr.heap.size/\b ≠ B5)) (fun _ v15 _=>m - (intOf v15).toNat)
    case atStart=>exact ⟨0,N ++ [x0],[],none,c1,fun _=>False,none,0,rfl,rfl,by omega,aH rfl,HQ0,HL0,HJ1,HU1,HAG,HX1,HC5,aH (Win.nil _ _ _ _),aH (fun b h=>h.elim)⟩
    case round =>
     obtain ⟨k,Nk,ks,Fk,ck,SK,so,sc,rfl,rfl,hk2,HKS,HQ,HL,HJ,HU,HAG,HX,HC5,HWK,HSK⟩:=hrel;clear HQ0 HL0 HJ1 HU1 HX1;obtain ⟨vr,Zr,hWr,hZr,hKr⟩:=HJ.o;have hor:Own wr g 71 [.slice mo nm mc,vr 1,vr 2,vr 3,vr 4,.int .i64 st,vr 5,.int .i64 (e3 Fk),.int .i64 0,.int .i64 (m3 Fk),.int .i64 (r3 Fk)]:=hWr.own;have c7:wr.cell? ⟨g,7,none⟩=some (.int .i64 (e3 Fk)):=hor.cell 7;have hgl:=hor.lt;have a6:wr.cell? ⟨B5,6,none⟩=some (.slice ko m kc):=HX.o.cell 6;have al:=HX.o.lt;have HWR:=aH hWr;have HZR:=aH hZr;have HKR:=aH hKr;clear hor hWr hZr hKr
     cases Fk with
     | some f =>
      have hf0:=HWR.o.nz f rfl;have c7':wr.cell? ⟨g,7,none⟩=some (.int .i64 f.1):=c7;have ef:(f.1 == 0)=false:=aN.2 hf0;have ef2:decide (f.1=0)=false:=aF hf0;have HE:=aH (show RES=(Nk,some f,N.length) from by rw [HR1.o,show RES0=(Nk,some f,ks) from HQ.o];rfl);clear c7 hf0;by_cases hkm:(k:Int) < m
      · have hkm1:decide ((k:Int) < m)=true:=aT hkm;have hkm2:decide (k < m)=true:=aT (by omega);go_wp2;go_ret;rw [HE.o];exact ⟨ck,(by show Ending.returned (.int .i64 (zn:Int))=.returned (.int .i64 (N.length:Int));rw [HNL.o]),HJ.o,HU.o,HAG.o⟩
      · have hkm1:decide ((k:Int) < m)=false:=aF hkm;have hkm2:decide (k < m)=false:=aF (by omega);go_wp2;go_ret;rw [HE.o];exact ⟨ck,(by show Ending.returned (.int .i64 (zn:Int))=.returned (.int .i64 (N.length:Int));rw [HNL.o]),HJ.o,HU.o,HAG.o⟩
     | none =>
      have c7':wr.cell? ⟨g,7,none⟩=some (.int .i64 0):=c7;clear c7;by_cases hkm:(k:Int) < m
      ·
       have hkm1:decide ((k:Int) < m)=true:=aT hkm;have hkm2:decide (k < m)=true:=aT (by omega);obtain ⟨y,hy⟩:∃ y,K[k]?=some y:=⟨_,aG (by have:=HKM.o;omega)⟩;obtain ⟨kb,koff,yo,yc,hko,hkb,k0,k1,k2,k3,k4,k5,k6,hky⟩:=HK.o k y hy;obtain ⟨⟨N1,F1,n1⟩,hp⟩:∃ r,P y Nk=r:=⟨_,rfl⟩;have HPC:=aH (HP.o y (aM hy) yo yc hky wr ck Nk HJ.o);have hl1:Nk.length<=N1.length:=(by have q:=HPL.o y Nk;rw [hp] at q;exact q);have HL1:=aH (show N.length < N1.length from aL HL.o hl1);clear hl1;have HQ1:=aH (show KQ P K RES0 (k + 1) N1 (ks ++ [n1]) F1 from HQ.o.step hy hp);rw [hp] at HPC;have e0:=aC k0 HWR.o.bl;have e1:=aC k1 HWR.o.bl;have e2:=aC k2 HWR.o.bl;have e3:=aC k3 HWR.o.bl;have e4:=aC k4 HWR.o.bl;have e5:=aC k5 HWR.o.bl;have e6:=aC k6 HWR.o.bl;have hkb2:kb < wr.heap.size:=aL hkb HWR.o.bl.size;have HCG:=aH HWR.o.cg;have HSW0:=aH (show w0.heap.size<=w.heap.size from by obtain ⟨v',Z',hj,-⟩:=HJ0.o;exact hj.bl.size);have hw1:IntKind.i64.wrap ((k:Int) + 1)=(k:Int) + 1:=wI;rw [hko] at a6;clear hy k0 k1 k2 k3 k4 k5 k6 hkb hky hp hko;go_wp2_with fail;refine HPC.o.mono ?_;rintro e w4 ⟨c4,rfl,hJ4,hb4,ha4⟩;have HJ4:=aH hJ4;have HB4:=aH hb4;have HA4:=aH ha4
       have HWK4:=aH (HWK.o.keep hb4 (fun b _ hs h=>by
        have:=(HSK.o b hs).1;rcases h with h | h
        · rw [h,HCG.o] at this;omega
        · omega))
       have HX4:=aH (HX.o.but hb4 (fun h=>by
        rcases h with h | h
        · exact HG0.o.1 h.symm
        · have:=HC5.o;omega))
       have HD4:=aH (fun b (h:w4.heap.size<=b)=>show c4 b=0 from by
        obtain ⟨v',Z',hj,-⟩:=hJ4;by_cases e:c4 b=0
        · exact e
        · have:=(hj.dom b e).2;omega)
       have HS4:=aH hb4.size;obtain ⟨i0,hi0,hz0,hz1,hz2⟩:=cZ gL;have HNEW:=aH (fun W=>bD W 3 [.int .i64 (n1:Int)]);clear hJ4 hb4 ha4 e0 e1 e2 e3 e4 e5 e6 hkb2 a6 al c7' hgl HPC
       go_wp2_with (first
        | (at_builtin;refine aX _ rfl _ _ 39 rfl SK 3 i0 _ 1 8 Tryz.underlying39 hi0 hz0 hz1 hz2 rfl (by decide) _ k (lD ks) rfl (HWK4.o.below (bA _)) ⟨w4.heap.size,0,none⟩ 1 1 [.int .i64 (n1:Int)] rfl rfl (HNEW.o w4) (by intro u hu;rw [List.mem_singleton.1 hu];rfl) (by unfold maxLen;omega) (by omega) ?_))
       intro v' w5 hw5 hb5;have hblx:Below w4.heap.size w4 (w4.alloc (.cells #[.int .i64 (n1:Int)] 3)):=bA _;have hsx:(w4.alloc (.cells #[.int .i64 (n1:Int)] 3)).heap.size=w4.heap.size + 1:=(by simp);have HS5:=aH (show w4.heap.size + 1<=w5.heap.size from by have:=hb5.size;omega)
       have HK4:=aH (fun b (h:SK b)=>show c4 b=0/\w.heap.size<=b/\b < w4.heap.size/\b ≠ B5 from by
        obtain ⟨h1,h2,h3,h4⟩:=HSK.o b h
        exact ⟨(HA4.o b h3).trans h1,h2,aL h3 HS4.o,h4⟩)
       have HJ5:=aH ((HJ4.o.below hblx).other hb5 (fun b _ hs=>⟨(HK4.o b hs).1,by have:=(HK4.o b hs).2.1;have:=HSW0.o;omega⟩))
       have HU5:=aH (show But (fun b=>b=g\/ct b=2) w w5 from ((HU.o.trans HB4.o (fun b hlt h=>by
        rcases h with h | h
        · exact .inl h
        · exact .inr ((HAG.o b hlt).symm.trans h))).then_below hblx).trans hb5 (fun b hlt h=>by have:=(HK4.o b h).2.1;omega))
       have HAG5:=aH (show Agree w ct c4 from HAG.o.trans HA4.o HU.o.size);have HX5:=aH ((HX4.o.under hblx HX4.o.lt).but hb5 (fun h=>(HK4.o B5 h).2.2.2 rfl));have HC55:=aH (show c4 B5=0 from (HA4.o B5 HX.o.lt).trans HC5.o)
       have HWK5:=aH (show Win (fun b=>(SK b\/w4.heap.size + 1<=b)/\b < w5.heap.size) 3 1 w5 v' (k + 1) (lD (ks ++ [n1])) from by
        unfold lD;rw [List.map_append]
        exact hw5.mono (fun j hlt h=>⟨by rcases h with h | h;exact .inl h;exact .inr (by first | exact h | (rw [hsx] at h;exact h)),hlt⟩))
       have HSK5:=aH (fun b (h:(SK b\/w4.heap.size + 1<=b)/\b < w5.heap.size)=>show c4 b=0/\w.heap.size<=b/\b < w5.heap.size/\b ≠ B5 from by
        obtain ⟨h | h,hlt⟩:=h
        · have:=HK4.o b h;exact ⟨this.1,this.2.1,hlt,this.2.2.2⟩
        ·
         refine ⟨HD4.o b (by omega),?_,hlt,?_⟩
         · have:=HU.o.size;have:=HS4.o;omega
         · have:=HX4.o.lt;omega)
       obtain ⟨so',sc',hv,-⟩:=HWK5.o.form;subst hv;have HKS5:=aH (show (ks ++ [n1]).length=k + 1 from by rw [List.length_append,HKS.o];rfl);clear hw5 hb5 hblx hsx HWK HSK HX HC5 HU HJ HJ4 HAG HWK4 HX4 HQ HL HKS HWR HKR HZR;go_wp2
       go_roundw
       case rel=>exact ⟨k + 1,N1,ks ++ [n1],F1,c4,_,so',sc',rfl,by go_num,by omega,HKS5,HQ1,HL1,HJ5,HU5,HAG5,HX5,HC55,HWK5,HSK5⟩
       case measure=>simp [intOf];omega
      ·
       have hkm1:decide ((k:Int) < m)=false:=aF hkm;have hkm2:decide (k < m)=false:=aF (by omega);have HE:=aH (show RES=(Cv Nk N.length ks,none,N.length) from by rw [HR1.o,show RES0=(Nk,none,ks) from HQ.o.done (by have:=HKM.o;omega)];rfl);obtain ⟨zr,hzr⟩:∃ n,Zr.length=n:=⟨_,rfl⟩;have hzl:zn < zr:=(by have h1:=HL.o;have h2:=HNL.o;have h3:Nk.length=Zr.length:=(by rw [<- HZR.o,List.length_map]);omega);have HWN:=aH (show Win (fun b=>ck b=2) 62 10 wr (vr 2) zr (Zr.flatMap tyN) from by have q:=HWR.o.win 2 (by omega) (by omega);rw [upd_same] at q;have q:Win (fun b=>ck b=2) 62 10 wr (vr 2) Zr.length (Zr.flatMap tyN):=q;rw [hzr] at q;exact q);obtain ⟨no',nc',hvr,hnc',-,hnf⟩:=HWN.o.form;obtain ⟨zz,hzz⟩:∃ z,Zr[zn]?=some z:=⟨_,aG (by omega)⟩;obtain ⟨nb,noff,hno,-,hnbl,hcell,hfr⟩:=hnf (zn * 10 + 6) (by omega);rw [JC Zr zn 6 zz hzz (by omega)] at hcell;have hcell:wr.cell? ⟨nb,noff + zn * 10 + 6,none⟩=some (.slice zz.ko zz.n.ks.length zz.kc):=(by rw [Nat.add_assoc];exact hcell);have hfr:wr.frozen? ⟨nb,noff + zn * 10 + 6,none⟩=false:=(by rw [Nat.add_assoc];exact hfr);subst hno;have c2:wr.cell? ⟨g,2,none⟩=some (.slice (some ⟨nb,noff,none⟩) zr nc'):=by have q:wr.cell? ⟨g,2,none⟩=some (vr 2):=HWR.o.own.cell 2;rw [q,hvr]
       have HCL:=B0e (SK:=SK) (so:=so) (sc:=sc) (n:=zn) (ks:=ks) (rows:=rows) HWR.o HKR.o (by rw [hzr];exact hvr) (by omega) (by rw [HKS.o];exact HWK.o) (fun b hs=>by
        obtain ⟨h1,h2,h3,h4⟩:=HSK.o b hs
        exact ⟨h1,by obtain ⟨v',Z',hj,-⟩:=HJ0.o;have:=hj.bl.size;omega,h3⟩)
       rw [HKS.o,<- Nat.add_assoc,HZR.o] at HCL;obtain ⟨c',hj,hb,hcc⟩:=HCL;have HJ9:=aH hj;have HB9:=aH hb;have HC9:=aH hcc;have hzi:decide ((zn:Int) < (zr:Int))=true:=aT (by omega);have hzin:decide (zn < zr)=true:=aT hzl;clear hj hb hcc hzz hvr hnf hnc' hzr;go_wp2;go_ret;rw [HE.o];refine ⟨c',(by show Ending.returned (.int .i64 (zn:Int))=.returned (.int .i64 (N.length:Int));rw [HNL.o]),(by rw [HNL.o];exact HJ9.o),HU.o.trans HB9.o (fun b hlt h=>.inr ((HAG.o b hlt).symm.trans h)),fun b hlt=>?_⟩;rw [HC9.o b (fun hs=>by have:=(HSK.o b hs).2.1;omega)];exact HAG.o b hlt
end Go.Proofs.YthkdnehgamefiaaGreat
