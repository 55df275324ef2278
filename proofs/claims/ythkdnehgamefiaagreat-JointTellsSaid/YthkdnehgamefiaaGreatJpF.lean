import Derived.Test.YthkdnehgamefiaaGreatJpC
namespace Go.Proofs.YthkdnehgamefiaaGreat
set_option linter.unusedVariables false
open Go.RowKit Go.Sort
def AnsA (r:Pt) (N':List Nj) (e:Ending):Option Ft3->Prop
 | none=>e=.returned (.tuple #[.int .i64 (r.2.2:Int),.bool true])/\N'=r.1
 | some _=>e=.returned (.tuple #[.int .i64 0,.bool false])
def JAo (w0:World) (g:Nat) (rows:Rw) (lv:Value) (st:Int) (r:Pt) (w:World) (c:Nat->Nat) (e:Ending) (w':World):Prop :=
 ∃ (c':Nat->Nat) (N':List Nj),Jp w0 w' g c' rows lv st N' r.2.1/\But (fun b=>b=g\/c b=2) w w'/\Agree w c c'/\AnsA r N' e r.2.1
set_option maxRecDepth 1000000 in
set_option maxHeartbeats 6400000 in
theorem padd_step (ML:List Md) (FL:List Nat) (mo:Option Addr) (mc:Nat) (w0:World) (D0:Nat) (hM:fK w0 D0 mo ML) (hfew:Few ML) (hmx:Mx w0) (hFL:FL.length=ML.length) (hFb:∀ x ∈ FL,x<=1000000000) (g:Nat) (mod:Nat) (hmod:mod<=1000000) (ru:Int) (rows:Rw) (hr5:rows 5=(FL.length,lD FL)) (st:Int) (P:Ex->List Nj->Pt) (nd:Nat)
  (o a b c d:Int) (t:ByteArray) (K:List Ex)
  (hPL:∀ y N,N.length<=(P y N).1.length) (hPM:∀ y N,N.length<=160->(P y N).1.length<=160) (hP:∀ y ∈ K,∀ (yo:Option Addr) (yc:Nat),aV w0 nd yo y.kids->∀ (W:World) (ct:Nat->Nat) (N:List Nj),N.length<=160->Jp w0 W g ct rows (.slice mo ML.length mc) st N none->Calls Tryz.prog 85 #[.pointer (some ⟨g,0,none⟩),exv y yo yc,.int .i64 (mod:Int),.int .i64 ru] W (JAo w0 g rows (.slice mo ML.length mc) st (P y N) W ct))
  (ht:t.size<=100000) (hk:K.length<=90001) (ko:Option Addr) (kc:Nat) (hK:aV w0 (nd + 1) ko K) (w:World) (ct:Nat->Nat) (N:List Nj) (hN160:N.length<=160) (hJ:Jp w0 w g ct rows (.slice mo ML.length mc) st N none) :
  Calls Tryz.prog 85 #[.pointer (some ⟨g,0,none⟩),.agg #[.int .i64 o,.string t,.int .u64 a,.int .u64 b,.int .u64 c,.int .u64 d,.slice ko K.length kc],.int .i64 (mod:Int),.int .i64 ru] w (JAo w0 g rows (.slice mo ML.length mc) st (B8b ML FL mod ru P (.mk o t a b c d K) N) w ct):=by
 have HP:=aH hP;have HPL:=aH hPL;have HPM:=aH hPM;have HK:=aH hK;obtain ⟨m,hm⟩:∃ m,K.length=m:=⟨_,rfl⟩;have HKM:=aH hm;have hm9:m<=90001:=by rw [<- hm];exact hk
 have HRV:=aH (fun (W:World) (hW:fK W D0 mo ML) (hx:Mx W)=>mK ML D0 mo mc (mod:Int) t (by omega) hfew W hW hx);have HMS:=aH (fun (W:World) (h:Below w0.heap.size w0 W)=>And.intro (hM.below h) (hmx.below h));have HFEW:=aH hfew;obtain ⟨nm,hnm⟩:∃ n,ML.length=n:=⟨_,rfl⟩;have HNM:=aH hnm;have HFL:=aH (show FL.length=nm from hFL.trans hnm);have HFB:=aH hFb;have HR5:=aH hr5;obtain ⟨RES,hRES⟩:∃ r,B8b ML FL mod ru P (.mk o t a b c d K) N=r:=⟨_,rfl⟩
 have HS:=aH (show RES=if 160<=N.length then (N,some (3,(mod:Int),ru),0) else match toO ML FL mod (.mk o t a b c d K) with
  | none=>(N,some (5,(mod:Int),ru),0)
  | some tt=>AY N.length (kV P K (N ++ [sW (.mk o t a b c d K) [] tt mod ru]) []) from by rw [<- hRES];rfl)
 have HB1:=aH (show Below w.heap.size w (w.alloc (.cells #[.int .i64 o,.string t,.int .u64 a,.int .u64 b,.int .u64 c,.int .u64 d,.slice ko m kc] 32)) from bA _);have HX1:=aH (Own.fresh w 32 [.int .i64 o,.string t,.int .u64 a,.int .u64 b,.int .u64 c,.int .u64 d,.slice ko m kc]);have HJ1:=aH (hJ.below HB1.o);have HJ:=aH hJ;rw [hnm] at HJ1 HP HRV HJ;rw [hRES,hm,hnm];clear hP hPL hPM hK hm hJ hM hmx hfew hnm hFL hFb hr5 hRES;go_enter Tryz.func85,Tryz.ntmps85;go_upto_region 1 with fail;obtain ⟨B5,hB5⟩:∃ B,w.heap.size=B:=⟨_,rfl⟩;have HZB:=aH hB5;generalize hw1:w.alloc (.cells #[.int .i64 o,.string t,.int .u64 a,.int .u64 b,.int .u64 c,.int .u64 d,.slice ko m kc] 32)=w1 at *;clear hw1;rw [hB5] at HX1;try rw [hB5]
 clear hB5;obtain ⟨v,Z,hW,hZ,hKn⟩:=HJ1.o;have ho:Own w1 g 68 [.slice mo nm mc,v 5,v 1,v 2,v 3,v 4,.int .i64 st,.int .i64 0,.int .i64 0,.int .i64 0,.int .i64 0]:=hW.own;have HWN:=aH (show Win (fun b=>ct b=2) 62 10 w1 (v 2) Z.length (Z.flatMap tyN) from by have q:=hW.win 2 (by omega) (by omega);rw [upd_same] at q;exact q);obtain ⟨zn,hzn⟩:∃ n,Z.length=n:=⟨_,rfl⟩;have HZN:=aH hzn;rw [hzn] at HWN;have HNL:=aH (show N.length=zn from by rw [<- hZ,List.length_map,hzn]);obtain ⟨no,nc,hv2,hnc,-,-⟩:=HWN.o.form;have c3:w1.cell? ⟨g,3,none⟩=some (v 2):=ho.cell 3;rw [hv2] at c3;have HW:=aH hW;have HZ:=aH hZ;have HKN:=aH hKn;have HV2:=aH hv2;have hgl:=ho.lt;obtain ⟨a0,a1,a2,a3,a4,a5,a6⟩:=HX1.o.seven;have al:=HX1.o.lt;have hz160:zn<=160:=by have:=HNL.o;omega
 have HZ16:=aH hz160;clear ho hW hZ hKn hv2 hzn;by_cases h160:(zn:Int)=160
 ·
  have g160:decide ((zn:Int)=160)=true:=aT h160;have HE:=aH (HS.o.trans (if_pos (by have:=HNL.o;omega)));go_wp2_with fail;refine (pstop_any 3 (mod:Int) ru (by decide) HW.o).mono ?_;rintro e w2 ⟨rfl,hW2,hb2⟩;have HW2:=aH hW2;have HBU:=aH hb2;clear hW2 hb2;go_wp2;first | go_ret2 | go_ret
  rw [HE.o];exact ⟨ct,N,⟨v,Z,HW2.o,HZ.o,fun z hz=>(HKN.o z hz).but HBU.o fun b _ hb e=>by have e:b=g:=e;rw [e,HW.o.cg] at hb;omega⟩,(But.of_below HB1.o).trans (HBU.o.mono (T:=fun b=>b=g\/ct b=2) fun b _ h=>.inl h) (fun b _ h=>h),Agree.refl _ _,rfl⟩
 ·
  have g160:decide ((zn:Int)=160)=false:=aF h160;have g160b:((zn:Int) == 160)=false:=aN.2 h160;have hz159:zn<=159:=by omega
  have HS2:=aH (HS.o.trans (if_neg (by have:=HNL.o;omega)));clear HS;obtain ⟨bo,hbo⟩:∃ z,(o == 11)=z:=⟨_,rfl⟩;have HBO:=aH hbo;go_upto_region 5 with fail
  go_upto_if 34 with fail
  clear a6 c3
  go_cut [11] (fun v11 wx=>∃ tt:Int,v11=.int .i64 tt/\aQ (RES=AY N.length (kV P K (N ++ [sW (.mk o t a b c d K) [] tt mod ru]) []))/\aQ (Below w1.heap.size w1 wx))
  case first =>
   cases bo with
   | false =>
    have HE:=aH (show RES=AY N.length (kV P K (N ++ [sW (.mk o t a b c d K) [] (-1) mod ru]) []) from by rw [HS2.o,show toO ML FL mod (.mk o t a b c d K)=some (-1) from if_neg (by have:=HBO.o;exact aN.1 this)]);go_wp2
    go_meet
    exact ⟨-1,rfl,HE,aH (Below.refl _ _)⟩
   | true =>
    have ho11:o=11:=beq_iff_eq.1 HBO.o;have ho2:Own w1 g 68 [.slice mo nm mc,v 5,v 1,v 2,v 3,v 4,.int .i64 st,.int .i64 0,.int .i64 0,.int .i64 0,.int .i64 0]:=HW.o.own;have c0:w1.cell? ⟨g,0,none⟩=some (.slice mo nm mc):=ho2.cell 0;have c0':=cell_regrown c0;have a1':=cell_regrown a1;obtain ⟨⟨rm,rr,rb⟩,hr⟩:∃ r,uD ML (mod:Int) t=r:=⟨_,rfl⟩;have HRR:=aH hr
    have HTO:=aH (show toO ML FL mod (.mk o t a b c d K)=(match (rm,rr,rb) with
     | (m,r,true)=>some ((FL.getD m.toNat 0:Nat) + r)
     | (_,_,false)=>none) from by rw [<- hr];exact if_pos ho11)
    have CPS:=aH (fun (dq:Nat) (os:Array Obj)=>show Calls Tryz.prog 87 #[.slice mo nm mc,.int .i64 (mod:Int),.string t] (grow (redrawn w1 dq) os) fun e w'=>e=.returned (.tuple #[.int .i64 rm,.int .i64 rr,.bool rb])/\Below (grow (redrawn w1 dq) os).heap.size (grow (redrawn w1 dq) os) w' from by
     have q:=HMS.o _ (HW.o.bl.trans ((below_regrown w1 dq os).mono HW.o.bl.size));have h:=HRV.o _ q.1 q.2;rw [hr] at h
     exact h)
    clear ho11 hr ho2;go_wp2_with fail;refine wp_region_quiet_below (by kernel_rfl) (by kernel_rfl) ?_
    repeat (go_big_quiet_step (first
     | (go_at_call 87;with_reducible exact Calls.regrown_of (CPS.o _ _))))
    refine wpQuiet_nil ?_;intro _ hw';obtain ⟨⟨dq,osq⟩,hw''⟩:=hw';subst hw'';have hbr:=below_regrown w1 dq osq;clear c0' a1' CPS c0;have HB3:=aH hbr;have HW3:=aH (HW.o.below hbr);have HKN3:=aH (fun z hz=>(HKN.o z hz).but (S:=fun _=>False) (But.of_below hbr) fun _ _ _ h=>h);clear hbr a0 a1 a2 a3 a4 a5 al hgl;generalize grow (redrawn w1 dq) osq=w3 at *
    cases rb with
    | false =>
     have HE:=aH (show RES=(N,some (5,(mod:Int),ru),0) from by rw [HS2.o,HTO.o]);go_wp2_with fail;refine (pstop_any 5 (mod:Int) ru (by decide) HW3.o).mono ?_;rintro e w4 ⟨rfl,hW4,hb4⟩;have HW4:=aH hW4;have HBU:=aH hb4;clear hW4 hb4;go_wp2;first | go_ret2 | go_ret
     rw [HE.o];exact ⟨ct,N,⟨v,Z,HW4.o,HZ.o,fun z hz=>(HKN3.o z hz).but HBU.o fun b _ hb e=>by have e:b=g:=e;rw [e,HW3.o.cg] at hb;omega⟩,(But.of_below HB1.o).trans ((But.of_below HB3.o).trans (HBU.o.mono (T:=fun b=>b=g\/ct b=2) fun b _ h=>.inl h) (fun b _ h=>h)) (fun b _ h=>h),Agree.refl _ _,rfl⟩
    | true =>
     obtain ⟨mm,md,hmm,hmd,-,hr0,hr1⟩:=DJ HRR.o;subst hmm;have hmmn:mm < nm:=(by have:=(aS.1 hmd).1;have:=HNM.o;omega);have hrr:rr<=1000000:=(by have:=(HFEW.o.2 md (aM hmd)).2;omega);obtain ⟨fx,hfx⟩:∃ x,FL[mm]?=some x:=⟨_,aG (by have:=HFL.o;omega)⟩;have hfb:fx<=1000000000:=HFB.o fx (aM hfx)
     have HTO2:=aH (show toO ML FL mod (.mk o t a b c d K)=some ((fx:Int) + rr) from by
      rw [HTO.o];show some (((FL.getD (mm:Int).toNat 0:Nat):Int) + rr)=_
      rw [Int.toNat_natCast,List.getD_eq_getElem?_getD,hfx];rfl)
     have HWF:=aH (show Win (fun b=>ct b=5) 3 1 w3 (v 5) FL.length (lD FL) from by
      have q:=HW3.o.win 5 (by omega) (by omega)
      rw [iB _ _ (by decide),HR5.o] at q;exact q)
     obtain ⟨fo,fc,hv5,-,-,-⟩:=HWF.o.form;have hkf:=HWF.o;rw [hv5] at hkf;obtain ⟨fb,foff,hfo,hfl,-,d0⟩:=Tq hkf mm fx hfx;have ho3:Own w3 g 68 [.slice mo nm mc,v 5,v 1,v 2,v 3,v 4,.int .i64 st,.int .i64 0,.int .i64 0,.int .i64 0,.int .i64 0]:=HW3.o.own;have c1:w3.cell? ⟨g,1,none⟩=some (.slice (some ⟨fb,foff,none⟩) nm fc):=(by have q:=ho3.cell 1;rw [q,<- hfo,<- HFL.o];exact congrArg some hv5);have hwr:IntKind.i64.wrap ((fx:Int) + rr)=(fx:Int) + rr:=wI;have hmi:decide ((mm:Int) < (nm:Int))=true:=aT (by omega);have hmin:decide (mm < nm)=true:=aT hmmn;have hgl3:=ho3.lt;have HE:=aH (show RES=AY N.length (kV P K (N ++ [sW (.mk o t a b c d K) [] ((fx:Int) + rr) mod ru]) []) from by rw [HS2.o,HTO2.o]);clear hmd hfx hkf hfo ho3 hr1 hv5;go_wp2
     go_meet
     exact ⟨(fx:Int) + rr,rfl,HE,HB3⟩
  case rest =>
   obtain ⟨tt,rfl,HRS,HQ⟩:=hcut;have hgw:g < w.heap.size/\ct B5=0/\w0.heap.size<=w.heap.size/\ct g=9:=by
    obtain ⟨v',Z',hj,-⟩:=HJ.o;refine ⟨hj.own.lt,?_,hj.bl.size,hj.cg⟩;by_cases e:ct B5=0
    · exact e
    · have:=(hj.dom B5 e).2;have:=HZB.o;omega
   have HGW:=aH hgw;have HWC:=aH (HW.o.below HQ.o);have HX:=aH (HX1.o.under HQ.o HX1.o.lt);have HKC:=aH (fun z hz=>(HKN.o z hz).but (S:=fun _=>False) (But.of_below HQ.o) fun _ _ _ h=>h);have HUC:=aH (show But (fun b=>b=g\/ct b=2) w wc from (But.of_below HB1.o).trans (But.of_below HQ.o) (fun b _ h=>h));clear HQ HW HKN HX1 a0 a1 a2 a3 a4 a5 al hgl hgw HS2 HRV HMS HJ1 HBO;clear hbo
   have HWN2:=aH (show Win (fun b=>ct b=2) 62 10 wc (.slice no zn nc) zn (Z.flatMap tyN) from by
    have q:=HWC.o.win 2 (by omega) (by omega);rw [upd_same] at q;have q:Win (fun b=>ct b=2) 62 10 wc (v 2) Z.length (Z.flatMap tyN):=q;rw [HZN.o,HV2.o] at q
    exact q)
   have hoc:Own wc g 68 [.slice mo nm mc,v 5,v 1,.slice no zn nc,v 3,v 4,.int .i64 st,.int .i64 0,.int .i64 0,.int .i64 0,.int .i64 0]:=(by have q:Own wc g 68 [.slice mo nm mc,v 5,v 1,v 2,v 3,v 4,.int .i64 st,.int .i64 0,.int .i64 0,.int .i64 0,.int .i64 0]:=HWC.o.own;rw [HV2.o] at q;exact q);have HOC:=aH hoc;have c2:wc.cell? ⟨g,3,none⟩=some (.slice no zn nc):=hoc.cell 3;have c2a:(wc.alloc (.cells #[.int .i64 o,.string t,.int .u64 a,.int .u64 b,.int .u64 c,.int .u64 d,.slice none 0 0,.int .i64 tt,.int .i64 (mod:Int),.int .i64 ru] 62)).cell? ⟨g,3,none⟩=some (.slice no zn nc):=(hoc.on_alloc _).cell 3;have hgl:=hoc.lt;obtain ⟨y0,y1,y2,y3,y4,y5,y6⟩:=HX.o.seven;obtain ⟨q0,q1,q2,q3,q4,q5,q6⟩:=(HX.o.on_alloc (.cells #[.int .i64 o,.string t,.int .u64 a,.int .u64 b,.int .u64 c,.int .u64 d,.slice none 0 0,.int .i64 tt,.int .i64 (mod:Int),.int .i64 ru] 62)).seven;have yl:=HX.o.lt;obtain ⟨i0,hi,hz0,hz1,hz2⟩:=cZ A7R;have IP:=aH (And.intro hi (And.intro hz0 (And.intro hz1 hz2)));clear hi hz0 hz1 hz2 hoc;have K1:zn + 1<=maxLen:=(by unfold maxLen;omega);have K2:(zn + 1) * 104<=140737488355328:=(by omega);have FN:=aH (bD wc 62 [.int .i64 o,.string t,.int .u64 a,.int .u64 b,.int .u64 c,.int .u64 d,.slice none 0 0,.int .i64 tt,.int .i64 (mod:Int),.int .i64 ru]);have HCEL:=aH (show ∀ u ∈ ([.int .i64 o,.string t,.int .u64 a,.int .u64 b,.int .u64 c,.int .u64 d,.slice none 0 0,.int .i64 tt,.int .i64 (mod:Int),.int .i64 ru]:List Value),u.oneCell'=true by intro u hu;simp at hu;rcases hu with rfl | rfl | rfl | rfl | rfl | rfl | rfl | rfl | rfl | rfl <;> rfl);have NP:=aH (show ¬ ct g=2 from by rw [HGW.o.2.2.2];omega);obtain ⟨x0,hx0⟩:∃ x:Nj,x=sW (.mk o t a b c d K) [] tt mod ru:=⟨_,rfl⟩;have HX0:=aH hx0;obtain ⟨z0,hz0⟩:∃ z:Zj,z=⟨x0,none,0⟩:=⟨_,rfl⟩;have HROW:=aH (show tyN z0=[.int .i64 o,.string t,.int .u64 a,.int .u64 b,.int .u64 c,.int .u64 d,.slice none 0 0,.int .i64 tt,.int .i64 (mod:Int),.int .i64 ru] from by rw [hz0,hx0];rfl);have HZ0:=aH (show z0.n=x0/\z0.n.ks=[]/\Il wc (fun b=>ct b=7) z0 from by rw [hz0,hx0];exact ⟨rfl,rfl,nC.nil _ _ _,Nat.le_refl _⟩);rw [<- hx0] at HRS;clear hx0 hz0;go_upto_region 10 with fail
   go_cut [] (fun wx=>∃ (c1:Nat->Nat) (v1:Nat->Value),aQ (Wp w0 wx g c1 (upd rows 2 ((Z ++ [z0]).length,(Z ++ [z0]).flatMap tyN)) v1 (.slice mo nm mc) st none)/\aQ (∀ z ∈ Z ++ [z0],Il wx (fun b=>c1 b=7) z)/\aQ (But (fun b=>b=g\/ct b=2) w wx)/\aQ (Agree wc ct c1)/\aQ (But (fun b=>b=g\/ct b=2) wc wx))
   case first =>
    go_region_law ((refine dM rfl _ _ 37 rfl (fun b=>ct b=2) 62 _ _ 10 104 Tryz.underlying37 IP.o.1 IP.o.2.1 IP.o.2.2.1 IP.o.2.2.2 rfl (by decide) _ zn (Z.flatMap tyN) rfl (HWN2.o.below (bA _).drew) ⟨wc.heap.size,0,none⟩ 1 1 [.int .i64 o,.string t,.int .u64 a,.int .u64 b,.int .u64 c,.int .u64 d,.slice none 0 0,.int .i64 tt,.int .i64 (mod:Int),.int .i64 ru] rfl rfl FN.o HCEL.o K1 K2 ?_);intro v' w' hw hb;obtain ⟨vb,voff,vcap,rfl,hg2,hle2,hlt2⟩:=hw.has (by omega);have hO:=aH (((HOC.o.on_alloc (.cells #[.int .i64 o,.string t,.int .u64 a,.int .u64 b,.int .u64 c,.int .u64 d,.slice none 0 0,.int .i64 tt,.int .i64 (mod:Int),.int .i64 ru] 62)).on_drew).but hb NP.o);have d2:=hO.o.cell 3;have e2:=hO.o.thaw 3;have gl2:=hO.o.lt;have hw2:=aH hw;have hb2:=aH hb;clear hw hb)
    all_goals
     have HG:=aH (HWC.o.grown2 (z:=z0) (bA (.cells #[.int .i64 o,.string t,.int .u64 a,.int .u64 b,.int .u64 c,.int .u64 d,.slice none 0 0,.int .i64 tt,.int .i64 (mod:Int),.int .i64 ru] 62)).drew HZN.o (by rw [HROW.o];exact hw2.o) hb2.o);go_wp2
     go_meet
     refine ⟨_,_,aH HG.o.1,aH (fun z hz=>?_),aH (HUC.o.trans HG.o.2.1 (fun b _ h=>h)),aH HG.o.2.2,aH HG.o.2.1⟩;have hS7:∀ b,b < wc.heap.size->ct b=7->¬ (b=g\/ct b=2):=fun b _ h7 hs=>by
      rcases hs with hs | hs
      · rw [hs,HGW.o.2.2.2] at h7;omega
      · omega
     rcases List.mem_append.1 hz with hz | hz
     · exact Ml HKC.o HG.o.2.1 hS7 HG.o.2.2 z hz
     · rw [List.mem_singleton] at hz;subst hz;exact Ml (Z:=[z]) (fun y hy=>by rw [List.mem_singleton.1 hy];exact HZ0.o.2.2) HG.o.2.1 hS7 HG.o.2.2 z (List.mem_singleton.2 rfl)
   case rest =>
    clear c2 c2a y0 y1 y2 y3 y4 y5 y6 q0 q1 q2 q3 q4 q5 q6 yl hgl K1 K2;obtain ⟨c1,v1,HW1,HK1,HU1,HA1,HC1⟩:=hcut
    have HX1:=aH (HX.o.but HC1.o (fun h=>by
     rcases h with h | h
     · have:=HGW.o.1;have:=HZB.o;omega
     · have:=HGW.o.2.1;omega))
    have HJ1:=aH (show Jp w0 wc g c1 rows (.slice mo nm mc) st (N ++ [x0]) none from ⟨v1,Z ++ [z0],HW1.o,by rw [List.map_append,HZ.o];show N ++ [z0.n]=_;rw [HZ0.o.1],HK1.o⟩);have HC5:=aH (show c1 B5=0 from by rw [HA1.o B5 HX.o.lt];exact HGW.o.2.1);have HJ0:=HJ;have HAG:=aH (show Agree w ct c1 from fun x hx=>HA1.o x (aL hx HUC.o.size));have HSW:=aH (show w.heap.size<=wc.heap.size from HU1.o.size);clear HW1 HK1 HA1 HC1 HX HWC HKC HUC HWN2 HOC FN HCEL NP HROW HZ0 HX0;obtain ⟨RES0,hR0⟩:∃ r,kV P K (N ++ [x0]) []=r:=⟨_,rfl⟩;have HR1:=aH (show RES=AY N.length RES0 from by rw [<- hR0];exact HRS.o);have HQ0:=aH (show KQ P K RES0 0 (N ++ [x0]) [] none from by rw [<- hR0];rfl);have HL0:=aH (show N.length < (N ++ [x0]).length/\(N ++ [x0]).length<=160 from by rw [List.length_append];have:=HNL.o;exact ⟨by simp,by simp;omega⟩);have HG0:=aH (show ¬ g=B5/\g < w.heap.size/\ct g=9 from ⟨fun e=>by have:=HGW.o.1;have:=HZB.o;omega,HGW.o.1,HGW.o.2.2.2⟩);have a6:wc.cell? ⟨B5,6,none⟩=some (.slice ko m kc):=HX1.o.cell 6;have al:=HX1.o.lt;clear hR0 HRS HGW;go_wp2_with fail;clear a6 al
    go_loopw [15,86] (fun v15 v86 wr=>∃ (k:Nat) (Nk:List Nj) (ks:List Nat) (ck:Nat->Nat) (SK:Nat->Prop) (so:Option Addr) (sc:Nat),v15=.slice so k sc/\v86=.int .i64 (k:Int)/\(k:Int)<=m/\aQ (ks.length=k)/\aQ (KQ P K RES0 k Nk ks none)/\aQ (N.length < Nk.length/\Nk.length<=160) ∧
      aQ (Jp w0 wr g ck rows (.slice mo nm mc) st Nk none)/\aQ (But (fun b=>b=g\/ct b=2) w wr)/\aQ (Agree w ct ck)/\aQ (Own wr B5 32 [.int .i64 o,.string t,.int .u64 a,.int .u64 b,.int .u64 c,.int .u64 d,.slice ko m kc])/\aQ (ck B5=0)/\aQ (Win SK 3 1 wr (.slice so k sc) k (lD ks))/\aQ (∀ b,SK b->ck b=0/\w.heap.size<=b/\b < wr.heap.size/\b ≠ B5)) (fun _ v86 _=>m - (intOf v86).toNat)
    case atStart=>exact ⟨0,N ++ [x0],[],c1,fun _=>False,none,0,rfl,rfl,by omega,aH rfl,HQ0,HL0,HJ1,HU1,HAG,HX1,HC5,aH (Win.nil _ _ _ _),aH (fun b h=>h.elim)⟩
    case round =>
     obtain ⟨k,Nk,ks,ck,SK,so,sc,rfl,rfl,hk2,HKS,HQ,HL,HJ,HU,HAG,HX,HC5,HWK,HSK⟩:=hrel;clear HQ0 HL0 HJ1 HU1 HX1;by_cases hkm:(k:Int) < m
     ·
      have hkm1:decide ((k:Int) < m)=true:=aT hkm;have hkm2:decide (k < m)=true:=aT (by omega);obtain ⟨y,hy⟩:∃ y,K[k]?=some y:=⟨_,aG (by have:=HKM.o;omega)⟩;obtain ⟨kb,koff,yo,yc,hko,hkb,k0,k1,k2,k3,k4,k5,k6,hky⟩:=HK.o k y hy;obtain ⟨⟨N1,F1,n1⟩,hp⟩:∃ r,P y Nk=r:=⟨_,rfl⟩;obtain ⟨bl0,hcg⟩:Below w0.heap.size w0 wr/\ck g=9:=(by obtain ⟨v',Z',hj,-⟩:=HJ.o;exact ⟨hj.bl,hj.cg⟩);have hby:Below wr.heap.size wr (wr.alloc (.cells #[.int .i64 y.op,.string y.text,.int .u64 y.s0,.int .u64 y.s1,.int .u64 y.s2,.int .u64 y.s3,.slice yo y.kids.length yc] 32)):=bA _;have HPC:=aH (HP.o y (aM hy) yo yc hky _ ck Nk HL.o.2 (HJ.o.below hby))
      have HL1:=aH (show N.length < N1.length/\N1.length<=160 from by
       have q:=HPL.o y Nk;have q2:=HPM.o y Nk HL.o.2;rw [hp] at q q2
       exact ⟨aL HL.o.1 q,q2⟩)
      have HQ1:=aH (show KQ P K RES0 (k + 1) N1 (ks ++ [n1]) F1 from HQ.o.step hy hp);rw [hp] at HPC;unfold exv at HPC;have e0:=aC k0 bl0;have e1:=aC k1 bl0;have e2:=aC k2 bl0;have e3:=aC k3 bl0;have e4:=aC k4 bl0;have e5:=aC k5 bl0;have e6:=aC k6 bl0;have hkb2:kb < wr.heap.size:=aL hkb bl0.size;have HCG:=aH hcg;have HSW0:=aH (show w0.heap.size<=w.heap.size from by obtain ⟨v',Z',hj,-⟩:=HJ0.o;exact hj.bl.size);have hw1:IntKind.i64.wrap ((k:Int) + 1)=(k:Int) + 1:=wI;have HBY:=aH hby;have HOY:=aH (Own.fresh wr 32 [.int .i64 y.op,.string y.text,.int .u64 y.s0,.int .u64 y.s1,.int .u64 y.s2,.int .u64 y.s3,.slice yo y.kids.length yc]);subst hko;clear hy k0 k1 k2 k3 k4 k5 k6 hkb hky hp bl0 hcg hby;go_upto_region 15 with fail;clear e0 e1 e2 e3 e4 e5 e6 hkb2;obtain ⟨A5,hA5⟩:∃ A,wr.heap.size=A:=⟨_,rfl⟩;generalize hwy:wr.alloc (.cells #[.int .i64 y.op,.string y.text,.int .u64 y.s0,.int .u64 y.s1,.int .u64 y.s2,.int .u64 y.s3,.slice yo y.kids.length yc] 32)=wy at *;clear hwy;rw [hA5] at HOY;try rw [hA5]
      clear hA5;obtain ⟨y0,y1,y2,y3,y4,y5,y6⟩:=HOY.o.seven;have yl:=HOY.o.lt;go_wp2_with fail;refine HPC.o.mono ?_;rintro e w4 ⟨c4,N4,hJ4,hb4,ha4,hans⟩;clear HPC y0 y1 y2 y3 y4 y5 y6 yl;have HB4:=aH (show But (fun b=>b=g\/ck b=2) wr w4 from (But.of_below HBY.o).trans hb4 (fun b _ h=>h));have HA4:=aH (show Agree wr ck c4 from fun b hlt=>ha4 b (aL hlt HBY.o.size))
      have HU4:=aH (show But (fun b=>b=g\/ct b=2) w w4 from HU.o.trans HB4.o (fun b hlt h=>by
       rcases h with h | h
       · exact .inl h
       · exact .inr ((HAG.o b hlt).symm.trans h)))
      have HAG4:=aH (show Agree w ct c4 from HAG.o.trans HA4.o HU.o.size);have HJ4:=aH hJ4;have HS4:=aH HB4.o.size;clear hJ4 hb4 ha4 HBY HOY
      cases F1 with
      | some f =>
       have hans:e=.returned (.tuple #[.int .i64 0,.bool false]):=hans;subst hans;have HE:=aH (show RES=(N1,some f,N.length) from by rw [HR1.o,show RES0=(N1,some f,ks ++ [n1]) from HQ1.o];rfl);go_wp2;first | go_ret2 | go_ret
       rw [HE.o];exact ⟨c4,N4,HJ4.o,HU4.o,HAG4.o,rfl⟩
      | none =>
       obtain ⟨hans,rfl⟩:e=.returned (.tuple #[.int .i64 (n1:Int),.bool true])/\N4=N1:=hans;subst hans;have HJ4:=aH (show Jp w0 w4 g c4 rows (.slice mo nm mc) st N4 none from HJ4.o)
       have HWK4:=aH (HWK.o.keep HB4.o (fun b _ hs h=>by
        have:=(HSK.o b hs).1;rcases h with h | h
        · rw [h,HCG.o] at this;omega
        · omega))
       have HX4:=aH (HX.o.but HB4.o (fun h=>by
        rcases h with h | h
        · exact HG0.o.1 h.symm
        · have:=HC5.o;omega))
       have HD4:=aH (fun b (h:w4.heap.size<=b)=>show c4 b=0 from by
        obtain ⟨v',Z',hj,-⟩:=HJ4.o;by_cases e:c4 b=0
        · exact e
        · have:=(hj.dom b e).2;omega)
       obtain ⟨i0,hi0,hz0,hz1,hz2⟩:=cZ gL;have HNEW:=aH (fun W=>bD W 3 [.int .i64 (n1:Int)])
       go_wp2_with (first
        | (at_builtin;refine aX _ rfl _ _ 39 rfl SK 3 i0 _ 1 8 Tryz.underlying39 hi0 hz0 hz1 hz2 rfl (by decide) _ k (lD ks) rfl (HWK4.o.below (bA _)) ⟨w4.heap.size,0,none⟩ 1 1 [.int .i64 (n1:Int)] rfl rfl (HNEW.o w4) (by intro u hu;rw [List.mem_singleton.1 hu];rfl) (by unfold maxLen;omega) (by omega) ?_))
       intro v' w5 hw5 hb5;have hblx:Below w4.heap.size w4 (w4.alloc (.cells #[.int .i64 (n1:Int)] 3)):=bA _;have hsx:(w4.alloc (.cells #[.int .i64 (n1:Int)] 3)).heap.size=w4.heap.size + 1:=(by simp);have HS5:=aH (show w4.heap.size + 1<=w5.heap.size from by have:=hb5.size;omega)
       have HK4:=aH (fun b (h:SK b)=>show c4 b=0/\w.heap.size<=b/\b < w4.heap.size/\b ≠ B5 from by
        obtain ⟨h1,h2,h3,h4⟩:=HSK.o b h
        exact ⟨(HA4.o b h3).trans h1,h2,aL h3 HS4.o,h4⟩)
       have HJ5:=aH ((HJ4.o.below hblx).other hb5 (fun b _ hs=>⟨(HK4.o b hs).1,by have:=(HK4.o b hs).2.1;have:=HSW0.o;omega⟩));have HU5:=aH (show But (fun b=>b=g\/ct b=2) w w5 from (HU4.o.then_below hblx).trans hb5 (fun b hlt h=>by have:=(HK4.o b h).2.1;omega));have HX5:=aH ((HX4.o.under hblx HX4.o.lt).but hb5 (fun h=>(HK4.o B5 h).2.2.2 rfl));have HC55:=aH (show c4 B5=0 from (HA4.o B5 HX.o.lt).trans HC5.o)
       have HWK5:=aH (show Win (fun b=>(SK b\/w4.heap.size + 1<=b)/\b < w5.heap.size) 3 1 w5 v' (k + 1) (lD (ks ++ [n1])) from by
        unfold lD;rw [List.map_append]
        exact hw5.mono (fun j hlt h=>⟨by rcases h with h | h;exact .inl h;exact .inr (by first | exact h | (rw [hsx] at h;exact h)),hlt⟩))
       have HSK5:=aH (fun b (h:(SK b\/w4.heap.size + 1<=b)/\b < w5.heap.size)=>show c4 b=0/\w.heap.size<=b/\b < w5.heap.size/\b ≠ B5 from by
        obtain ⟨h | h,hlt⟩:=h
        · have:=HK4.o b h;exact ⟨this.1,this.2.1,hlt,this.2.2.2⟩
        ·
         refine ⟨HD4.o b (by omega),?_,hlt,?_⟩
         · have:=HU.o.size;have:=HS4.o;omega
         · have:=HX4.o.lt;omega)
       obtain ⟨so',sc',hv,-⟩:=HWK5.o.form;subst hv;have HKS5:=aH (show (ks ++ [n1]).length=k + 1 from by rw [List.length_append,HKS.o];rfl);clear hw5 hb5 hblx hsx HWK HSK HX HC5 HU HJ HJ4 HAG HWK4 HX4 HQ HL HKS HU4;go_wp2
       go_roundw
       case rel=>exact ⟨k + 1,N4,ks ++ [n1],c4,_,so',sc',rfl,by go_num,by omega,HKS5,HQ1,HL1,HJ5,HU5,HAG4,HX5,HC55,HWK5,HSK5⟩
       case measure=>simp [intOf];omega
     ·
      have hkm1:decide ((k:Int) < m)=false:=aF hkm;have hkm2:decide (k < m)=false:=aF (by omega);have HE:=aH (show RES=(Cv Nk N.length ks,none,N.length) from by rw [HR1.o,show RES0=(Nk,none,ks) from HQ.o.done (by have:=HKM.o;omega)];rfl);obtain ⟨vr,Zr,hWR,hZR,hKR⟩:=HJ.o;have HWR:=aH hWR;have HZR:=aH hZR;have HKR:=aH hKR;clear hWR hZR hKR;obtain ⟨zr,hzr⟩:∃ n,Zr.length=n:=⟨_,rfl⟩;have hzl:zn < zr:=(by have h1:=HL.o.1;have h2:=HNL.o;have h3:Nk.length=Zr.length:=(by rw [<- HZR.o,List.length_map]);omega);have HWN:=aH (show Win (fun b=>ck b=2) 62 10 wr (vr 2) zr (Zr.flatMap tyN) from by have q:=HWR.o.win 2 (by omega) (by omega);rw [upd_same] at q;have q:Win (fun b=>ck b=2) 62 10 wr (vr 2) Zr.length (Zr.flatMap tyN):=q;rw [hzr] at q;exact q);obtain ⟨no',nc',hvr,hnc',-,hnf⟩:=HWN.o.form;obtain ⟨zz,hzz⟩:∃ z,Zr[zn]?=some z:=⟨_,aG (by omega)⟩;obtain ⟨nb,noff,hno,-,hnbl,hcell,hfr⟩:=hnf (zn * 10 + 6) (by omega);rw [JC Zr zn 6 zz hzz (by omega)] at hcell;have hcell:wr.cell? ⟨nb,noff + zn * 10 + 6,none⟩=some (.slice zz.ko zz.n.ks.length zz.kc):=(by rw [Nat.add_assoc];exact hcell);have hfr:wr.frozen? ⟨nb,noff + zn * 10 + 6,none⟩=false:=(by rw [Nat.add_assoc];exact hfr);subst hno;have c3:wr.cell? ⟨g,3,none⟩=some (.slice (some ⟨nb,noff,none⟩) zr nc'):=(by have q:wr.cell? ⟨g,3,none⟩=some (vr 2):=HWR.o.own.cell 3;rw [q,hvr]);have hgl:=HWR.o.own.lt
      have HCL:=jp_close (SK:=SK) (so:=so) (sc:=sc) (n:=zn) (ks:=ks) (rows:=rows) HWR.o HKR.o (by rw [hzr];exact hvr) (by omega) (by rw [HKS.o];exact HWK.o) (fun b hs=>by
       obtain ⟨h1,h2,h3,h4⟩:=HSK.o b hs
       exact ⟨h1,by obtain ⟨v',Z',hj,-⟩:=HJ0.o;have:=hj.bl.size;omega,h3⟩)
      rw [HKS.o,<- Nat.add_assoc,HZR.o] at HCL;obtain ⟨c',hj,hb,hcc⟩:=HCL;have HJ9:=aH hj;have HB9:=aH hb;have HC9:=aH hcc;have hzi:decide ((zn:Int) < (zr:Int))=true:=aT (by omega);have hzin:decide (zn < zr)=true:=aT hzl;clear hj hb hcc hzz hvr hnf hnc' hzr;go_wp2;first | go_ret2 | go_ret
      rw [HE.o];refine ⟨c',_,HJ9.o,HU.o.trans HB9.o (fun b hlt h=>.inr ((HAG.o b hlt).symm.trans h)),fun b hlt=>?_,(by show Ending.returned (.tuple #[.int .i64 (zn:Int),.bool true])=.returned (.tuple #[.int .i64 (N.length:Int),.bool true]);rw [HNL.o]),(by rw [HNL.o])⟩;rw [HC9.o b (fun hs=>by have:=(HSK.o b hs).2.1;omega)];exact HAG.o b hlt
end Go.Proofs.YthkdnehgamefiaaGreat
