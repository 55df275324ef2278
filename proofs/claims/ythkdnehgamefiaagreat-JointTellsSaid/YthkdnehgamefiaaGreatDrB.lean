import Derived.Test.YthkdnehgamefiaaGreatDrA
namespace Go.Proofs.YthkdnehgamefiaaGreat
set_option linter.unusedVariables false
set_option maxHeartbeats 3200000
set_option maxRecDepth 1000000
open Go.RowKit Go.Sort
theorem rulB_cons (T:List ByteArray) (r:ByteArray × Ex) (rs:List (ByteArray × Ex)) (hw:bN r.1=true) :
  ((r :: rs).all (fun r=>dQ 53 r.2) && nL ⟨#[]⟩ T ((r :: rs).map (·.1)))=(!(hasB T r.1) && dQ 53 r.2 && (rs.all (fun r=>dQ 53 r.2) && nL ⟨#[]⟩ (T ++ [r.1]) (rs.map (·.1)))):=by
 rw [List.map_cons,List.all_cons,YH,hw,word_nz hw]
 cases hasB T r.1 <;> cases dQ 53 r.2 <;> simp
theorem drule_any (l:List (ByteArray × Ex)) (D nn:Nat) (ro:Option Addr) (rc:Nat) (h24:l.length<=24) (hrc:l.length<=rc) (hwd:∀ r ∈ l,bN r.1=true) (hbo:∀ r ∈ l,Okx r.2) (w:World) (hR:sN w D nn ro l) (hmx:Mx w) :
  Calls Tryz.prog 36 #[.slice ro l.length rc] w fun e w'=>e=.returned (.bool (l.all (fun r=>dQ 53 r.2) && nL ⟨#[]⟩ [] (l.map (·.1))))/\Below w.heap.size w w':=by
 have HRU:=aH hR;have HWD:=aH hwd;have HBO:=aH hbo;have HMX:=aH hmx;obtain ⟨n,hnn⟩:∃ n,l.length=n:=⟨_,rfl⟩;have HN:=aH hnn;obtain ⟨RES,hres⟩:∃ r,(l.all (fun r=>dQ 53 r.2) && nL ⟨#[]⟩ [] (l.map (·.1)))=r:=⟨_,rfl⟩;have HR0:=aH (show RES=((l.drop 0).all (fun r=>dQ 53 r.2) && nL ⟨#[]⟩ ((l.take 0).map (·.1)) ((l.drop 0).map (·.1))) from by rw [<- hres];rfl);rw [hres];rw [hnn] at h24 hrc ⊢;have hn4:(n:Int)<=24:=by omega
 have hn4d:decide ((24:Int) < (n:Int))=false:=aF (by omega);have hn4n:decide (24 < n)=false:=aF (by omega);have HB0:=aH (Below.refl w.heap.size w);have HCAP:=aH hrc;clear hnn hres hR hwd hbo hmx;go_enter Tryz.func36,Tryz.ntmps36;go_wp2_with fail
 go_loopw [10] (fun b5 wr=>∃ k:Nat,b5=.int .i64 (k:Int)/\(k:Int)<=n/\aQ (RES=((l.drop k).all (fun r=>dQ 53 r.2) && nL ⟨#[]⟩ ((l.take k).map (·.1)) ((l.drop k).map (·.1))))/\aQ (Below w.heap.size w wr)) (fun b5 _=>n - (intOf b5).toNat)
 case atStart=>exact ⟨0,rfl,by omega,HR0,HB0⟩
 case round =>
  obtain ⟨k,rfl,hk,HR,HB⟩:=hrel;clear HR0 HB0;by_cases hlt:(k:Int) < n
  ·
   have hlt':decide ((k:Int) < n)=true:=aT hlt;have hlt2:decide (k < n)=true:=aT (by omega);obtain ⟨r,hr⟩:∃ r,l[k]?=some r:=⟨_,aG (by have:=HN.o;omega)⟩;obtain ⟨rb,roff,yo,yc,hro,hrb,_,d0,d1,d2,d3,d4,d5,d6,d7,hky⟩:=HRU.o k r hr;have hmem:=aM hr;have HFW:=aH (show Fw 53 r.2 from ⟨(HBO.o r hmem).2,(HBO.o r hmem).1⟩);have HKY:=aH (show aV w 53 yo r.2.kids from aV.fit HFW.o.1 hky.hask);have hwb:=HWD.o r hmem
   have HT:=aH (show (l.take (k + 1)).map (·.1)=(l.take k).map (·.1) ++ [r.1] from by
    obtain ⟨h1,h2⟩:=aS.1 hr
    rw [List.take_succ_eq_append_getElem h1,h2,List.map_append];rfl)
   have HD:=aH (show l.drop k=r :: l.drop (k + 1) from by
    obtain ⟨h1,h2⟩:=aS.1 hr
    rw [List.drop_eq_getElem_cons h1,h2])
   obtain ⟨zh,hzh⟩:∃ z,hasB ((l.take k).map (·.1)) r.1=z:=⟨_,rfl⟩;obtain ⟨zr,hzr⟩:∃ z,dQ 53 r.2=z:=⟨_,rfl⟩;have HST:=aH (show RES=(!zh && zr && ((l.drop (k + 1)).all (fun r=>dQ 53 r.2) && nL ⟨#[]⟩ ((l.take (k + 1)).map (·.1)) ((l.drop (k + 1)).map (·.1)))) from by rw [HR.o,HD.o,rulB_cons _ _ _ hwb,HT.o,hzh,hzr]);have e0:=aC d0 HB.o;have e1:=aC d1 HB.o;have e2:=aC d2 HB.o;have e3:=aC d3 HB.o;have e4:=aC d4 HB.o;have e5:=aC d5 HB.o;have e6:=aC d6 HB.o;have e7:=aC d7 HB.o;have hrb2:rb < wr.heap.size:=aL hrb HB.o.size;have HRO:=aH hro;subst hro;have HBX:=aH (show Below wr.heap.size wr (wr.alloc (.cells #[.string r.1,.int .i64 r.2.op,.string r.2.text,.int .u64 r.2.s0,.int .u64 r.2.s1,.int .u64 r.2.s2,.int .u64 r.2.s3,.slice yo r.2.kids.length yc] 51)) from bA _);have HX:=aH (Own.fresh wr 51 [.string r.1,.int .i64 r.2.op,.string r.2.text,.int .u64 r.2.s0,.int .u64 r.2.s1,.int .u64 r.2.s2,.int .u64 r.2.s3,.slice yo r.2.kids.length yc]);have hw1:IntKind.i64.wrap ((k:Int) + 1)=(k:Int) + 1:=wI;have hkc:(k:Int)<=rc:=(by have:=HCAP.o;omega);have hkc2:k<=rc:=(by have:=HCAP.o;omega);have HE0:=aH (fun (h:zh=true\/zr=false)=>show RES=false from by rw [HST.o];rcases h with h | h <;> rw [h] <;> simp);clear d0 d1 d2 d3 d4 d5 d6 d7 hky HR HD HT hrb hmem;go_upto_region 6 with fail;clear e0 e1 e2 e3 e4 e5 e6 e7 hrb2;obtain ⟨A,hA⟩:∃ A,wr.heap.size=A:=⟨_,rfl⟩;generalize hw2:wr.alloc (.cells #[.string r.1,.int .i64 r.2.op,.string r.2.text,.int .u64 r.2.s0,.int .u64 r.2.s1,.int .u64 r.2.s2,.int .u64 r.2.s3,.slice yo r.2.kids.length yc] 51)=w1 at *;clear hw2;rw [hA] at HX;try rw [hA]
   clear hA;have x0:=HX.o.cell 0;have x1:=HX.o.cell 1;have x2:=HX.o.cell 2;have x3:=HX.o.cell 3;have x4:=HX.o.cell 4;have x5:=HX.o.cell 5;have x6:=HX.o.cell 6;have x7:=HX.o.cell 7;have y0:=cell_regrown x0;have y1:=cell_regrown x1;have y2:=cell_regrown x2;have y3:=cell_regrown x3;have y4:=cell_regrown x4;have y5:=cell_regrown x5;have y6:=cell_regrown x6;have y7:=cell_regrown x7;have xl:=HX.o.lt;have HW1:=aH (fun dq os=>show Below w.heap.size w (grow (redrawn w1 dq) os) from HB.o.trans ((HBX.o.trans ((below_regrown w1 dq os).mono HBX.o.size)).mono HB.o.size));have CW:=aH (fun (dq:Nat) (os:Array Obj)=>show Calls Tryz.prog 34 #[.string r.1] (grow (redrawn w1 dq) os) fun e w'=>e=.returned (.bool true)/\Below (grow (redrawn w1 dq) os).heap.size (grow (redrawn w1 dq) os) w' from (sF r.1 (by have:=Ot hwb;unfold maxLen;omega) true hwb _).mono fun e w' h=>⟨h.1,h.2 ▸ Below.refl _ _⟩)
   have CH:=aH (fun (dq:Nat) (os:Array Obj)=>show Calls Tryz.prog 66 #[.slice (some ⟨rb,roff,none⟩) k rc,.string r.1] (grow (redrawn w1 dq) os) fun e w'=>e=.returned (.bool zh)/\Below (grow (redrawn w1 dq) os).heap.size (grow (redrawn w1 dq) os) w' from by
    have q:=dhas_any (l.take k) D nn (some ⟨rb,roff,none⟩) rc r.1 (by rw [List.length_take];have:=HN.o;omega) (grow (redrawn w1 dq) os) ((HRU.o.take k).but (But.of_below (S:=fun _=>False) (HW1.o dq os)) (fun _ h=>h.elim));rw [hzh,List.length_take,Nat.min_eq_left (by have:=HN.o;omega)] at q
    exact q)
   have CR:=aH (fun (dq:Nat) (os:Array Obj)=>show Calls Tryz.prog 32 #[.agg #[.int .i64 r.2.op,.string r.2.text,.int .u64 r.2.s0,.int .u64 r.2.s1,.int .u64 r.2.s2,.int .u64 r.2.s3,.slice yo r.2.kids.length yc]] (grow (redrawn w1 dq) os) fun e w'=>e=.returned (.bool zr)/\Below (grow (redrawn w1 dq) os).heap.size (grow (redrawn w1 dq) os) w' from by
    have q:=prightw_any 53 (by omega) r.2 yo yc (grow (redrawn w1 dq) os) HFW.o (aV.below (HW1.o dq os) HKY.o) (HMX.o.below (HW1.o dq os));rw [hzr] at q
    exact q)
   clear hr hzh hzr hwb HW1
   cases zh with
   | true =>
    go_wp2_with fail;refine wp_region_quiet_below (by kernel_rfl) (by kernel_rfl) ?_
    repeat (go_big_quiet_step (first
     | (go_at_call 34;with_reducible exact Calls.regrown_of (CW.o _ _))
         | (go_at_call 66;with_reducible exact Calls.regrown_of (CH.o _ _))
         | (go_at_call 32;with_reducible exact Calls.regrown_of (CR.o _ _))))
    refine wpQuiet_nil ?_;intro _ hw';obtain ⟨⟨dq,osq⟩,hw''⟩:=hw';subst hw'';have HB2:=aH (HB.o.trans ((HBX.o.trans ((below_regrown w1 dq osq).mono HBX.o.size)).mono HB.o.size));clear x0 x1 x2 x3 x4 x5 x6 x7 y0 y1 y2 y3 y4 y5 y6 y7 xl;go_wp2;go_ret;rw [HE0.o (by simp)];exact ⟨rfl,HB2.o⟩
   | false =>
    cases zr with
    | false =>
     go_wp2_with fail;refine wp_region_quiet_below (by kernel_rfl) (by kernel_rfl) ?_
     repeat (go_big_quiet_step (first
      | (go_at_call 34;with_reducible exact Calls.regrown_of (CW.o _ _))
           | (go_at_call 66;with_reducible exact Calls.regrown_of (CH.o _ _))
           | (go_at_call 32;with_reducible exact Calls.regrown_of (CR.o _ _))))
     refine wpQuiet_nil ?_;intro _ hw';obtain ⟨⟨dq,osq⟩,hw''⟩:=hw';subst hw'';have HB2:=aH (HB.o.trans ((HBX.o.trans ((below_regrown w1 dq osq).mono HBX.o.size)).mono HB.o.size));clear x0 x1 x2 x3 x4 x5 x6 x7 y0 y1 y2 y3 y4 y5 y6 y7 xl;go_wp2;go_ret;rw [HE0.o (by simp)];exact ⟨rfl,HB2.o⟩
    | true =>
     go_wp2_with fail;refine wp_region_quiet_below (by kernel_rfl) (by kernel_rfl) ?_
     repeat (go_big_quiet_step (first
      | (go_at_call 34;with_reducible exact Calls.regrown_of (CW.o _ _))
           | (go_at_call 66;with_reducible exact Calls.regrown_of (CH.o _ _))
           | (go_at_call 32;with_reducible exact Calls.regrown_of (CR.o _ _))))
     refine wpQuiet_nil ?_;intro _ hw';obtain ⟨⟨dq,osq⟩,hw''⟩:=hw';subst hw'';have HB2:=aH (HB.o.trans ((HBX.o.trans ((below_regrown w1 dq osq).mono HBX.o.size)).mono HB.o.size));clear x0 x1 x2 x3 x4 x5 x6 x7 y0 y1 y2 y3 y4 y5 y6 y7 xl;have HE:=aH (show RES=((l.drop (k + 1)).all (fun r=>dQ 53 r.2) && nL ⟨#[]⟩ ((l.take (k + 1)).map (·.1)) ((l.drop (k + 1)).map (·.1))) from by rw [HST.o];rfl);go_wp2
     go_roundw
     case rel=>exact ⟨k + 1,by go_num,by omega,HE,HB2⟩
     case measure=>simp [intOf];omega
  · have hlt':decide ((k:Int) < n)=false:=aF hlt;have hlt2:decide (k < n)=false:=aF (by omega);have HE:=aH (show RES=true from by rw [HR.o,List.drop_eq_nil_of_le (by have:=HN.o;omega)];rfl);go_wp2;go_ret;rw [HE.o];exact ⟨rfl,HB.o⟩
theorem psame0_any (ko:Option Addr) (kc:Nat) (w:World):Calls Tryz.prog 33 #[.agg #[.int .i64 0,.string ⟨#[]⟩,.int .u64 0,.int .u64 0,.int .u64 0,.int .u64 0,.slice ko 0 kc],.agg #[.int .i64 0,.string ⟨#[]⟩,.int .u64 0,.int .u64 0,.int .u64 0,.int .u64 0,.slice none 0 0]] w fun e w'=>e=.returned (.bool true)/\Below w.heap.size w w':=by
 have HB0:=aH (show Below w.heap.size w ((w.alloc (.cells #[.int .i64 0,.string ⟨#[]⟩,.int .u64 0,.int .u64 0,.int .u64 0,.int .u64 0,.slice ko 0 kc] 32)).alloc (.cells #[.int .i64 0,.string ⟨#[]⟩,.int .u64 0,.int .u64 0,.int .u64 0,.int .u64 0,.slice none 0 0] 32)) from (bA _).alloc (by simp) _);go_enter Tryz.func33,Tryz.ntmps33;go_wp2_with fail
 go_loopw [37] (fun b5 wr=>b5=.int .i64 0/\aQ (Below w.heap.size w wr)) (fun _ _=>0)
 case atStart=>exact ⟨rfl,HB0⟩
 case round =>
  obtain ⟨rfl,HB⟩:=hrel;go_wp2;go_ret;exact ⟨rfl,HB.o⟩
theorem dright_any (m:Md) (D n:Nat) (io:Option Addr) (ic:Nat) (ko:Option Addr) (kc:Nat) (ro:Option Addr) (rc:Nat) (hw:Wel m) (h4:m.im.length<=4) (h24:m.ru.length<=24) (hic:m.im.length<=ic) (hrc:m.ru.length<=rc) (w:World) (hN:gI w io m.im) (hK:aV w 53 ko m.wa.kids) (hR:sN w D n ro m.ru) (hmx:Mx w) :
  Calls Tryz.prog 12 #[.agg #[.string m.nm,.slice io m.im.length ic,.bool m.wet,.int .i64 m.wa.op,.string m.wa.text,.int .u64 m.wa.s0,.int .u64 m.wa.s1,.int .u64 m.wa.s2,.int .u64 m.wa.s3,.slice ko m.wa.kids.length kc,.slice ro m.ru.length rc]] w fun e w'=>e=.returned (.bool (Qx m))/\Below w.heap.size w w':=by
 have HRQ:=aH (B8k hw h4 h24);have HWD:=aH (fun W=>sF m.nm (by have:=Ot hw.nm;unfold maxLen;omega) true hw.nm W);obtain ⟨nm,im,wet,wa,ru⟩:=m;simp only at HRQ HWD hN hK hR h4 h24 hic hrc hw ⊢;have HWA:=aH hw.wa;have HDRY:=aH hw.dry;have HIM:=aH (fun W (hW:Below w.heap.size w W)=>fun (o a b c d:Int) (t:ByteArray) (kn:Nat)=>dimp_any im io ic nm t wet o a b c d ko kn kc ro ru.length rc h4 hic (fun x hx=>by have:=Ot (hw.im x hx);omega) W (hN.below hW));have HRL:=aH (fun W (hW:Below w.heap.size w W)=>drule_any ru D n ro rc h24 hrc hw.ru hw.bo W (hR.but (But.of_below (S:=fun _=>False) hW) (fun _ h=>h.elim)) (hmx.below hW));have HK0:=aH hK;have HMX:=aH hmx;obtain ⟨RES,hRES⟩:∃ z,Qx ⟨nm,im,wet,wa,ru⟩=z:=⟨_,rfl⟩;rw [hRES] at HRQ;rw [hRES];clear hRES;obtain ⟨za,hza⟩:∃ z,nL nm [] im=z:=⟨_,rfl⟩;obtain ⟨zu,hzu⟩:∃ z,(ru.all (fun r=>dQ 53 r.2) && nL ⟨#[]⟩ [] (ru.map (·.1)))=z:=⟨_,rfl⟩;have HQ0:=aH (show RES=(za && (!wet || dQ 53 wa) && zu) from by rw [HRQ.o,<- hza,<- hzu];simp [Bool.and_assoc]);rw [hza] at HIM;rw [hzu] at HRL;obtain ⟨ni,hni⟩:∃ z,im.length=z:=⟨_,rfl⟩;obtain ⟨nr,hnr⟩:∃ z,ru.length=z:=⟨_,rfl⟩;rw [hni,hnr] at HIM;rw [hnr] at HRL;clear hN hK hR h4 h24 hic hrc hza hzu hw hmx HRQ
 cases wet with
 | true =>
  have HRT:=aH (fun W (hW:Below w.heap.size w W)=>show Calls Tryz.prog 32 #[.agg #[.int .i64 wa.op,.string wa.text,.int .u64 wa.s0,.int .u64 wa.s1,.int .u64 wa.s2,.int .u64 wa.s3,.slice ko wa.kids.length kc]] W fun e w'=>e=.returned (.bool (dQ 53 wa))/\Below W.heap.size W w' from prightw_any 53 (by omega) wa ko kc W ⟨HWA.o.2,HWA.o.1⟩ (aV.below hW HK0.o) (HMX.o.below hW));obtain ⟨zr,hzr⟩:∃ z,dQ 53 wa=z:=⟨_,rfl⟩;rw [hzr] at HRT;have HQ1:=aH (show RES=(za && zr && zu) from by rw [HQ0.o,hzr];simp);have HIW:=aH (fun W hW=>HIM.o W hW wa.op wa.s0 wa.s1 wa.s2 wa.s3 wa.text wa.kids.length);clear hzr HIM HQ0;rw [hni,hnr];clear hni hnr;have HB1:=aH (show Below w.heap.size w (w.alloc (.cells #[.string nm,.slice io ni ic,.bool true,.int .i64 wa.op,.string wa.text,.int .u64 wa.s0,.int .u64 wa.s1,.int .u64 wa.s2,.int .u64 wa.s3,.slice ko wa.kids.length kc,.slice ro nr rc] 35)) from bA _);have HM1:=aH (Own.fresh w 35 [.string nm,.slice io ni ic,.bool true,.int .i64 wa.op,.string wa.text,.int .u64 wa.s0,.int .u64 wa.s1,.int .u64 wa.s2,.int .u64 wa.s3,.slice ko wa.kids.length kc,.slice ro nr rc]);obtain ⟨B,hB⟩:∃ B,w.heap.size=B:=⟨_,rfl⟩;rw [hB] at HM1;go_enter Tryz.func12,Tryz.ntmps12;go_upto_region 1 with fail;generalize w.alloc (.cells #[.string nm,.slice io ni ic,.bool true,.int .i64 wa.op,.string wa.text,.int .u64 wa.s0,.int .u64 wa.s1,.int .u64 wa.s2,.int .u64 wa.s3,.slice ko wa.kids.length kc,.slice ro nr rc] 35)=w1 at *;try rw [hB]
  clear hB;obtain ⟨m0,m1,m2,m3,m4,m5,m6,m7,m8,m9,mA⟩:=HM1.o.elev;have ml:=HM1.o.lt;go_wp2_with fail;refine (HRT.o _ HB1.o).mono ?_;rintro e w2 ⟨rfl,hb2⟩;have HB2:=aH (HB1.o.trans (hb2.mono HB1.o.size));have HM2:=aH (HM1.o.under hb2 HM1.o.lt);clear hb2 m0 m1 m2 m3 m4 m5 m6 m7 m8 m9 mA ml HB1 HM1;obtain ⟨m0,m1,m2,m3,m4,m5,m6,m7,m8,m9,mA⟩:=HM2.o.elev;have ml:=HM2.o.lt
  cases zr with
  | false =>
   have HE:=aH (show RES=false from by rw [HQ1.o];simp);go_wp2;go_ret;rw [HE.o];exact ⟨rfl,HB2.o⟩
  | true =>
   have HQ:=aH (show RES=(za && zu) from by rw [HQ1.o];simp);go_wp2_with fail;refine (HWD.o _).mono ?_;rintro e w3 ⟨rfl,rfl⟩;go_wp2_with fail;refine (HIW.o _ HB2.o).mono ?_;rintro e w3 ⟨rfl,hb3⟩;have HB3:=aH (HB2.o.trans (hb3.mono HB2.o.size));have HM3:=aH (HM2.o.under hb3 HM2.o.lt);clear hb3 m0 m1 m2 m3 m4 m5 m6 m7 m8 m9 mA ml HB2 HM2;obtain ⟨m0,m1,m2,m3,m4,m5,m6,m7,m8,m9,mA⟩:=HM3.o.elev;have ml:=HM3.o.lt
   cases za with
   | false =>
    have HE:=aH (show RES=false from by rw [HQ.o];simp);go_wp2;go_ret;rw [HE.o];exact ⟨rfl,HB3.o⟩
   | true =>
    have HE:=aH (show RES=zu from by rw [HQ.o];simp);go_wp2_with fail;refine (HRL.o _ HB3.o).mono ?_;rintro e w4 ⟨rfl,hb4⟩;have HB4:=aH (HB3.o.trans (hb4.mono HB3.o.size));clear hb4;go_wp2;go_ret;rw [HE.o];exact ⟨rfl,HB4.o⟩
 | false =>
  obtain rfl:wa=ex0:=HDRY.o rfl;have HQ:=aH (show RES=(za && zu) from by rw [HQ0.o];simp);have HIW:=aH (fun W hW=>HIM.o W hW 0 0 0 0 0 ⟨#[]⟩ 0);clear HIM HQ0;show Calls Tryz.prog 12 #[.agg #[.string nm,.slice io im.length ic,.bool false,.int .i64 0,.string ⟨#[]⟩,.int .u64 0,.int .u64 0,.int .u64 0,.int .u64 0,.slice ko 0 kc,.slice ro ru.length rc]] w _;rw [hni,hnr];clear hni hnr;have HB1:=aH (show Below w.heap.size w (w.alloc (.cells #[.string nm,.slice io ni ic,.bool false,.int .i64 0,.string ⟨#[]⟩,.int .u64 0,.int .u64 0,.int .u64 0,.int .u64 0,.slice ko 0 kc,.slice ro nr rc] 35)) from bA _);have HM1:=aH (Own.fresh w 35 [.string nm,.slice io ni ic,.bool false,.int .i64 0,.string ⟨#[]⟩,.int .u64 0,.int .u64 0,.int .u64 0,.int .u64 0,.slice ko 0 kc,.slice ro nr rc]);obtain ⟨B,hB⟩:∃ B,w.heap.size=B:=⟨_,rfl⟩;rw [hB] at HM1;go_enter Tryz.func12,Tryz.ntmps12;go_upto_region 1 with fail;generalize w.alloc (.cells #[.string nm,.slice io ni ic,.bool false,.int .i64 0,.string ⟨#[]⟩,.int .u64 0,.int .u64 0,.int .u64 0,.int .u64 0,.slice ko 0 kc,.slice ro nr rc] 35)=w1 at *;try rw [hB]
  clear hB;obtain ⟨m0,m1,m2,m3,m4,m5,m6,m7,m8,m9,mA⟩:=HM1.o.elev;have ml:=HM1.o.lt;go_wp2_with fail;refine (psame0_any ko kc _).mono ?_;rintro e w2 ⟨rfl,hb2⟩;have HB2:=aH (HB1.o.trans (hb2.mono HB1.o.size));have HM2:=aH (HM1.o.under hb2 HM1.o.lt);clear hb2 m0 m1 m2 m3 m4 m5 m6 m7 m8 m9 mA ml HB1 HM1;obtain ⟨m0,m1,m2,m3,m4,m5,m6,m7,m8,m9,mA⟩:=HM2.o.elev;have ml:=HM2.o.lt;go_wp2_with fail;refine (HWD.o _).mono ?_;rintro e w3 ⟨rfl,rfl⟩;go_wp2_with fail;refine (HIW.o _ HB2.o).mono ?_;rintro e w3 ⟨rfl,hb3⟩;have HB3:=aH (HB2.o.trans (hb3.mono HB2.o.size));have HM3:=aH (HM2.o.under hb3 HM2.o.lt);clear hb3 m0 m1 m2 m3 m4 m5 m6 m7 m8 m9 mA ml HB2 HM2;obtain ⟨m0,m1,m2,m3,m4,m5,m6,m7,m8,m9,mA⟩:=HM3.o.elev;have ml:=HM3.o.lt
  cases za with
  | false =>
   have HE:=aH (show RES=false from by rw [HQ.o];simp);go_wp2;go_ret;rw [HE.o];exact ⟨rfl,HB3.o⟩
  | true =>
   have HE:=aH (show RES=zu from by rw [HQ.o];simp);go_wp2_with fail;refine (HRL.o _ HB3.o).mono ?_;rintro e w4 ⟨rfl,hb4⟩;have HB4:=aH (HB3.o.trans (hb4.mono HB3.o.size));clear hb4;go_wp2;go_ret;rw [HE.o];exact ⟨rfl,HB4.o⟩
end Go.Proofs.YthkdnehgamefiaaGreat
