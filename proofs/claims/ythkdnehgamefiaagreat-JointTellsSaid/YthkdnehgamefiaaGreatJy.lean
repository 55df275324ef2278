import Derived.Test.YthkdnehgamefiaaGreatJnF
namespace Go.Proofs.YthkdnehgamefiaaGreat
set_option linter.unusedVariables false
set_option maxHeartbeats 3200000
set_option maxRecDepth 1000000
open Go.RowKit Go.Sort
theorem Ci (N:List Nj) (n:Nat) (ks:List Nat):(Cv N n ks).length=N.length:=by unfold Cv;simp
theorem PW {P:Ex->List Nj->Pt} (hP:∀ y N,N.length<=(P y N).1.length):∀ (K:List Ex) (N:List Nj) (ks:List Nat),N.length<=(kV P K N ks).1.length
 | [],N,ks=>Nat.le_refl _
 | y :: r,N,ks=>by
  have h1:=hP y N;unfold kV
  cases hp:P y N with
  | mk N1 q =>
   obtain ⟨F1,n1⟩:=q;rw [hp] at h1
   cases F1 with
   | none=>exact Nat.le_trans h1 (PW hP r N1 (ks ++ [n1]))
   | some f=>exact h1
theorem A9m (n:Nat) (r:Pk):(AY n r).1.length=r.1.length:=by
 obtain ⟨N,F,ks⟩:=r
 cases F with
 | none=>exact Ci N n ks
 | some f=>rfl
theorem A1T (ML:List Md) (F:List Nat) (mod:Nat) (ru:Int):∀ (d:Nat) (e:Ex) (N:List Nj),N.length<=(uS ML F mod ru d e N).1.length
 | 0,e,N=>Nat.le_refl _
 | d + 1,e,N=>by
  unfold uS;split
  · exact Nat.le_refl _
  ·
   cases toO ML F mod e with
   | none=>exact Nat.le_refl _
   | some tt =>
    simp only [];rw [A9m];exact Nat.le_trans (by simp) (PW (A1T ML F mod ru d) e.kids _ [])
theorem A0R (ML:List Md) (FL:List Nat) (mo:Option Addr) (mc:Nat) (w0:World) (D0:Nat) (hM:fK w0 D0 mo ML) (hfew:Few ML) (hFL:FL.length=ML.length) (hFb:∀ x ∈ FL,x<=1000000000) (g:Nat) (mod:Nat) (hmod:mod<=1000000) (ru:Int) (rows:Rw) (hr5:rows 5=(FL.length,lD FL)) (st:Int) :
  ∀ (d:Nat) (x:Ex) (ko:Option Addr) (kc:Nat),Fw d x->aV w0 d ko x.kids->∀ (w:World) (ct:Nat->Nat) (N:List Nj),Jn w0 w g ct rows (.slice mo ML.length mc) st N none →
  Calls Tryz.prog 27 #[.pointer (some ⟨g,0,none⟩),exv x ko kc,.int .i64 (mod:Int),.int .i64 ru] w (JPo w0 g rows (.slice mo ML.length mc) st (uS ML FL mod ru d x N) w ct)
 | 0,x,ko,kc,h,_,_,_,_,_=>h.no.elim
 | nd + 1,.mk o t a b c d K,ko,kc,h,hK,w,ct,N,hJ=>by
  rw [A8F]
  exact A7V ML FL mo mc w0 D0 hM hfew hFL hFb g mod hmod ru rows hr5 st (uS ML FL mod ru nd) nd o a b c d t K (A1T ML FL mod ru nd)
   (fun y hy yo yc hky W ct' N' hJ'=>by
    obtain ⟨k,hk⟩:=List.mem_iff_getElem?.1 hy
    exact A0R ML FL mo mc w0 D0 hM hfew hFL hFb g mod hmod ru rows hr5 st nd y yo yc (h.kid (k:=k) hk) hky W ct' N' hJ')
   h.len.2 h.len.1 ko kc hK w ct N hJ
theorem A4Y (ko:Option Addr) (kc:Nat) (w:World):Calls Tryz.prog 42 #[.agg #[.int .i64 0,.string ⟨#[]⟩,.int .u64 0,.int .u64 0,.int .u64 0,.int .u64 0,.slice ko 0 kc],.agg #[.int .i64 0,.string ⟨#[]⟩,.int .u64 0,.int .u64 0,.int .u64 0,.int .u64 0,.slice none 0 0]] w fun e w'=>e=.returned (.bool true)/\Below w.heap.size w w':=by
 have HB0:=aH (show Below w.heap.size w ((w.alloc (.cells #[.int .i64 0,.string ⟨#[]⟩,.int .u64 0,.int .u64 0,.int .u64 0,.int .u64 0,.slice ko 0 kc] 32)).alloc (.cells #[.int .i64 0,.string ⟨#[]⟩,.int .u64 0,.int .u64 0,.int .u64 0,.int .u64 0,.slice none 0 0] 32)) from (bA _).alloc (by simp) _);have HO0:=aH ((Own.fresh w 32 [.int .i64 0,.string ⟨#[]⟩,.int .u64 0,.int .u64 0,.int .u64 0,.int .u64 0,.slice ko 0 kc]).on_alloc (.cells #[.int .i64 0,.string ⟨#[]⟩,.int .u64 0,.int .u64 0,.int .u64 0,.int .u64 0,.slice none 0 0] 32));go_enter Tryz.func42,Tryz.ntmps42;go_wp2_with fail
 go_loopw [5] (fun b5 wr=>b5=.int .i64 0/\aQ (Below w.heap.size w wr)/\aQ (Own wr w.heap.size 32 [.int .i64 0,.string ⟨#[]⟩,.int .u64 0,.int .u64 0,.int .u64 0,.int .u64 0,.slice ko 0 kc])) (fun _ _=>0)
 case atStart=>exact ⟨rfl,HB0,HO0⟩
 case round =>
  obtain ⟨rfl,HB,HO⟩:=hrel;have c6:wr.cell? ⟨w.heap.size,6,none⟩=some (.slice ko 0 kc):=HO.o.cell 6;go_wp2;go_ret;exact ⟨rfl,HB.o⟩
theorem YH (no:ByteArray) (B:List ByteArray) (x:ByteArray) (r:List ByteArray):nL no B (x :: r)=(bN x && !(x.toList == no.toList) && !(hasB B x) && nL no (B ++ [x]) r):=rfl
theorem Qq (l:List ByteArray) (ao:Option Addr) (cap:Nat) (no:ByteArray) (hn:(l.length:Int)<=90000) (hcap:l.length<=cap) (hsz:∀ x ∈ l,x.size<=100000) (w:World) (hl:gI w ao l) :
  Calls Tryz.prog 89 #[.slice ao l.length cap,.string no] w fun e w'=>e=.returned (.bool (nL no [] l))/\Below w.heap.size w w':=by
 have HL:=aH hl;have HSZ:=aH hsz
 have HHS:=aH (fun (k:Nat) (hk:k<=l.length) (s:ByteArray) W (hW:gI W ao l)=>show Calls Tryz.prog 81 #[.slice ao k cap,.string s] W fun e w'=>e=.returned (.bool (hasB (l.take k) s))/\w'=W from by
  have q:=hasl_any (l.take k) ao cap s (by rw [List.length_take];omega) W (fun j x hx=>hW j x (by rw [List.getElem?_take] at hx;split at hx;exact hx;cases hx));rw [List.length_take,Nat.min_eq_left hk] at q
  exact q.mono fun e w' h=>⟨h.1,h.2.symm⟩)
 obtain ⟨n,hnn⟩:∃ n,l.length=n:=⟨_,rfl⟩;have HN:=aH hnn;obtain ⟨RES,hres⟩:∃ r,nL no [] l=r:=⟨_,rfl⟩;have HR0:=aH (show RES=nL no (l.take 0) (l.drop 0) from by rw [<- hres];rfl);rw [hres];rw [hnn] at hn hcap HHS ⊢;have HB0:=aH (Below.refl w.heap.size w);have HCAP:=aH hcap;clear hl hnn hres hsz;go_enter Tryz.func89,Tryz.ntmps89;go_wp2_with fail
 go_loopw [5] (fun b5 wr=>∃ k:Nat,b5=.int .i64 (k:Int)/\(k:Int)<=n/\aQ (RES=nL no (l.take k) (l.drop k))/\aQ (Below w.heap.size w wr)) (fun b5 _=>n - (intOf b5).toNat)
 case atStart=>exact ⟨0,rfl,by omega,HR0,HB0⟩
 case round =>
  obtain ⟨k,rfl,hk,HR,HB⟩:=hrel;clear HR0 HB0;by_cases hlt:(k:Int) < n
  ·
   have hlt':decide ((k:Int) < n)=true:=aT hlt;obtain ⟨x,hx⟩:∃ x,l[k]?=some x:=⟨_,aG (by have:=HN.o;omega)⟩
   have HD:=aH (show l.drop k=x :: l.drop (k + 1) from by
    obtain ⟨h1,h2⟩:=aS.1 hx
    rw [List.drop_eq_getElem_cons h1,h2])
   have HT:=aH (show l.take (k + 1)=l.take k ++ [x] from by
    obtain ⟨h1,h2⟩:=aS.1 hx
    rw [List.take_succ_eq_append_getElem h1,h2])
   have HLW:=aH (HL.o.below HB.o);obtain ⟨b,off,hao,hb,c0⟩:=HLW.o k x hx;obtain ⟨zw,hzw⟩:∃ z,bN x=z:=⟨_,rfl⟩;obtain ⟨zn,hzn⟩:∃ z,(x.toList == no.toList)=z:=⟨_,rfl⟩;obtain ⟨zh,hzh⟩:∃ z,hasB (l.take k) x=z:=⟨_,rfl⟩;have HST:=aH (show RES=(zw && !zn && !zh && nL no (l.take (k + 1)) (l.drop (k + 1))) from by rw [HR.o,HD.o,YH,HT.o,hzw,hzn,hzh]);have HWC:=aH (fun W=>Fy x (by have:=HSZ.o x (aM hx);unfold maxLen;omega) zw hzw W);have HHC:=aH (fun W (hW:gI W ao l)=>show Calls Tryz.prog 81 #[.slice ao k cap,.string x] W fun e w'=>e=.returned (.bool zh)/\w'=W from by have q:=HHS.o k (by omega) x W hW;rw [hzh] at q;exact q);have hw1:IntKind.i64.wrap ((k:Int) + 1)=(k:Int) + 1:=wI;have hkc:(k:Int)<=cap:=(by have:=HCAP.o;omega);have hkc2:k<=cap:=(by have:=HCAP.o;omega);rw [hao] at HHC HHS HLW HL;subst hao;clear hx hzw hzh HR HD HT
   cases zw with
   | false =>
    go_wp2_with fail;go_quiet (first | (go_at_call 14;with_reducible exact Calls.quiet_of_same (HWC.o _)) | (go_at_call 81;with_reducible exact Calls.quiet_of_same (HHC.o _ (HLW.o.below (below_drewN (Below.refl _ _) _)))))
    have HB1:=aH (below_drewN HB.o nq);have HE:=aH (show RES=false from by rw [HST.o];rfl);go_wp2;go_ret;rw [HE.o];exact ⟨rfl,HB1.o⟩
   | true =>
    cases zn with
    | true =>
     go_wp2_with fail;go_quiet (first | (go_at_call 14;with_reducible exact Calls.quiet_of_same (HWC.o _)) | (go_at_call 81;with_reducible exact Calls.quiet_of_same (HHC.o _ (HLW.o.below (below_drewN (Below.refl _ _) _)))))
     have HB1:=aH (below_drewN HB.o nq);have HE:=aH (show RES=false from by rw [HST.o];rfl);go_wp2;go_ret;rw [HE.o];exact ⟨rfl,HB1.o⟩
    | false =>
     cases zh with
     | true =>
      go_wp2_with fail;go_quiet (first | (go_at_call 14;with_reducible exact Calls.quiet_of_same (HWC.o _)) | (go_at_call 81;with_reducible exact Calls.quiet_of_same (HHC.o _ (HLW.o.below (below_drewN (Below.refl _ _) _)))))
      have HB1:=aH (below_drewN HB.o nq);have HE:=aH (show RES=false from by rw [HST.o];rfl);go_wp2;go_ret;rw [HE.o];exact ⟨rfl,HB1.o⟩
     | false =>
      go_wp2_with fail;go_quiet (first | (go_at_call 14;with_reducible exact Calls.quiet_of_same (HWC.o _)) | (go_at_call 81;with_reducible exact Calls.quiet_of_same (HHC.o _ (HLW.o.below (below_drewN (Below.refl _ _) _)))))
      have HB1:=aH (below_drewN HB.o nq);have HE:=aH (show RES=nL no (l.take (k + 1)) (l.drop (k + 1)) from by rw [HST.o];rfl);go_wp2
      go_roundw
      case rel=>exact ⟨k + 1,by go_num,by omega,HE,HB1⟩
      case measure=>simp [intOf];omega
  · have hlt':decide ((k:Int) < n)=false:=aF hlt;have HE:=aH (show RES=true from by rw [HR.o,List.drop_eq_nil_of_le (by have:=HN.o;omega)];rfl);go_wp2;go_ret;rw [HE.o];exact ⟨rfl,HB.o⟩
theorem B8k {m:Md} (hw:Wel m) (h4:m.im.length<=4) (h24:m.ru.length<=24):Qx m=(nL m.nm [] m.im && (!m.wet || dQ 53 m.wa) && m.ru.all (fun r=>dQ 53 r.2) && nL ⟨#[]⟩ [] (m.ru.map (·.1))):=by unfold Qx;rw [hw.nm,aT h4,aT h24];simp
theorem RX {f:ByteArray × Ex->Bool} {K:List (ByteArray × Ex)} {k:Nat} {y:ByteArray × Ex} (h:K[k]?=some y):(K.take (k + 1)).all f=((K.take k).all f && f y):=by obtain ⟨h1,h2⟩:=aS.1 h;rw [List.take_succ_eq_append_getElem h1,List.all_append,h2];simp
theorem DF {f:ByteArray × Ex->Bool} {K:List (ByteArray × Ex)} {k:Nat} {y:ByteArray × Ex} (h:K[k]?=some y) (hf:f y=false):K.all f=false:=by rw [List.all_eq_false];exact ⟨y,aM h,by rw [hf];simp⟩
theorem A1n (m:Md) (D n:Nat) (io:Option Addr) (ic:Nat) (ko:Option Addr) (kc:Nat) (ro:Option Addr) (rc:Nat) (hw:Wel m) (h4:m.im.length<=4) (h24:m.ru.length<=24) (hic:m.im.length<=ic) (w:World) (hN:gI w io m.im) (hK:aV w 53 ko m.wa.kids) (hR:sN w D n ro m.ru) :
  Calls Tryz.prog 56 #[.agg #[.string m.nm,.slice io m.im.length ic,.bool m.wet,.int .i64 m.wa.op,.string m.wa.text,.int .u64 m.wa.s0,.int .u64 m.wa.s1,.int .u64 m.wa.s2,.int .u64 m.wa.s3,.slice ko m.wa.kids.length kc,.slice ro m.ru.length rc]] w fun e w'=>e=.returned (.bool (Qx m))/\Below w.heap.size w w':=by
 have HRQ:=aH (B8k hw h4 h24);have HWD:=aH (fun W=>Fy m.nm (by have:=Ot hw.nm;unfold maxLen;omega) true hw.nm W);have HAP:=aH (fun W (hW:gI W io m.im)=>Qq m.im io ic m.nm (by omega) hic (fun x hx=>by have:=Ot (hw.im x hx);omega) W hW);have HBO:=aH hw.bo;have HRWD:=aH hw.ru;have HWA:=aH hw.wa;have HDRY:=aH hw.dry;have H24:=aH h24;obtain ⟨RES,hRES⟩:∃ z,Qx m=z:=⟨_,rfl⟩;rw [hRES] at HRQ;rw [hRES];clear hRES;obtain ⟨nm,im,wet,wa,ru⟩:=m;simp only at HRQ HWD HAP HBO HRWD HWA HDRY H24 hN hK hR h4 h24 hic ⊢;obtain ⟨B,hB⟩:∃ B,w.heap.size=B:=⟨_,rfl⟩;have HBW:=aH hB;obtain ⟨ni,hni⟩:∃ z,im.length=z:=⟨_,rfl⟩;obtain ⟨nr,hnr⟩:∃ z,ru.length=z:=⟨_,rfl⟩;have HNR:=aH hnr;have HRU:=aH hR;have HN0:=aH hN;have HK0:=aH hK;have hni4:(ni:Int)<=4:=by omega
 have hnr24:(nr:Int)<=24:=by omega
 have hni4d:decide ((4:Int) < (ni:Int))=false:=aF (by omega);have hni4n:decide (4 < ni)=false:=aF (by omega);have hnr24d:decide ((24:Int) < (nr:Int))=false:=aF (by omega);have hnr24n:decide (24 < nr)=false:=aF (by omega);rw [hni] at HAP;obtain ⟨za,hza⟩:∃ z,nL nm [] im=z:=⟨_,rfl⟩;rw [hza] at HAP HRQ;clear hR hN hK h4 h24 hic hza hw
 cases wet with
 | true =>
  have HRT:=aH (fun W (hW:aV W 53 ko wa.kids)=>lH 53 (by omega) wa ko kc W ⟨HWA.o.2,HWA.o.1⟩ hW);obtain ⟨zr,hzr⟩:∃ z,dQ 53 wa=z:=⟨_,rfl⟩;rw [hzr] at HRT;have HQ1:=aH (show RES=(za && (zr && (ru.all (fun r=>dQ 53 r.2) && nL ⟨#[]⟩ [] (ru.map (·.1))))) from by rw [HRQ.o,hzr];simp [Bool.and_assoc]);clear hzr;rw [hni,hnr];clear hni hnr HRQ;have HB1:=aH (show Below w.heap.size w (w.alloc (.cells #[.string nm,.slice io ni ic,.bool true,.int .i64 wa.op,.string wa.text,.int .u64 wa.s0,.int .u64 wa.s1,.int .u64 wa.s2,.int .u64 wa.s3,.slice ko wa.kids.length kc,.slice ro nr rc] 35)) from bA _);have HM1:=aH (Own.fresh w 35 [.string nm,.slice io ni ic,.bool true,.int .i64 wa.op,.string wa.text,.int .u64 wa.s0,.int .u64 wa.s1,.int .u64 wa.s2,.int .u64 wa.s3,.slice ko wa.kids.length kc,.slice ro nr rc]);rw [hB] at HM1;go_enter Tryz.func56,Tryz.ntmps56;go_upto_region 1 with fail;generalize w.alloc (.cells #[.string nm,.slice io ni ic,.bool true,.int .i64 wa.op,.string wa.text,.int .u64 wa.s0,.int .u64 wa.s1,.int .u64 wa.s2,.int .u64 wa.s3,.slice ko wa.kids.length kc,.slice ro nr rc] 35)=w1 at *;try rw [hB]
  clear hB;obtain ⟨m0,m1,m2,m3,m4,m5,m6,m7,m8,m9,mA⟩:=HM1.o.elev;have ml:=HM1.o.lt;go_wp2_with fail;refine (HWD.o _).mono ?_;rintro e w2 ⟨rfl,rfl⟩;go_wp2_with fail;refine (HAP.o _ (HN0.o.below HB1.o)).mono ?_;rintro e w2 ⟨rfl,hb2⟩;have HB2:=aH (HB1.o.trans (hb2.mono HB1.o.size));have HM2:=aH (HM1.o.under hb2 HM1.o.lt);clear hb2 m0 m1 m2 m3 m4 m5 m6 m7 m8 m9 mA ml HB1 HM1;obtain ⟨m0,m1,m2,m3,m4,m5,m6,m7,m8,m9,mA⟩:=HM2.o.elev;have ml:=HM2.o.lt
  cases za with
  | false =>
   have HE:=aH (show RES=false from by rw [HQ1.o];rfl);go_wp2;go_ret;rw [HE.o];exact ⟨rfl,HB2.o⟩
  | true =>
   go_wp2_with fail;refine (HRT.o _ (aV.below HB2.o HK0.o)).mono ?_;rintro e w3 ⟨rfl,hb3⟩;have HB3:=aH (HB2.o.trans (hb3.mono HB2.o.size));have HM3:=aH (HM2.o.under hb3 HM2.o.lt);clear hb3 m0 m1 m2 m3 m4 m5 m6 m7 m8 m9 mA ml HB2 HM2;obtain ⟨m0,m1,m2,m3,m4,m5,m6,m7,m8,m9,mA⟩:=HM3.o.elev;have ml:=HM3.o.lt
   cases zr with
   | false =>
    have HE:=aH (show RES=false from by rw [HQ1.o];rfl);go_wp2;go_ret;rw [HE.o];exact ⟨rfl,HB3.o⟩
   | true =>
    have HQ:=aH (show RES=(ru.all (fun r=>dQ 53 r.2) && nL ⟨#[]⟩ [] (ru.map (·.1))) from by rw [HQ1.o];rfl);go_wp2_with fail
    go_loopw [3,4] (fun v3 v4 wr=>∃ (k:Nat) (no:Option Addr) (nc:Nat) (S:Nat->Prop),v3=.slice no k nc/\v4=.int .i64 (k:Int)/\(k:Int)<=nr/\aQ ((ru.take k).all (fun r=>dQ 53 r.2)=true)/\aQ (Below w.heap.size w wr)/\aQ (Own wr B 35 [.string nm,.slice io ni ic,.bool true,.int .i64 wa.op,.string wa.text,.int .u64 wa.s0,.int .u64 wa.s1,.int .u64 wa.s2,.int .u64 wa.s3,.slice ko wa.kids.length kc,.slice ro nr rc])/\aQ (Win S 9 1 wr (.slice no k nc) k (((ru.take k).map (·.1)).map Value.string))/\aQ (∀ b,S b->B < b)) (fun _ v4 _=>nr - (intOf v4).toNat)
    case atStart=>exact ⟨0,none,0,fun _=>False,rfl,rfl,by omega,aH rfl,HB3,HM3,aH (Win.nil _ _ _ _),aH (fun b h=>h.elim)⟩
    case round =>
     obtain ⟨k,no,nc,S,rfl,rfl,hk,HA,HB,HM,HW,HS⟩:=hrel;clear HB3 HM3;have ma:wr.cell? ⟨B,10,none⟩=some (.slice ro nr rc):=HM.o.cell 10;have ml:=HM.o.lt;by_cases hkr:(k:Int) < nr
     ·
      have hkr1:decide ((k:Int) < nr)=true:=aT hkr;have hkr2:decide (k < nr)=true:=aT (by omega);obtain ⟨r,hr⟩:∃ r,ru[k]?=some r:=⟨_,aG (by have:=HNR.o;omega)⟩;obtain ⟨rb,roff,yo,yc,hro,hrb,_,d0,d1,d2,d3,d4,d5,d6,d7,hky⟩:=HRU.o k r hr;have HR:=aH hr;have HFW:=aH (show Fw 53 r.2 from ⟨(HBO.o r (aM hr)).2,(HBO.o r (aM hr)).1⟩);have HKY:=aH (show aV w 53 yo r.2.kids from aV.fit HFW.o.1 hky.hask);have hw1:IntKind.i64.wrap ((k:Int) + 1)=(k:Int) + 1:=wI
      have HT:=aH (show (ru.take (k + 1)).map (·.1)=(ru.take k).map (·.1) ++ [r.1] from by
       obtain ⟨h1,h2⟩:=aS.1 hr
       rw [List.take_succ_eq_append_getElem h1,h2,List.map_append];rfl)
      obtain ⟨z,hz⟩:∃ z,dQ 53 r.2=z:=⟨_,rfl⟩;have HZ:=aH hz;obtain ⟨i0,hi0,hz0,hz1,hz2⟩:=cZ uZ;have HNEW:=aH (fun W=>bD W 9 [.string r.1]);have HNO:=aH (show ¬ S B from fun h=>by have:=HS.o B h;omega);have hk24:k<=24:=(by have:=H24.o;have:=HNR.o;omega);have e0:=aC d0 HB.o;have hrb2:rb < wr.heap.size:=aL hrb HB.o.size;subst hro;obtain ⟨NL,hNL⟩:∃ z,((ru.take k).map (·.1)).map Value.string=z:=⟨_,rfl⟩;have HNL:=aH hNL;rw [hNL] at HW;clear hNL;have HD:=aH (And.intro d1 (And.intro d2 (And.intro d3 (And.intro d4 (And.intro d5 (And.intro d6 d7))))));have HRBL:=aH hrb;clear hr d0 d1 d2 d3 d4 d5 d6 d7 hky hrb hz
      go_wp2_with (first
       | (at_builtin;refine aX _ rfl _ _ 22 rfl S 9 i0 _ 1 16 Tryz.underlying22 hi0 hz0 hz1 hz2 rfl (by decide) _ k NL rfl (HW.o.below (bA _)) ⟨wr.heap.size,0,none⟩ 1 1 [.string r.1] rfl rfl (HNEW.o wr) (by intro u hu;rw [List.mem_singleton.1 hu];rfl) (by unfold maxLen;omega) (by omega) ?_))
      intro v' w5 hw5 hb5;have hblx:Below wr.heap.size wr (wr.alloc (.cells #[.string r.1] 9)):=bA _;have HB5:=aH ((HB.o.trans (hblx.mono HB.o.size)).trans (hb5.below (B:=w.heap.size) (by have:=HB.o.size;have:=hblx.size;omega) (fun j hs=>by have:=HS.o j hs;have:=HBW.o;omega)));have HM5:=aH ((HM.o.under hblx HM.o.lt).but hb5 HNO.o)
      have HW5:=aH (show Win (fun b=>S b\/wr.heap.size + 1<=b) 9 1 w5 v' (k + 1) (((ru.take (k + 1)).map (·.1)).map Value.string) from by
       rw [HT.o,List.map_append,HNL.o];refine hw5.mono (fun j _ h=>?_);rcases h with h | h
       · exact .inl h
       · exact .inr (by first | exact h | simpa using h))
      have HS5:=aH (fun b (h:S b\/wr.heap.size + 1<=b)=>show B < b from by
       rcases h with h | h
       · exact HS.o b h
       · omega)
      obtain ⟨no',nc',hv,-⟩:=HW5.o.form;subst hv;obtain ⟨d1,d2,d3,d4,d5,d6,d7⟩:=HD.o;have f1:=aC d1 HB5.o;have f2:=aC d2 HB5.o;have f3:=aC d3 HB5.o;have f4:=aC d4 HB5.o;have f5:=aC d5 HB5.o;have f6:=aC d6 HB5.o;have f7:=aC d7 HB5.o;have mb:w5.cell? ⟨B,10,none⟩=some (.slice (some ⟨rb,roff,none⟩) nr rc):=HM5.o.cell 10;have hrb5:rb < w5.heap.size:=aL HRBL.o HB5.o.size;have ml5:=HM5.o.lt;have HRY:=aH (lH 53 (by omega) r.2 yo yc w5 HFW.o (aV.below HB5.o HKY.o));rw [HZ.o] at HRY;clear hw5 hb5 hblx d1 d2 d3 d4 d5 d6 d7 e0 hrb2 ma ml HD;go_wp2_with fail;refine HRY.o.mono ?_;rintro e w6 ⟨rfl,hb6⟩;have HB6:=aH (HB5.o.trans (hb6.mono HB5.o.size));have HM6:=aH (HM5.o.under hb6 HM5.o.lt);have HW6:=aH (HW5.o.below hb6);clear hb6 f1 f2 f3 f4 f5 f6 f7 mb hrb5 ml5 HRY HB5 HM5 HW5
      cases z with
      | false =>
       have HE:=aH (show RES=false from by rw [HQ.o,DF HR.o HZ.o];rfl);go_wp2;go_ret;rw [HE.o];exact ⟨rfl,HB6.o⟩
      | true =>
       have HA6:=aH (show (ru.take (k + 1)).all (fun r=>dQ 53 r.2)=true from by rw [RX HR.o,HA.o,HZ.o];rfl);go_wp2
       go_roundw
       case rel=>exact ⟨k + 1,no',nc',_,rfl,by go_num,by omega,HA6,HB6,HM6,HW6,HS5⟩
       case measure=>simp [intOf];omega
     ·
      have hkr1:decide ((k:Int) < nr)=false:=aF hkr;have hkr2:decide (k < nr)=false:=aF (by omega);have HTK:=aH (show ru.take k=ru from List.take_of_length_le (by have:=HNR.o;omega))
      have HE:=aH (show RES=nL ⟨#[]⟩ [] ((ru.take k).map (·.1)) from by
       have q:=HA.o;rw [HTK.o] at q ⊢
       rw [HQ.o,q];rfl)
      have hlk:((ru.take k).map (·.1)).length=k:=(by rw [List.length_map,HTK.o];have:=HNR.o;omega);have hnc:k<=nc:=by obtain ⟨ao,cap,e1,h1,-⟩:=HW.o.form;injection e1 with e1 e2 e3;omega
      have HAX:=aH (Qq ((ru.take k).map (·.1)) no nc ⟨#[]⟩ (by have:=H24.o;have:=HNR.o;omega) (by omega) (fun x hx=>by
       obtain ⟨r,hr,rfl⟩:=List.mem_map.1 hx;have:=Ot (HRWD.o r (List.mem_of_mem_take hr))
       omega) wr (oM HW.o))
      rw [hlk] at HAX;generalize (ru.take k).map (·.1)=NM at *;clear hlk hnc;go_wp2_with fail;refine HAX.o.mono ?_;rintro e w6 ⟨rfl,hb6⟩;go_wp2;go_ret;rw [HE.o];exact ⟨rfl,HB.o.trans (hb6.mono HB.o.size)⟩
 | false =>
  obtain rfl:wa=ex0:=HDRY.o rfl;have HQ1:=aH (show RES=(za && (ru.all (fun r=>dQ 53 r.2) && nL ⟨#[]⟩ [] (ru.map (·.1)))) from by rw [HRQ.o];simp [Bool.and_assoc]);show Calls Tryz.prog 56 #[.agg #[.string nm,.slice io im.length ic,.bool false,.int .i64 0,.string ⟨#[]⟩,.int .u64 0,.int .u64 0,.int .u64 0,.int .u64 0,.slice ko 0 kc,.slice ro ru.length rc]] w _;rw [hni,hnr];clear hni hnr HRQ;have HB1:=aH (show Below w.heap.size w (w.alloc (.cells #[.string nm,.slice io ni ic,.bool false,.int .i64 0,.string ⟨#[]⟩,.int .u64 0,.int .u64 0,.int .u64 0,.int .u64 0,.slice ko 0 kc,.slice ro nr rc] 35)) from bA _);have HM1:=aH (Own.fresh w 35 [.string nm,.slice io ni ic,.bool false,.int .i64 0,.string ⟨#[]⟩,.int .u64 0,.int .u64 0,.int .u64 0,.int .u64 0,.slice ko 0 kc,.slice ro nr rc]);rw [hB] at HM1;go_enter Tryz.func56,Tryz.ntmps56;go_upto_region 1 with fail;generalize w.alloc (.cells #[.string nm,.slice io ni ic,.bool false,.int .i64 0,.string ⟨#[]⟩,.int .u64 0,.int .u64 0,.int .u64 0,.int .u64 0,.slice ko 0 kc,.slice ro nr rc] 35)=w1 at *;try rw [hB]
  clear hB;obtain ⟨m0,m1,m2,m3,m4,m5,m6,m7,m8,m9,mA⟩:=HM1.o.elev;have ml:=HM1.o.lt;go_wp2_with fail;refine (HWD.o _).mono ?_;rintro e w2 ⟨rfl,rfl⟩;go_wp2_with fail;refine (HAP.o _ (HN0.o.below HB1.o)).mono ?_;rintro e w2 ⟨rfl,hb2⟩;have HB2:=aH (HB1.o.trans (hb2.mono HB1.o.size));have HM2:=aH (HM1.o.under hb2 HM1.o.lt);clear hb2 m0 m1 m2 m3 m4 m5 m6 m7 m8 m9 mA ml HB1 HM1;obtain ⟨m0,m1,m2,m3,m4,m5,m6,m7,m8,m9,mA⟩:=HM2.o.elev;have ml:=HM2.o.lt
  cases za with
  | false =>
   have HE:=aH (show RES=false from by rw [HQ1.o];rfl);go_wp2;go_ret;rw [HE.o];exact ⟨rfl,HB2.o⟩
  | true =>
   have HQ:=aH (show RES=(ru.all (fun r=>dQ 53 r.2) && nL ⟨#[]⟩ [] (ru.map (·.1))) from by rw [HQ1.o];rfl);go_wp2_with fail;refine (A4Y ko kc _).mono ?_;rintro e w3 ⟨rfl,hb3⟩;have HB3:=aH (HB2.o.trans (hb3.mono HB2.o.size));have HM3:=aH (HM2.o.under hb3 HM2.o.lt);clear hb3 m0 m1 m2 m3 m4 m5 m6 m7 m8 m9 mA ml HB2 HM2;go_wp2_with fail
   go_loopw [3,4] (fun v3 v4 wr=>∃ (k:Nat) (no:Option Addr) (nc:Nat) (S:Nat->Prop),v3=.slice no k nc/\v4=.int .i64 (k:Int)/\(k:Int)<=nr/\aQ ((ru.take k).all (fun r=>dQ 53 r.2)=true)/\aQ (Below w.heap.size w wr)/\aQ (Own wr B 35 [.string nm,.slice io ni ic,.bool false,.int .i64 0,.string ⟨#[]⟩,.int .u64 0,.int .u64 0,.int .u64 0,.int .u64 0,.slice ko 0 kc,.slice ro nr rc])/\aQ (Win S 9 1 wr (.slice no k nc) k (((ru.take k).map (·.1)).map Value.string))/\aQ (∀ b,S b->B < b)) (fun _ v4 _=>nr - (intOf v4).toNat)
   case atStart=>exact ⟨0,none,0,fun _=>False,rfl,rfl,by omega,aH rfl,HB3,HM3,aH (Win.nil _ _ _ _),aH (fun b h=>h.elim)⟩
   case round =>
    obtain ⟨k,no,nc,S,rfl,rfl,hk,HA,HB,HM,HW,HS⟩:=hrel;clear HB3 HM3;have ma:wr.cell? ⟨B,10,none⟩=some (.slice ro nr rc):=HM.o.cell 10;have ml:=HM.o.lt;by_cases hkr:(k:Int) < nr
    ·
     have hkr1:decide ((k:Int) < nr)=true:=aT hkr;have hkr2:decide (k < nr)=true:=aT (by omega);obtain ⟨r,hr⟩:∃ r,ru[k]?=some r:=⟨_,aG (by have:=HNR.o;omega)⟩;obtain ⟨rb,roff,yo,yc,hro,hrb,_,d0,d1,d2,d3,d4,d5,d6,d7,hky⟩:=HRU.o k r hr;have HR:=aH hr;have HFW:=aH (show Fw 53 r.2 from ⟨(HBO.o r (aM hr)).2,(HBO.o r (aM hr)).1⟩);have HKY:=aH (show aV w 53 yo r.2.kids from aV.fit HFW.o.1 hky.hask);have hw1:IntKind.i64.wrap ((k:Int) + 1)=(k:Int) + 1:=wI
     have HT:=aH (show (ru.take (k + 1)).map (·.1)=(ru.take k).map (·.1) ++ [r.1] from by
      obtain ⟨h1,h2⟩:=aS.1 hr
      rw [List.take_succ_eq_append_getElem h1,h2,List.map_append];rfl)
     obtain ⟨z,hz⟩:∃ z,dQ 53 r.2=z:=⟨_,rfl⟩;have HZ:=aH hz;obtain ⟨i0,hi0,hz0,hz1,hz2⟩:=cZ uZ;have HNEW:=aH (fun W=>bD W 9 [.string r.1]);have HNO:=aH (show ¬ S B from fun h=>by have:=HS.o B h;omega);have hk24:k<=24:=(by have:=H24.o;have:=HNR.o;omega);have e0:=aC d0 HB.o;have hrb2:rb < wr.heap.size:=aL hrb HB.o.size;subst hro;obtain ⟨NL,hNL⟩:∃ z,((ru.take k).map (·.1)).map Value.string=z:=⟨_,rfl⟩;have HNL:=aH hNL;rw [hNL] at HW;clear hNL;have HD:=aH (And.intro d1 (And.intro d2 (And.intro d3 (And.intro d4 (And.intro d5 (And.intro d6 d7))))));have HRBL:=aH hrb;clear hr d0 d1 d2 d3 d4 d5 d6 d7 hky hrb hz
     go_wp2_with (first
      | (at_builtin;refine aX _ rfl _ _ 22 rfl S 9 i0 _ 1 16 Tryz.underlying22 hi0 hz0 hz1 hz2 rfl (by decide) _ k NL rfl (HW.o.below (bA _)) ⟨wr.heap.size,0,none⟩ 1 1 [.string r.1] rfl rfl (HNEW.o wr) (by intro u hu;rw [List.mem_singleton.1 hu];rfl) (by unfold maxLen;omega) (by omega) ?_))
     intro v' w5 hw5 hb5;have hblx:Below wr.heap.size wr (wr.alloc (.cells #[.string r.1] 9)):=bA _;have HB5:=aH ((HB.o.trans (hblx.mono HB.o.size)).trans (hb5.below (B:=w.heap.size) (by have:=HB.o.size;have:=hblx.size;omega) (fun j hs=>by have:=HS.o j hs;have:=HBW.o;omega)));have HM5:=aH ((HM.o.under hblx HM.o.lt).but hb5 HNO.o)
     have HW5:=aH (show Win (fun b=>S b\/wr.heap.size + 1<=b) 9 1 w5 v' (k + 1) (((ru.take (k + 1)).map (·.1)).map Value.string) from by
      rw [HT.o,List.map_append,HNL.o];refine hw5.mono (fun j _ h=>?_);rcases h with h | h
      · exact .inl h
      · exact .inr (by first | exact h | simpa using h))
     have HS5:=aH (fun b (h:S b\/wr.heap.size + 1<=b)=>show B < b from by
      rcases h with h | h
      · exact HS.o b h
      · omega)
     obtain ⟨no',nc',hv,-⟩:=HW5.o.form;subst hv;obtain ⟨d1,d2,d3,d4,d5,d6,d7⟩:=HD.o;have f1:=aC d1 HB5.o;have f2:=aC d2 HB5.o;have f3:=aC d3 HB5.o;have f4:=aC d4 HB5.o;have f5:=aC d5 HB5.o;have f6:=aC d6 HB5.o;have f7:=aC d7 HB5.o;have mb:w5.cell? ⟨B,10,none⟩=some (.slice (some ⟨rb,roff,none⟩) nr rc):=HM5.o.cell 10;have hrb5:rb < w5.heap.size:=aL HRBL.o HB5.o.size;have ml5:=HM5.o.lt;have HRY:=aH (lH 53 (by omega) r.2 yo yc w5 HFW.o (aV.below HB5.o HKY.o));rw [HZ.o] at HRY;clear hw5 hb5 hblx d1 d2 d3 d4 d5 d6 d7 e0 hrb2 ma ml HD;go_wp2_with fail;refine HRY.o.mono ?_;rintro e w6 ⟨rfl,hb6⟩;have HB6:=aH (HB5.o.trans (hb6.mono HB5.o.size));have HM6:=aH (HM5.o.under hb6 HM5.o.lt);have HW6:=aH (HW5.o.below hb6);clear hb6 f1 f2 f3 f4 f5 f6 f7 mb hrb5 ml5 HRY HB5 HM5 HW5
     cases z with
     | false =>
      have HE:=aH (show RES=false from by rw [HQ.o,DF HR.o HZ.o];rfl);go_wp2;go_ret;rw [HE.o];exact ⟨rfl,HB6.o⟩
     | true =>
      have HA6:=aH (show (ru.take (k + 1)).all (fun r=>dQ 53 r.2)=true from by rw [RX HR.o,HA.o,HZ.o];rfl);go_wp2
      go_roundw
      case rel=>exact ⟨k + 1,no',nc',_,rfl,by go_num,by omega,HA6,HB6,HM6,HW6,HS5⟩
      case measure=>simp [intOf];omega
    ·
     have hkr1:decide ((k:Int) < nr)=false:=aF hkr;have hkr2:decide (k < nr)=false:=aF (by omega);have HTK:=aH (show ru.take k=ru from List.take_of_length_le (by have:=HNR.o;omega))
     have HE:=aH (show RES=nL ⟨#[]⟩ [] ((ru.take k).map (·.1)) from by
      have q:=HA.o;rw [HTK.o] at q ⊢
      rw [HQ.o,q];rfl)
     have hlk:((ru.take k).map (·.1)).length=k:=(by rw [List.length_map,HTK.o];have:=HNR.o;omega);have hnc:k<=nc:=by obtain ⟨ao,cap,e1,h1,-⟩:=HW.o.form;injection e1 with e1 e2 e3;omega
     have HAX:=aH (Qq ((ru.take k).map (·.1)) no nc ⟨#[]⟩ (by have:=H24.o;have:=HNR.o;omega) (by omega) (fun x hx=>by
      obtain ⟨r,hr,rfl⟩:=List.mem_map.1 hx;have:=Ot (HRWD.o r (List.mem_of_mem_take hr))
      omega) wr (oM HW.o))
     rw [hlk] at HAX;generalize (ru.take k).map (·.1)=NM at *;clear hlk hnc;go_wp2_with fail;refine HAX.o.mono ?_;rintro e w6 ⟨rfl,hb6⟩;go_wp2;go_ret;rw [HE.o];exact ⟨rfl,HB.o.trans (hb6.mono HB.o.size)⟩
end Go.Proofs.YthkdnehgamefiaaGreat
