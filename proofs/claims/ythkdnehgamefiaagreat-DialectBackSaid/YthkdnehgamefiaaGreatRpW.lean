import Derived.Test.YthkdnehgamefiaaGreatRgR
namespace Go.Proofs.YthkdnehgamefiaaGreat
set_option linter.unusedVariables false
set_option maxHeartbeats 3200000
set_option maxRecDepth 100000
set_option maxRecDepth 1000000
open Go.RowKit Go.Sort
theorem pdeepw_any (M:Nat) (hM:M<=90001):∀ (n:Nat) (hn:n<=60) (x:Ex) (ko:Option Addr) (kc:Nat) (w:World),fit M n x=true->aV w n ko x.kids →
  Calls Tryz.prog 61 #[exv x ko kc] w fun e w'=>e=.returned (.int .i64 (bJ n x))/\Below w.heap.size w w'
 | 0,_,x,_,_,_,h,_=>by cases h
 | n + 1,hn,x,ko,kc,w,hf,hK=>by
  have IH:=aH (fun (y:Ex) (ao:Option Addr) (c:Nat) (W:World)=>pdeepw_any M hM n (by omega) y ao c W);have HK:=aH hK;have HF:=aH hf;have hl:=Db hf;obtain ⟨m,hm⟩:∃ m,x.kids.length=m:=⟨_,rfl⟩;have HM:=aH hm;have HB0:=aH (show Below w.heap.size w (w.alloc (.cells #[.int .i64 x.op,.string x.text,.int .u64 x.s0,.int .u64 x.s1,.int .u64 x.s2,.int .u64 x.s3,.slice ko m kc] 32)) from bA _);have HO:=aH (Own.fresh w 32 [.int .i64 x.op,.string x.text,.int .u64 x.s0,.int .u64 x.s1,.int .u64 x.s2,.int .u64 x.s3,.slice ko m kc]);unfold exv;rw [hm] at hl ⊢;clear hm hK hf;go_enter Tryz.func61,Tryz.ntmps61;go_wp2_with fail
  go_loopw [3,9] (fun b3 b9 wr=>∃ k:Nat,b9=.int .i64 (k:Int)/\(k:Int)<=m/\b3=.int .i64 ((x.kids.take k).foldl (fun m y=>max m (bJ n y)) 0)/\aQ (Below w.heap.size w wr))
   (fun _ b9 _=>m - (intOf b9).toNat)
  case atStart=>exact ⟨0,rfl,by omega,rfl,HB0⟩
  case round =>
   obtain ⟨k,rfl,hk2,rfl,HB⟩:=hrel;clear HB0 HO;by_cases h2:(k:Int) < m
   ·
    obtain ⟨y,hy⟩:∃ y,x.kids[k]?=some y:=⟨_,aG (by have:=HM.o;omega)⟩;obtain ⟨g,off,kk,kd,rfl,hg,c0,c1,c2,c3,c4,c5,c6,hr⟩:=HK.o k y hy;have HR:=aH hr;have HFY:=aH (rQ HF.o hy);have HT:=aH (show (x.kids.take (k + 1)).foldl (fun m y=>max m (bJ n y)) 0=max ((x.kids.take k).foldl (fun m y=>max m (bJ n y)) 0) (bJ n y) from zY (fun m y=>max m (bJ n y)) 0 x.kids hy);have hb:=aH (qM n x k);have hs:=hb.o;have hs3:=mH n y;have HB9:=aH (And.intro hs hs3);clear hr hy hs hs3 hb ;generalize hq:((x.kids.take k).foldl (fun m y=>max m (bJ n y)) 0)=q at *;have HQ:=aH hq;clear hq;have e0:=aC c0 HB.o;have e1:=aC c1 HB.o;have e2:=aC c2 HB.o;have e3:=aC c3 HB.o;have e4:=aC c4 HB.o;have e5:=aC c5 HB.o;have e6:=aC c6 HB.o;have hgr:g < wr.heap.size:=aL hg HB.o.size;clear c0 c1 c2 c3 c4 c5 c6 hg;obtain ⟨z,hz⟩:∃ z,bJ n y=z:=⟨_,rfl⟩;have HZ:=aH hz;have hbnd:=HB9.o;rw [hz] at hbnd;rw [hz] at HT;clear hz HB9;go_wp2_with fail;refine (IH.o y kk kd _ HFY.o (aV.below (HB.o.alloc HB.o.size _) HR.o)).mono ?_;rintro e w1 ⟨rfl,hb1⟩;rw [HZ.o];have HB1:=aH (aD (HB.o.alloc HB.o.size _) hb1);clear hb1 e0 e1 e2 e3 e4 e5 e6;obtain ⟨hq0,hq1,hz0,hz1⟩:0<=q/\q<=1000/\0<=z/\z<=1000:=(by omega);clear hbnd;have HT2:=aH (HT.o);clear HT;go_wp2;all_goals go_roundw
    all_goals first
     | (case rel=>exact ⟨k + 1,by go_num,by omega,by rw [HT2.o] <;> (first | rfl | (congr 1;omega)),HB1⟩)
     | skip
    all_goals (simp [intOf];omega)
   · obtain rfl:k=m:=(by omega);have HE:=aH (show bJ (n + 1) x=(x.kids.take k).foldl (fun m y=>max m (bJ n y)) 0 + 1 from by rw [<- HM.o,Eo];rfl);have hb:=qM n x k;generalize hq:((x.kids.take k).foldl (fun m y=>max m (bJ n y)) 0)=q at *;clear hq;have hqb:0<=q/\q<=1000:=(by omega);clear hb;go_wp2;go_ret;exact ⟨eF HE.o.symm,HB.o⟩
theorem ptextw_any (o a b c d:Int) (t:ByteArray) (ko:Option Addr) (m kc:Nat) (w:World) (hs:(t.size:Int)<=100000) (hm:Mx w) :
  Calls Tryz.prog 91 #[.agg #[.int .i64 o,.string t,.int .u64 a,.int .u64 b,.int .u64 c,.int .u64 d,.slice ko m kc]] w fun e w'=>e=.returned (.bool (dZ o t))/\Below w.heap.size w w':=by
 have HX:=aH (hm.below (below_boxr w (.cells #[.int .i64 o,.string t,.int .u64 a,.int .u64 b,.int .u64 c,.int .u64 d,.slice ko m kc] 32)));have HB:=aH (below_boxr w (.cells #[.int .i64 o,.string t,.int .u64 a,.int .u64 b,.int .u64 c,.int .u64 d,.slice ko m kc] 32));have hs1:t.size<=1000000:=by omega
 have hs2:t.size<=maxLen:=by unfold maxLen;omega
 have S1:=aH hs1;have S2:=aH hs2;have HT:=aH (show dZ o t=if o=1 then !t.toList.isEmpty && decide ((t.size:Int)<=40) else if o=11 then splitB t else if o=12 then bN t else t.toList.isEmpty from rfl);clear hm hs1 hs2;by_cases h1:o=1
 ·
  subst h1;obtain ⟨b0,hb0⟩:∃ b0,t.toList.isEmpty=b0:=⟨_,rfl⟩;have HT2:=aH (show dZ 1 t=(!b0 && decide ((t.size:Int)<=40)) by rw [HT.o,if_pos rfl,hb0])
  cases b0
  all_goals
   go_enter Tryz.func91,Tryz.ntmps91;go_wp2;go_ret;exact ⟨aJ (by rw [HT2.o];rfl),HB.o⟩
 ·
  have e1:(o == 1)=false:=aN.2 h1;by_cases h2:o=11
  · subst h2;have HT2:=aH (show dZ 11 t=splitB t by rw [HT.o,if_neg (by decide),if_pos rfl]);clear h1 e1;go_enter Tryz.func91,Tryz.ntmps91;go_wp2_with fail;refine (Gc t S1.o _ HX.o).mono ?_;rintro e w1 ⟨rfl,hb⟩;go_wp2;go_ret;exact ⟨aJ HT2.o.symm,HB.o.trans (hb.mono HB.o.size)⟩
  ·
   have e2:(o == 11)=false:=aN.2 h2;by_cases h3:o=12
   · subst h3;have HT2:=aH (show dZ 12 t=bN t by rw [HT.o,if_neg (by decide),if_neg (by decide),if_pos rfl]);clear h1 e1 h2 e2;go_enter Tryz.func91,Tryz.ntmps91;go_wp2_with fail;refine (tQ t S2.o _).mono ?_;rintro e w1 ⟨rfl,rfl⟩;go_wp2;go_ret;exact ⟨aJ HT2.o.symm,HB.o⟩
   · have e3:(o == 12)=false:=aN.2 h3;have HT2:=aH (show dZ o t=t.toList.isEmpty by rw [HT.o,if_neg h1,if_neg h2,if_neg h3]);go_enter Tryz.func91,Tryz.ntmps91;go_wp2;go_ret;exact ⟨aJ HT2.o.symm,HB.o⟩
theorem pkidsw_any (o a b c d:Int) (t:ByteArray) (ko:Option Addr) (m kc:Nat) (w:World) :
  Calls Tryz.prog 92 #[.agg #[.int .i64 o,.string t,.int .u64 a,.int .u64 b,.int .u64 c,.int .u64 d,.slice ko m kc]] w fun e w'=>e=.returned (.bool (dJ o m))/\Below w.heap.size w w':=by
 have HB:=aH (below_boxr w (.cells #[.int .i64 o,.string t,.int .u64 a,.int .u64 b,.int .u64 c,.int .u64 d,.slice ko m kc] 32));have E0:=aH (show ((m:Int) == 0)=(m == 0) by rw [Bool.eq_iff_iff,beq_iff_eq,beq_iff_eq];omega);have E1:=aH (show ((m:Int) == 1)=(m == 1) by rw [Bool.eq_iff_iff,beq_iff_eq,beq_iff_eq];omega);have E2:=aH (show decide (2<=(m:Int))=decide (2<=m) by rw [decide_eq_decide];omega);rcases qR o with h | ⟨h1,h2,h3,h4,h5,h6,h7,h8,h9,h10,h11,h12,h13⟩
 ·
  rcases h with rfl | rfl | rfl | rfl | rfl | rfl | rfl | rfl | rfl | rfl | rfl | rfl | rfl
  all_goals
   go_enter Tryz.func92,Tryz.ntmps92;go_wp2;go_ret;refine ⟨aJ ?_,HB.o⟩
   first
    | exact E0.o
    | exact E1.o
    | exact E2.o
 ·
  have HF:=aH (show dJ o m=false by
   simp only [aN] at h1 h2 h3 h4 h5 h6 h7 h8 h9 h10 h11 h12 h13
   unfold dJ;rw [if_neg (by omega),if_neg (by omega),if_neg (by omega)])
  go_enter Tryz.func92,Tryz.ntmps92;go_wp2;go_ret;exact ⟨aJ HF.o.symm,HB.o⟩
theorem prallw_any:∀ (n:Nat) (x:Ex) (ko:Option Addr) (kc:Nat) (w:World),Fw n x->aV w n ko x.kids->Mx w →
  Calls Tryz.prog 62 #[exv x ko kc] w fun e w'=>e=.returned (.bool (gQ n x))/\Below w.heap.size w w'
 | 0,x,_,_,_,h,_,_=>h.no.elim
 | n + 1,.mk o t a b c d K,ko,kc,w,hf,hK,hm=>by
  have IH:=aH (fun (y:Ex) (ao:Option Addr) (c:Nat) (W:World)=>prallw_any n y ao c W);have HS:=aH (jN n (.mk o t a b c d K));have hl:=hf.len;have HK:=aH hK;have HF:=aH hf;unfold exv;simp only [Ex.kids,Ex.op,Ex.text,Ex.s0,Ex.s1,Ex.s2,Ex.s3] at hl HK HS ⊢;clear hK hf;obtain ⟨m,hlm⟩:∃ m,K.length=m:=⟨_,rfl⟩;have HM:=aH hlm;rw [hlm] at hl ⊢;clear hlm;obtain ⟨hl1,hl2⟩:=hl;have HO:=aH (show uB (.mk o t a b c d K)=(dZ o t && dJ o m && !((o == 2) == zB a b c d)) by unfold uB ownB;simp only [Ex.kids,Ex.op,Ex.text,Ex.s0,Ex.s1,Ex.s2,Ex.s3];rw [HM.o]);have HB0:=aH (below_boxr w (.cells #[.int .i64 o,.string t,.int .u64 a,.int .u64 b,.int .u64 c,.int .u64 d,.slice ko m kc] 32));have HMX:=aH hm;have HXB:=aH (hm.below HB0.o);have HP:=aH (Own.fresh w 32 [.int .i64 o,.string t,.int .u64 a,.int .u64 b,.int .u64 c,.int .u64 d,.slice ko m kc]);clear hm;obtain ⟨b1,hb1⟩:∃ b1,dZ o t=b1:=⟨_,rfl⟩;obtain ⟨b2,hb2⟩:∃ b2,dJ o m=b2:=⟨_,rfl⟩;obtain ⟨b3,hb3⟩:∃ b3,(o == 2)=b3:=⟨_,rfl⟩;obtain ⟨b4,hb4⟩:∃ b4,zB a b c d=b4:=⟨_,rfl⟩;have TX:=aH (fun (W:World) (dq:Nat) (os:Array Obj) (hW:Mx W)=>show Calls Tryz.prog 91 #[.agg #[.int .i64 o,.string t,.int .u64 a,.int .u64 b,.int .u64 c,.int .u64 d,.slice ko m kc]] (grow (redrawn W dq) os) fun e w'=>e=.returned (.bool b1)/\Below (grow (redrawn W dq) os).heap.size (grow (redrawn W dq) os) w' from by have h:=ptextw_any o a b c d t ko m kc (grow (redrawn W dq) os) (by omega) (hW.below (below_regrown _ _ _));rw [hb1] at h;exact h);have KX:=aH (fun (W:World) (dq:Nat) (os:Array Obj)=>show Calls Tryz.prog 92 #[.agg #[.int .i64 o,.string t,.int .u64 a,.int .u64 b,.int .u64 c,.int .u64 d,.slice ko m kc]] (grow (redrawn W dq) os) fun e w'=>e=.returned (.bool b2)/\Below (grow (redrawn W dq) os).heap.size (grow (redrawn W dq) os) w' from by have h:=pkidsw_any o a b c d t ko m kc (grow (redrawn W dq) os);rw [hb2] at h;exact h);rw [hb1,hb2,hb3,hb4] at HO;clear hb1 hb2;have hout:∀ r,(b1 && b2 && !b3 == b4)=r->aQ (r=false->gQ (n + 1) (.mk o t a b c d K)=false):=fun r hr=>aH (fun h=>by rw [HS.o,HO.o,hr,h];rfl);obtain ⟨p0,p1,p2,p3,p4,p5,p6⟩:=HP.o.seven;have hbox:=HP.o.lt;have q0:=cell_regrown p0;have q1:=cell_regrown p1;have q2:=cell_regrown p2;have q3:=cell_regrown p3;have q4:=cell_regrown p4;have q5:=cell_regrown p5;have q6:=cell_regrown p6;go_enter Tryz.func62,Tryz.ntmps62;go_wp2_with fail;generalize hW:w.alloc (.cells #[.int .i64 o,.string t,.int .u64 a,.int .u64 b,.int .u64 c,.int .u64 d,.slice ko m kc] 32)=W1 at *;have HW:=aH hW;have TX1:=aH (fun (dq:Nat) (os:Array Obj)=>TX.o W1 dq os HXB.o);have KX1:=aH (fun (dq:Nat) (os:Array Obj)=>KX.o W1 dq os);clear hW TX KX
  cases b1
  ·
   have HN:=aH ((hout _ rfl).o rfl);clear hout;refine wp_region_quiet_below (by kernel_rfl) (by kernel_rfl) ?_
   repeat (go_big_quiet_step (first
    | (go_at_call 91;with_reducible exact Calls.regrown_of (TX1.o _ _))
    | (go_at_call 92;with_reducible exact Calls.regrown_of (KX1.o _ _))))
   refine wpQuiet_nil ?_;intro _ hw';obtain ⟨⟨dq,osq⟩,hw''⟩:=hw';subst hw'';go_wp2;go_ret;exact ⟨aJ HN.o.symm,HB0.o.trans ((below_regrown _ _ _).mono HB0.o.size)⟩
  ·
   cases b2
   ·
    have HN:=aH ((hout _ rfl).o rfl);clear hout;refine wp_region_quiet_below (by kernel_rfl) (by kernel_rfl) ?_
    repeat (go_big_quiet_step (first
     | (go_at_call 91;with_reducible exact Calls.regrown_of (TX1.o _ _))
     | (go_at_call 92;with_reducible exact Calls.regrown_of (KX1.o _ _))))
    refine wpQuiet_nil ?_;intro _ hw';obtain ⟨⟨dq,osq⟩,hw''⟩:=hw';subst hw'';go_wp2;go_ret;exact ⟨aJ HN.o.symm,HB0.o.trans ((below_regrown _ _ _).mono HB0.o.size)⟩
   ·
    by_cases e34:b3=b4
    ·
     subst e34;have HN:=aH ((hout false (by cases b3 <;> rfl)).o rfl);clear hout
     cases b3
     all_goals
      refine wp_region_quiet_below (by kernel_rfl) (by kernel_rfl) ?_
      repeat (go_big_quiet_step (first
       | (go_at_call 91;with_reducible exact Calls.regrown_of (TX1.o _ _))
       | (go_at_call 92;with_reducible exact Calls.regrown_of (KX1.o _ _))))
      refine wpQuiet_nil ?_;intro _ hw';obtain ⟨⟨dq,osq⟩,hw''⟩:=hw';subst hw'';go_wp2;go_ret;exact ⟨aJ HN.o.symm,HB0.o.trans ((below_regrown _ _ _).mono HB0.o.size)⟩
    ·
     have HY:aQ (uB (.mk o t a b c d K)=true):=aH (by rw [HO.o];revert e34;cases b3 <;> cases b4 <;> simp);clear hout;have hw1:Below w.heap.size w W1:=HB0.o
     cases b3 <;> cases b4
     all_goals first
      | (exfalso;exact e34 rfl)
      | skip
     all_goals
      clear e34;refine wp_region_quiet_below (by kernel_rfl) (by kernel_rfl) ?_
      repeat (go_big_quiet_step (first
       | (go_at_call 91;with_reducible exact Calls.regrown_of (TX1.o _ _))
       | (go_at_call 92;with_reducible exact Calls.regrown_of (KX1.o _ _))))
      refine wpQuiet_nil ?_;intro _ hw';obtain ⟨⟨dq,osq⟩,hw''⟩:=hw';subst hw'';clear TX1 KX1;generalize hW2:grow (redrawn W1 dq) osq=W2 at *;have HB2:=aH (show Below w.heap.size w W2 from by rw [<- hW2];exact HB0.o.trans ((below_regrown _ _ _).mono HB0.o.size));have r6:W2.cell? ⟨w.heap.size,6,none⟩=some (.slice ko m kc):=(by rw [<- hW2];exact q6 _ _);have hs2:w.heap.size < W2.heap.size:=(by have h1:=hbox;have h2:=(below_regrown W1 dq osq).size;rw [hW2] at h2;omega);clear hW2 q0 q1 q2 q3 q4 q5 q6 p0 p1 p2 p3 p4 p5 p6 hb3 hb4 hbox hw1;go_wp2_with fail
      go_loopw [26] (fun b9 wr=>∃ k:Nat,b9=.int .i64 (k:Int)/\(k:Int)<=m/\aQ ((K.take k).all (gQ n)=true)/\aQ (Below w.heap.size w wr))
       (fun b9 _=>m - (intOf b9).toNat)
      case atStart=>exact ⟨0,rfl,by omega,aH rfl,HB2⟩
      case round =>
       obtain ⟨k,rfl,hk2,HA,HB⟩:=hrel;clear HB2;by_cases h2:(k:Int) < m
       ·
        obtain ⟨y,hy⟩:∃ y,K[k]?=some y:=⟨_,aG (by have:=HM.o;omega)⟩;obtain ⟨g,off,kk,kd,rfl,hg,c0,c1,c2,c3,c4,c5,c6,hr⟩:=HK.o k y hy;have HR:=aH hr;have HFY:=aH (HF.o.kid hy);have HY1:=aH hy;obtain ⟨z,hz⟩:∃ z,gQ n y=z:=⟨_,rfl⟩;have HZ:=aH hz;have e0:=aC c0 HB.o;have e1:=aC c1 HB.o;have e2:=aC c2 HB.o;have e3:=aC c3 HB.o;have e4:=aC c4 HB.o;have e5:=aC c5 HB.o;have e6:=aC c6 HB.o;have hgr:g < wr.heap.size:=aL hg HB.o.size;clear hr hy hz c0 c1 c2 c3 c4 c5 c6 hg;go_wp2_with fail;refine (IH.o y kk kd _ HFY.o (aV.below (HB.o.alloc HB.o.size _) HR.o) (HMX.o.below (HB.o.alloc HB.o.size _))).mono ?_;rintro e w1 ⟨rfl,hb1⟩;rw [HZ.o];have HB1:=aH (aD (HB.o.alloc HB.o.size _) hb1);clear hb1 e0 e1 e2 e3 e4 e5 e6
        cases z
        · go_wp2;go_ret;exact ⟨aJ (by rw [HS.o,wU HY1.o HZ.o];simp),HB1.o⟩
        ·
         have HA1:=aH (show (K.take (k + 1)).all (gQ n)=true by rw [Dx HY1.o,HA.o,HZ.o];rfl);go_wp2
         go_roundw
         case rel=>exact ⟨k + 1,by go_num,by omega,HA1,HB1⟩
         case measure=>simp [intOf];omega
       ·
        obtain rfl:k=m:=by omega
        have HE:=aH (show gQ (n + 1) (.mk o t a b c d K)=true by
         have h:=HA.o;rw [<- HM.o,List.take_length] at h
         rw [HS.o,HY.o,h];rfl)
        go_wp2;go_ret;exact ⟨aJ HE.o.symm,HB.o⟩
theorem prightw_any (n:Nat) (hn:n<=60) (x:Ex) (ko:Option Addr) (kc:Nat) (w:World) (hf:Fw n x) (hK:aV w n ko x.kids) (hm:Mx w) :
  Calls Tryz.prog 32 #[exv x ko kc] w fun e w'=>e=.returned (.bool (dQ n x))/\Below w.heap.size w w':=by
 obtain ⟨m,hlm⟩:∃ m,x.kids.length=m:=⟨_,rfl⟩;obtain ⟨o,ho⟩:∃ o,x.op=o:=⟨_,rfl⟩;have HD:=aH (fun W hW=>pdeepw_any 90001 (by omega) n hn x ko kc W hf.1 hW);have HA:=aH (fun W hW hX=>prallw_any n x ko kc W hf hW hX);have HK:=aH hK;have hd:=mH n x;have HR:=aH (show dQ n x=(decide (bJ n x<=12) && gQ n x) from rfl);clear hK hlm ho;have HB0:=aH (fun A=>below_boxr w A);obtain ⟨q,hq⟩:∃ q,bJ n x=q:=⟨_,rfl⟩;rw [hq] at hd HR;have HQ:=aH hq;clear hq hf;unfold exv;go_enter Tryz.func32,Tryz.ntmps32;go_wp2_with fail;refine (HD.o _ (aV.below (HB0.o _) HK.o)).mono ?_;rintro e w1 ⟨rfl,hb1⟩;rw [HQ.o];have HO:=aH ((Own.fresh w 32 [.int .i64 x.op,.string x.text,.int .u64 x.s0,.int .u64 x.s1,.int .u64 x.s2,.int .u64 x.s3,.slice ko x.kids.length kc]).under hb1 (Own.fresh w _ _).lt);have HB1:=aH (aD (HB0.o _) hb1);clear hb1;obtain ⟨p0,p1,p2,p3,p4,p5,p6⟩:=HO.o.seven;by_cases h12:q<=12
 · go_wp2_with fail;refine (HA.o _ (aV.below HB1.o HK.o) (hm.below HB1.o)).mono ?_;rintro e w2 ⟨rfl,hb2⟩;go_wp2;go_ret;exact ⟨aJ (by rw [HR.o,aT h12];rfl),aD HB1.o hb2⟩
 · go_wp2;go_ret;exact ⟨aJ (by rw [HR.o,aF (show ¬ q<=12 by omega)];rfl),HB1.o⟩
end Go.Proofs.YthkdnehgamefiaaGreat
