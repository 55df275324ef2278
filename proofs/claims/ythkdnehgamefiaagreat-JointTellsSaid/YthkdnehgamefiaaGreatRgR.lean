import Derived.Test.YthkdnehgamefiaaGreatHj
namespace Go.Proofs.YthkdnehgamefiaaGreat
set_option linter.unusedVariables false
set_option maxHeartbeats 12800000
set_option maxRecDepth 100000
open Go.RowKit Go.Sort
def dZ (o:Int) (t:ByteArray):Bool:=if o=1 then !t.toList.isEmpty && decide ((t.size:Int)<=40) else if o=11 then splitB t else if o=12 then bN t else t.toList.isEmpty
def dJ (o:Int) (m:Nat):Bool:=if o=1\/o=2\/o=3\/o=11 then m == 0 else if o=4\/o=5 then decide (2<=m) else if o=6\/o=7\/o=8\/o=9\/o=10\/o=12\/o=13 then m == 1 else false
def zB (a b c d:Int):Bool:=a == 0 && b == 0 && c == 0 && d == 0
def ownB (o:Int) (t:ByteArray) (a b c d:Int) (m:Nat):Bool:=dZ o t && dJ o m && !((o == 2) == zB a b c d)
def uB (x:Ex):Bool:=ownB x.op x.text x.s0 x.s1 x.s2 x.s3 x.kids.length
def gQ:Nat->Ex->Bool
 | 0,_=>false
 | n + 1,x=>uB x && x.kids.all (gQ n)
theorem jN (n:Nat) (x:Ex):gQ (n + 1) x=(uB x && x.kids.all (gQ n)):=rfl
def dQ (n:Nat) (x:Ex):Bool:=decide (bJ n x<=12) && gQ n x
@[go_sem 2000] theorem C1N (a b c d:Int) (w:World) :
  (Op.equalIn 10000 29 (.agg #[.int .u64 a,.int .u64 b,.int .u64 c,.int .u64 d]) (.agg #[.int .u64 0,.int .u64 0,.int .u64 0,.int .u64 0])).run Tryz.prog w=.ok (zB a b c d) w:=eq4 a b c d 0 0 0 0 w
theorem dN (w:World) (A:Obj):Below w.heap.size w (w.alloc A):=bA _
theorem qR (o:Int):(o=1\/o=2\/o=3\/o=11\/o=4\/o=5\/o=6\/o=7\/o=8\/o=9\/o=10\/o=12\/o=13)\/((o == 1)=false/\(o == 2)=false/\(o == 3)=false/\(o == 11)=false/\(o == 4)=false/\(o == 5)=false/\(o == 6)=false/\(o == 7)=false/\(o == 8)=false/\(o == 9)=false/\(o == 10)=false/\(o == 12)=false/\(o == 13)=false):=by simp only [aN];omega
theorem Dx {f:Ex->Bool} {K:List Ex} {k:Nat} {y:Ex} (h:K[k]?=some y):(K.take (k + 1)).all f=((K.take k).all f && f y):=by have hk:=(aS.1 h).1;have e:K[k]=y:=(aS.1 h).2;rw [List.take_succ_eq_append_getElem hk,List.all_append,e];simp
theorem wU {f:Ex->Bool} {K:List Ex} {k:Nat} {y:Ex} (h:K[k]?=some y) (hf:f y=false):K.all f=false:=by rw [Bool.eq_false_iff];intro ha;have:=List.all_eq_true.1 ha y (aM h);rw [hf] at this;cases this
def Fw (n:Nat) (x:Ex):Prop:=fit 90001 n x=true/\TxA 100000 x
theorem Fw.no {x:Ex} (h:Fw 0 x):False:=by cases h.1
theorem Fw.len {n:Nat} {x:Ex} (h:Fw n x):x.kids.length<=90001/\x.text.size<=100000:=⟨Db h.1,h.2.text⟩
theorem Fw.kid {n:Nat} {x y:Ex} (h:Fw (n + 1) x) {k:Nat} (hy:x.kids[k]?=some y):Fw n y:=⟨rQ h.1 hy,h.2.kid (aM hy)⟩
theorem gY (t:ByteArray):t.toList.isEmpty=decide (t.size=0):=by rw [ByteArray.toList_eq,Bool.eq_iff_iff,List.isEmpty_iff_length_eq_zero,decide_eq_true_iff];simp
theorem Oh (t:ByteArray):dZ 1 t=(decide (1<=(t.size:Int)) && decide ((t.size:Int)<=40)):=by
 unfold dZ;rw [if_pos rfl,gY,show (!decide (t.size=0))=decide (1<=(t.size:Int)) by
  by_cases h:t.size=0
  · rw [aT h,aF (by omega)];rfl
  · rw [aF h,aT (by omega)];rfl]
theorem rG {o:Int} {t:ByteArray} (h:o ≠ 1/\o ≠ 11/\o ≠ 12):dZ o t=t.toList.isEmpty:=by unfold dZ;rw [if_neg h.1,if_neg h.2.1,if_neg h.2.2]
theorem Cn (t:ByteArray):dZ 11 t=splitB t:=by unfold dZ;rw [if_neg (by decide),if_pos rfl]
theorem Lc (t:ByteArray):dZ 12 t=bN t:=by unfold dZ;rw [if_neg (by decide),if_neg (by decide),if_pos rfl]
theorem Yu (o a b c d:Int) (t:ByteArray) (ko:Option Addr) (m kc:Nat) (w:World) (hs:(t.size:Int)<=100000) :
  Calls Tryz.prog 137 #[.agg #[.int .i64 o,.string t,.int .u64 a,.int .u64 b,.int .u64 c,.int .u64 d,.slice ko m kc]] w fun e w'=>e=.returned (.bool (ownB o t a b c d m))/\Below w.heap.size w w':=by
 have HB0:=aH (dN w (.cells #[.int .i64 o,.string t,.int .u64 a,.int .u64 b,.int .u64 c,.int .u64 d,.slice ko m kc] 32));have hs1:t.size<=1000000:=by omega
 have S1:=aH hs1;have S2:=aH (show t.size<=maxLen by unfold maxLen;omega);clear hs1;obtain ⟨z,hz⟩:∃ z,zB a b c d=z:=⟨_,rfl⟩;have HOB:=aH (show ownB o t a b c d m=(dZ o t && dJ o m && !((o == 2) == z)) by rw [<- hz];rfl);have HE:=aH (gY t);go_enter Tryz.func137,Tryz.ntmps137;go_wp2_with fail;refine (xK t S1.o _).mono ?_;rintro e w1 ⟨rfl,hb1⟩;have HP:=aH ((Own.fresh w 32 [.int .i64 o,.string t,.int .u64 a,.int .u64 b,.int .u64 c,.int .u64 d,.slice ko m kc]).under hb1 (Own.fresh w _ _).lt);have HB1:=aH (aD HB0.o hb1);clear hb1 HB0;obtain ⟨p0,p1,p2,p3,p4,p5,p6⟩:=HP.o.seven;go_wp2_with fail;go_quiet (fail);have HB2:=aH (below_drewN HB1.o nq);clear HB1;generalize hw2:w1.drewN nq=w2 at *;have HP2:aQ (Own w2 w.heap.size 32 [.int .i64 o,.string t,.int .u64 a,.int .u64 b,.int .u64 c,.int .u64 d,.slice ko m kc]):=by rw [<- hw2];exact aH (HP.o.on_drewN nq)
 clear hw2 HP hz p0 p1 p2 p3 p4 p5 p6;obtain ⟨p0,p1,-,-,-,-,p6⟩:=HP2.o.seven;obtain ⟨b0,hb0⟩:∃ b0,t.toList.isEmpty=b0:=⟨_,rfl⟩;have HPL:=aH (fun (o:Int) (h:o ≠ 1/\o ≠ 11/\o ≠ 12)=>show dZ o t=b0 by rw [<- hb0];exact rG h);have WA:=aH (fun W=>nU t S2.o W);have H11:=aH (Cn t);have H12:=aH (Lc t);have H1:=aH (Oh t);obtain ⟨bs,hbs⟩:∃ bs,splitB t=bs:=⟨_,rfl⟩;obtain ⟨bw,hbw⟩:∃ bw,bN t=bw:=⟨_,rfl⟩;rw [hbs] at H11 ⊢;rw [hbw] at H12 WA;clear hbs hbw HE;rcases qR o with h | ⟨h1,h2,h3,h4,h5,h6,h7,h8,h9,h10,h11,h12,h13⟩
 ·
  rcases h with rfl | rfl | rfl | rfl | rfl | rfl | rfl | rfl | rfl | rfl | rfl | rfl | rfl
  ·
   clear hb0;by_cases g1:1<=(t.size:Int) <;> by_cases g2:(t.size:Int)<=40 <;> cases z;all_goals try (exfalso;omega)
   all_goals
    go_wp2;go_ret;refine ⟨aJ ?_,HB2.o⟩;rw [HOB.o,H1.o,Bool.eq_iff_iff];simp [dJ];try omega
  ·
   cases b0 <;> cases z
   all_goals
    go_wp2;go_ret;refine ⟨aJ ?_,HB2.o⟩;rw [HOB.o,HPL.o _ (by decide),Bool.eq_iff_iff];simp [dJ];try omega
  ·
   cases b0 <;> cases z
   all_goals
    go_wp2;go_ret;refine ⟨aJ ?_,HB2.o⟩;rw [HOB.o,HPL.o _ (by decide),Bool.eq_iff_iff];simp [dJ];try omega
  ·
   clear hb0
   cases bs <;> cases z
   all_goals
    go_wp2;go_ret;refine ⟨aJ ?_,HB2.o⟩;rw [HOB.o,H11.o,Bool.eq_iff_iff];simp [dJ];try omega
  ·
   cases b0 <;> cases z
   all_goals
    go_wp2;go_ret;refine ⟨aJ ?_,HB2.o⟩;rw [HOB.o,HPL.o _ (by decide),Bool.eq_iff_iff];simp [dJ];try omega
  ·
   cases b0 <;> cases z
   all_goals
    go_wp2;go_ret;refine ⟨aJ ?_,HB2.o⟩;rw [HOB.o,HPL.o _ (by decide),Bool.eq_iff_iff];simp [dJ];try omega
  ·
   cases b0 <;> cases z
   all_goals
    go_wp2;go_ret;refine ⟨aJ ?_,HB2.o⟩;rw [HOB.o,HPL.o _ (by decide),Bool.eq_iff_iff];simp [dJ];try omega
  ·
   cases b0 <;> cases z
   all_goals
    go_wp2;go_ret;refine ⟨aJ ?_,HB2.o⟩;rw [HOB.o,HPL.o _ (by decide),Bool.eq_iff_iff];simp [dJ];try omega
  ·
   cases b0 <;> cases z
   all_goals
    go_wp2;go_ret;refine ⟨aJ ?_,HB2.o⟩;rw [HOB.o,HPL.o _ (by decide),Bool.eq_iff_iff];simp [dJ];try omega
  ·
   cases b0 <;> cases z
   all_goals
    go_wp2;go_ret;refine ⟨aJ ?_,HB2.o⟩;rw [HOB.o,HPL.o _ (by decide),Bool.eq_iff_iff];simp [dJ];try omega
  ·
   cases b0 <;> cases z
   all_goals
    go_wp2;go_ret;refine ⟨aJ ?_,HB2.o⟩;rw [HOB.o,HPL.o _ (by decide),Bool.eq_iff_iff];simp [dJ];try omega
  ·
   clear hb0
   cases bw <;> cases z
   all_goals
    go_wp2_with fail;refine (WA.o _).mono ?_;rintro e w3 ⟨rfl,rfl⟩;go_wp2;go_ret;refine ⟨aJ ?_,HB2.o⟩;rw [HOB.o,H12.o,Bool.eq_iff_iff];simp [dJ];try omega
  ·
   cases b0 <;> cases z
   all_goals
    go_wp2;go_ret;refine ⟨aJ ?_,HB2.o⟩;rw [HOB.o,HPL.o _ (by decide),Bool.eq_iff_iff];simp [dJ];try omega
 ·
  cases b0
  all_goals
   go_wp2;go_ret;refine ⟨aJ ?_,HB2.o⟩;rw [HOB.o];have hk:dJ o m=false:=(by simp only [aN] at h1 h2 h3 h4 h5 h6 h7 h8 h9 h10 h11 h12 h13;unfold dJ;rw [if_neg (by omega),if_neg (by omega),if_neg (by omega)]);rw [hk];simp
theorem Cf:∀ (n:Nat) (x:Ex) (ko:Option Addr) (kc:Nat) (w:World),Fw n x->aV w n ko x.kids →
  Calls Tryz.prog 119 #[exv x ko kc] w fun e w'=>e=.returned (.bool (gQ n x))/\Below w.heap.size w w'
 | 0,x,_,_,_,h,_=>h.no.elim
 | n + 1,.mk o t a b c d K,ko,kc,w,hf,hK=>by
  have IH:=aH (fun (y:Ex) (ao:Option Addr) (c:Nat) (W:World)=>Cf n y ao c W);have HS:=aH (jN n (.mk o t a b c d K));have hl:=hf.len;have HK:=aH hK;have HF:=aH hf;unfold exv;simp only [Ex.kids,Ex.op,Ex.text,Ex.s0,Ex.s1,Ex.s2,Ex.s3] at hl HK HS ⊢;clear hK hf;obtain ⟨m,hlm⟩:∃ m,K.length=m:=⟨_,rfl⟩;have HM:=aH hlm;rw [hlm] at hl ⊢;clear hlm;obtain ⟨hl1,hl2⟩:=hl;have HO:=aH (show uB (.mk o t a b c d K)=ownB o t a b c d m by unfold uB;simp only [Ex.kids,Ex.op,Ex.text,Ex.s0,Ex.s1,Ex.s2,Ex.s3];rw [HM.o]);have HB0:=aH (dN w (.cells #[.int .i64 o,.string t,.int .u64 a,.int .u64 b,.int .u64 c,.int .u64 d,.slice ko m kc] 32));have HP:=aH (Own.fresh w 32 [.int .i64 o,.string t,.int .u64 a,.int .u64 b,.int .u64 c,.int .u64 d,.slice ko m kc]);have OW:=aH (fun W=>Yu o a b c d t ko m kc W (by omega));obtain ⟨bo,hbo⟩:∃ bo,ownB o t a b c d m=bo:=⟨_,rfl⟩;have HBO:=aH hbo;clear hbo;go_enter Tryz.func119,Tryz.ntmps119;go_wp2_with fail;refine (OW.o _).mono ?_;rintro e w1 ⟨rfl,hb1⟩;rw [HBO.o];have HB1:=aH (aD HB0.o hb1);have HP1:=aH (HP.o.under hb1 HP.o.lt);clear hb1 HB0 HP;obtain ⟨p0,p1,p2,p3,p4,p5,p6⟩:=HP1.o.seven
  cases bo
  · go_wp2;go_ret;exact ⟨aJ (by rw [HS.o,HO.o,HBO.o];rfl),HB1.o⟩
  ·
   clear p0 p1 p2 p3 p4 p5 p6;go_wp2_with fail
   go_loopw [3] (fun b9 wr=>∃ k:Nat,b9=.int .i64 (k:Int)/\(k:Int)<=m/\aQ ((K.take k).all (gQ n)=true)/\aQ (Below w.heap.size w wr)/\aQ (Own wr w.heap.size 32 [.int .i64 o,.string t,.int .u64 a,.int .u64 b,.int .u64 c,.int .u64 d,.slice ko m kc]))
    (fun b9 _=>m - (intOf b9).toNat)
   case atStart=>exact ⟨0,rfl,by omega,aH rfl,HB1,HP1⟩
   case round =>
    obtain ⟨k,rfl,hk2,HA,HB,HP⟩:=hrel;clear HB1 HP1;have p6:wr.cell? ⟨w.heap.size,6,none⟩=some (.slice ko m kc):=HP.o.cell 6;by_cases h2:(k:Int) < m
    ·
     obtain ⟨y,hy⟩:∃ y,K[k]?=some y:=⟨_,aG (by have:=HM.o;omega)⟩;obtain ⟨g,off,kk,kd,rfl,hg,c0,c1,c2,c3,c4,c5,c6,hr⟩:=HK.o k y hy;have HR:=aH hr;have HFY:=aH (HF.o.kid hy);have HY1:=aH hy;obtain ⟨z,hz⟩:∃ z,gQ n y=z:=⟨_,rfl⟩;have HZ:=aH hz;have e0:=aC c0 HB.o;have e1:=aC c1 HB.o;have e2:=aC c2 HB.o;have e3:=aC c3 HB.o;have e4:=aC c4 HB.o;have e5:=aC c5 HB.o;have e6:=aC c6 HB.o;have hgr:g < wr.heap.size:=aL hg HB.o.size;clear hr hy hz c0 c1 c2 c3 c4 c5 c6 hg;go_wp2_with fail;refine (IH.o y kk kd _ HFY.o (aV.below HB.o HR.o)).mono ?_;rintro e w1 ⟨rfl,hb1⟩;rw [HZ.o];have HB1:=aH (aD HB.o hb1);have HP1:=aH (HP.o.under hb1 HP.o.lt);clear hb1 e0 e1 e2 e3 e4 e5 e6 p6
     cases z
     · go_wp2;go_ret;exact ⟨aJ (by rw [HS.o,wU HY1.o HZ.o];simp),HB1.o⟩
     ·
      have HA1:=aH (show (K.take (k + 1)).all (gQ n)=true by rw [Dx HY1.o,HA.o,HZ.o];rfl);go_wp2
      go_roundw
      case rel=>exact ⟨k + 1,by go_num,by omega,HA1,HB1,HP1⟩
      case measure=>simp [intOf];omega
    ·
     obtain rfl:k=m:=by omega
     have HE:=aH (show gQ (n + 1) (.mk o t a b c d K)=true by
      have h:=HA.o;rw [<- HM.o,List.take_length] at h
      rw [HS.o,HO.o,HBO.o,h];rfl)
     go_wp2;go_ret;exact ⟨aJ HE.o.symm,HB.o⟩
theorem lH (n:Nat) (hn:n<=60) (x:Ex) (ko:Option Addr) (kc:Nat) (w:World) (hf:Fw n x) (hK:aV w n ko x.kids) :
  Calls Tryz.prog 90 #[exv x ko kc] w fun e w'=>e=.returned (.bool (dQ n x))/\Below w.heap.size w w':=by
 obtain ⟨m,hlm⟩:∃ m,x.kids.length=m:=⟨_,rfl⟩;obtain ⟨o,ho⟩:∃ o,x.op=o:=⟨_,rfl⟩;have HD:=aH (fun W hW=>Bv 90001 (by omega) n hn x ko kc W hf.1 hW);have HA:=aH (fun W hW=>Cf n x ko kc W hf hW);have HK:=aH hK;have hd:=mH n x;have HR:=aH (show dQ n x=(decide (bJ n x<=12) && gQ n x) from rfl);clear hK hlm ho;have HB0:=aH (fun A=>dN w A);obtain ⟨q,hq⟩:∃ q,bJ n x=q:=⟨_,rfl⟩;rw [hq] at hd HR;have HQ:=aH hq;clear hq hf;unfold exv;go_enter Tryz.func90,Tryz.ntmps90;go_wp2_with fail;refine (HD.o _ (aV.below (HB0.o _) HK.o)).mono ?_;rintro e w1 ⟨rfl,hb1⟩;rw [HQ.o];have HO:=aH ((Own.fresh w 32 [.int .i64 x.op,.string x.text,.int .u64 x.s0,.int .u64 x.s1,.int .u64 x.s2,.int .u64 x.s3,.slice ko x.kids.length kc]).under hb1 (Own.fresh w _ _).lt);have HB1:=aH (aD (HB0.o _) hb1);clear hb1;obtain ⟨p0,p1,p2,p3,p4,p5,p6⟩:=HO.o.seven;by_cases h12:q<=12
 · go_wp2_with fail;refine (HA.o _ (aV.below HB1.o HK.o)).mono ?_;rintro e w2 ⟨rfl,hb2⟩;go_wp2;go_ret;exact ⟨aJ (by rw [HR.o,aT h12];rfl),aD HB1.o hb2⟩
 · go_wp2;go_ret;exact ⟨aJ (by rw [HR.o,aF (show ¬ q<=12 by omega)];rfl),HB1.o⟩
end Go.Proofs.YthkdnehgamefiaaGreat
