import Derived.Test.YthkdnehgamefiaaGreatHr
namespace Go.Proofs.YthkdnehgamefiaaGreat
set_option linter.unusedVariables false
open Go.RowKit Go.Sort
def C2C (L:List Tok):Rs->Rs
 | .error e=>.error e
 | .ok (e,m) =>
  if isS L m [42]=true then .ok (Pb 6 e,m + 1)
  else if isS L m [43]=true then .ok (Pb 7 e,m + 1)
  else if isS L m [63]=true then .ok (Pb 8 e,m + 1)
  else .ok (e,m)
@[go_sem 2000] theorem C0g (k:Int) (A:Option Addr) (n c:Nat) (w:World):(Instr.build 32 #[(0,.int .i64 k),(3,.slice A n c)]).run Tryz.prog w=.ok (.agg #[.int .i64 k,.string ⟨#[]⟩,.int .u64 0,.int .u64 0,.int .u64 0,.int .u64 0,.slice A n c]) w:=by kernel_rfl
theorem fH {w:World} {g:Nat} {v0 v1 v2 v3 v4 v5 v6:Value} (h:Own w g 32 [v0,v1,v2,v3,v4,v5,v6]) (a:Int) (b:ByteArray) (c d e f:Int) (A:Option Addr) (n m:Nat) :
  (Instr.storeAt 32 (.pointer (some ⟨g,0,none⟩)) (.agg #[.int .i64 a,.string b,.int .u64 c,.int .u64 d,.int .u64 e,.int .u64 f,.slice A n m])).run Tryz.prog w=.ok () (bI w g (.int .i64 a) (.string b) (.int .u64 c) (.int .u64 d) (.int .u64 e) (.int .u64 f) (.slice A n m)):=by
 obtain ⟨z0,z1,z2,z3,z4,z5,z6,y0,y1,y2,y3,y4,y5,y6⟩:=h.seven2;have zl:=h.lt;rw [<- aU];go_simp
section
variable {P:Program} {Q:Exit->Act->World->Prop}
theorem Zn {ops:Array Oper} {rest:List Oper} {o:Oper} {a:Act} {w w':World} (hg:o.guard=none) (t:TypeId) (x y:Operand) (hop:o.op=Op.store t x y) (p v:Value) (hx:a.eval x=p) (hy:a.eval y=v)
  (hrun:(Instr.storeAt t p v).run P w=.ok () w') (h:wpList P ops Q rest (a.put o.dst undef) w'):wpList P ops Q (o :: rest) a w:=by
 refine wpList_plain hg fun K hK'=>?_;unfold Oper.wp;simp [execOp,hop,hx,hy,hrun,Result.andThen];exact hK' _ _ h
end
theorem aK {P:Program} {Q:Exit->Act->World->Prop} {ops:Array Oper} {rest:List Oper} {a:Act} {w w':World} {dst:Option Tmp} {ty:TypeId} {ps:String} {af:Array Edge} {t:TypeId} {x y:Operand} (p v:Value)
  (hrun:(Instr.storeAt t p v).run P w=.ok () w') (hx:a.eval x=p) (hy:a.eval y=v) (h:wpList P ops Q rest (a.put dst undef) w'):wpList P ops Q (Oper.mk dst (Op.store t x y) ty ps af none :: rest) a w :=
 Zn rfl t x y rfl p v hx hy hrun h
theorem jU.kid {w0 w:World} {g m B D:Nat} {lo:Option Addr} {lc:Nat} {L:List Tok} {x:Ex} {ko:Option Addr} {kc n:Nat} (op:Int) (tx:ByteArray) (H:Rd w g lo lc L m none) (hB:Own w B 32 [.int .i64 x.op,.string x.text,.int .u64 x.s0,.int .u64 x.s1,.int .u64 x.s2,.int .u64 x.s3,.slice ko x.kids.length kc]) (hD:D<=B) (hE:dD w D n ko x.kids) :
  jU w0 g lo lc L (.ok (.mk op tx 0 0 0 0 [x],m)) D (.mk op tx 0 0 0 0 [x]) (some ⟨B,0,none⟩) w :=
 ⟨H,rfl,n + 1,fun k y hy=>by
  have hk:k=0:=by have:=(aS.1 hy).1;have:k < 1:=this;omega
  subst hk;obtain rfl:x=y:=by have h:([x]:List Ex)[0]?=some y:=hy;simpa using h
  exact ⟨B,0,ko,kc,rfl,hB.lt,hD,hB.cell 0,hB.cell 1,hB.cell 2,hB.cell 3,hB.cell 4,hB.cell 5,hB.cell 6,hE⟩⟩
set_option maxRecDepth 1000000 in
set_option maxHeartbeats 800000 in
theorem B8j (X:Nat->Rs) (big:Bool) (dp:Int) (g:Nat) (lo:Option Addr) (lc:Nat) (L:List Tok) (k:Nat) (hn:(L.length:Int)<=90000)
  (HPL:∀ x m,tyZ L X big k=.ok (x,m)->m<=L.length)
  (HP:∀ W,Rd W g lo lc L k none->Calls Tryz.prog 186 #[.pointer (some ⟨g,0,none⟩),.int .i64 dp] W fun e w'=>Out W g lo lc L (tyZ L X big k) e w') (w:World) (h:Rd w g lo lc L k none) :
  Calls Tryz.prog 172 #[.pointer (some ⟨g,0,none⟩),.int .i64 dp] w fun e w'=>Out w g lo lc L (jG L X big k) e w':=by
 have HH:=aH h;have HPP:=aH HP;have HTK:=aH (fun (m:Nat) (hm:(m:Int)<=1000000) (s:ByteArray) (W:World) (hW:Rd W g lo lc L m none)=>Vl s g lo lc L m none (by omega) hm W hW);have HR:=aH (Own.fresh w 32 [.int .i64 0,.string ⟨#[]⟩,.int .u64 0,.int .u64 0,.int .u64 0,.int .u64 0,.slice none 0 0]);have H1:=aH (h.below (bA (.cells #[.int .i64 0,.string ⟨#[]⟩,.int .u64 0,.int .u64 0,.int .u64 0,.int .u64 0,.slice none 0 0] 32)));have HU:=aH (But.of_below (S:=fun j=>j=g) ((Below.refl w.heap.size w).alloc (Nat.le_refl _) (.cells #[.int .i64 0,.string ⟨#[]⟩,.int .u64 0,.int .u64 0,.int .u64 0,.int .u64 0,.slice none 0 0] 32)));have HGN:=aH (show g < w.heap.size from h.1.lt);obtain ⟨r,hr⟩:∃ r,tyZ L X big k=r:=⟨_,rfl⟩;have HSP:=aH (show jG L X big k=C2C L r from by rw [<- hr];rfl);rw [hr] at HPP;have HXR:=aH (fun x m (h:r=.ok (x,m))=>HPL x m (hr.trans h));generalize jG L X big k=RES at *;clear h HP HPL hr;go_enter Tryz.func172,Tryz.ntmps172;go_upto_region 1 with fail;have HS1:=aH (show w.heap.size < (w.alloc (.cells #[.int .i64 0,.string ⟨#[]⟩,.int .u64 0,.int .u64 0,.int .u64 0,.int .u64 0,.slice none 0 0] 32)).heap.size by simp);generalize World.alloc w _=w1 at *;obtain ⟨N,hN⟩:∃ N,w.heap.size=N:=⟨_,rfl⟩;rw [hN] at HR HGN HS1;rw [hN];have HNN:=aH hN;clear hN;go_wp2_with fail;refine (HPP.o _ H1.o).mono ?_;rintro e w2 ⟨hbu,X2,ko,kc,rfl,hq⟩;unfold exv;have HS2:=aH (show w1.heap.size<=w2.heap.size from hbu.size);have HQ3:=aH (show jU w g lo lc L r w1.heap.size X2 ko (w2.alloc (.cells #[.int .i64 X2.op,.string X2.text,.int .u64 X2.s0,.int .u64 X2.s1,.int .u64 X2.s2,.int .u64 X2.s3,.slice ko X2.kids.length kc] 32)) from jU.below hq (bA _));have HR3:=aH ((HR.o.but hbu (by have:=HGN.o;omega)).on_alloc (.cells #[.int .i64 X2.op,.string X2.text,.int .u64 X2.s0,.int .u64 X2.s1,.int .u64 X2.s2,.int .u64 X2.s3,.slice ko X2.kids.length kc] 32));have HU3:=aH ((HU.o.trans hbu (fun _ _ h=>h)).alloc (.cells #[.int .i64 X2.op,.string X2.text,.int .u64 X2.s0,.int .u64 X2.s1,.int .u64 X2.s2,.int .u64 X2.s3,.slice ko X2.kids.length kc] 32));have HE3:=aH (Own.fresh w2 32 [.int .i64 X2.op,.string X2.text,.int .u64 X2.s0,.int .u64 X2.s1,.int .u64 X2.s2,.int .u64 X2.s3,.slice ko X2.kids.length kc]);clear hbu hq H1 HU HR;go_upto_region 2 with fail;generalize World.alloc w2 _=w3 at *;generalize w2.heap.size=E at *
 cases r
 case error f =>
  obtain ⟨hf,kf,hR⟩:=HQ3.o;obtain ⟨c0,c1,c2,c3,c4,c5,cg⟩:=hR.1.six_r;have c2':w3.cell? ⟨g,2,none⟩=some (.int .i64 f.1):=c2;have ef:(f.1 != 0)=true:=by simp [hf]
  obtain ⟨m0,m1,m2,m3,m4,m5,m6,-⟩:=HE3.o.seven2;have ml:=HE3.o.lt;have HQ:=aH HQ3.o;have HE:=aH (show RES=.error f from HSP.o);clear c2 hR HQ3 hf;obtain ⟨z0,z1,z2,z3,z4,z5,z6,y0,y1,y2,y3,y4,y5,y6⟩:=HR3.o.seven2;have zl:=HR3.o.lt;go_wp2;rw [aU];have HF:=(fX (p7 HR3.o) X2 ko kc);obtain ⟨hU,hQ⟩:=fX (Rd.set7 (N:=N) (D':=w.heap.size) HH.o (Nat.le_of_eq HNN.o) (by have:=HS1.o;omega) (by have:=HS1.o;have:=HNN.o;omega) HU3.o HQ.o) X2 ko kc;clear z0 z1 z2 z3 z4 z5 z6 y0 y1 y2 y3 y4 y5 y6;generalize bI _ N _ _ _ _ _ _ _=w9 at *;obtain ⟨z0,z1,z2,z3,z4,z5,z6⟩:=HF.seven;refine bodyPost_ret (by simp [results,Tryz.results172,go_sem,z0,z1,z2,z3,z4,z5,z6];rfl) rfl ?_;rw [HE.o];exact ⟨hU,X2,ko,kc,rfl,hQ⟩
 case ok pq =>
  obtain ⟨x,m⟩:=pq;obtain ⟨hR,hx,n2,hE2⟩:=HQ3.o;subst hx;have hml:=HXR.o x m rfl;have HD0:=aH hR;have HT0:=aH hE2;have HR0:=HR3;have HU0:=HU3;have HE0:=HE3;obtain ⟨c0,c1,c2,c3,c4,c5,cg⟩:=hR.1.six_r;have c2':w3.cell? ⟨g,2,none⟩=some (.int .i64 0):=c2;have HSE:=aH (show w1.heap.size<=E from HS2.o);have HSP:=aH (show RES=(if isS L m [42]=true then .ok (Pb 6 x,m + 1) else if isS L m [43]=true then .ok (Pb 7 x,m + 1) else if isS L m [63]=true then .ok (Pb 8 x,m + 1) else .ok (x,m)) from HSP.o);clear c2 hR hE2 HQ3 HR3 HU3 HE3 HS2;obtain ⟨z0,hz0⟩:∃ z,isS L m [42]=z:=⟨_,rfl⟩;have HTT:=aH (HTK.o m (by omega) ⟨#[42]⟩ w3 HD0.o);rw [show (⟨#[42]⟩:ByteArray).data.toList=[42] from rfl,hz0] at HTT;simp only [hz0] at HSP;clear hz0;go_wp2_with fail;refine HTT.o.mono ?_;rintro e v0 ⟨rfl,hbu,hrd⟩;have HR1:=aH (HR0.o.but hbu (by have:=HGN.o;omega));have HU1:=aH (HU0.o.trans hbu (fun _ _ h=>h));have HE1:=aH (HE0.o.but hbu (by have:=HGN.o;have:=HS1.o;have:=HSE.o;omega));have HT1:=aH (dD.but hbu (fun j hj=>by have:=HGN.o;have:=HS1.o;omega) HT0.o);have HRD:=aH hrd;clear hbu hrd HTT HR0 HU0 HE0 HT0 HD0
  cases z0
  case true =>
   have HD1:=aH (show Rd v0 g lo lc L (m + 1) none from HRD.o);have HE:=aH (show RES=.ok (Pb 6 x,m + 1) from HSP.o);obtain ⟨m0,m1,m2,m3,m4,m5,m6,-⟩:=HE1.o.seven2;have ml:=HE1.o.lt;have HRA:=aH (HR1.o.on_alloc (.cells #[.int .i64 x.op,.string x.text,.int .u64 x.s0,.int .u64 x.s1,.int .u64 x.s2,.int .u64 x.s3,.slice ko x.kids.length kc] 32));have HBB:=aH (Own.fresh v0 32 [.int .i64 x.op,.string x.text,.int .u64 x.s0,.int .u64 x.s1,.int .u64 x.s2,.int .u64 x.s3,.slice ko x.kids.length kc]);have hbl:Below v0.heap.size v0 (v0.alloc (.cells #[.int .i64 x.op,.string x.text,.int .u64 x.s0,.int .u64 x.s1,.int .u64 x.s2,.int .u64 x.s3,.slice ko x.kids.length kc] 32)):=bA _;have HQ:=aH (jU.kid (w0:=w) (D:=w1.heap.size) 6 ⟨#[]⟩ (HD1.o.below hbl) HBB.o (by have:=HSE.o;omega) (dD.but (But.of_below (S:=fun _=>False) hbl) (fun _ h=>h.elim) HT1.o));have HUA:=aH (HU1.o.alloc (.cells #[.int .i64 x.op,.string x.text,.int .u64 x.s0,.int .u64 x.s1,.int .u64 x.s2,.int .u64 x.s3,.slice ko x.kids.length kc] 32));clear hbl;go_upto_region 5 with fail;have HST:=aH (fH HRA.o 6 ⟨#[]⟩ 0 0 0 0 (some ⟨v0.heap.size,0,none⟩) 1 1);have HF:=aH ((p7 HRA.o (.int .i64 6) (.string ⟨#[]⟩) (.int .u64 0) (.int .u64 0) (.int .u64 0) (.int .u64 0) (.slice (some ⟨v0.heap.size,0,none⟩) 1 1)));have HZ:=aH (Rd.set7 (N:=N) (D':=w.heap.size) HH.o (Nat.le_of_eq HNN.o) (by have:=HS1.o;omega) (by have:=HS1.o;have:=HNN.o;omega) HUA.o HQ.o (.int .i64 6) (.string ⟨#[]⟩) (.int .u64 0) (.int .u64 0) (.int .u64 0) (.int .u64 0) (.slice (some ⟨v0.heap.size,0,none⟩) 1 1));obtain ⟨w9,hw9⟩:∃ w9,bI (v0.alloc (.cells #[.int .i64 x.op,.string x.text,.int .u64 x.s0,.int .u64 x.s1,.int .u64 x.s2,.int .u64 x.s3,.slice ko x.kids.length kc] 32)) N (.int .i64 6) (.string ⟨#[]⟩) (.int .u64 0) (.int .u64 0) (.int .u64 0) (.int .u64 0) (.slice (some ⟨v0.heap.size,0,none⟩) 1 1)=w9:=⟨_,rfl⟩;rw [hw9] at HST HF HZ;clear hw9 HRA HBB HQ HUA;obtain ⟨z0,z1,z2,z3,z4,z5,z6⟩:=HF.o.seven;go_wp2_with (with_reducible refine aK (.pointer (some ⟨N,0,none⟩)) (.agg #[.int .i64 6,.string ⟨#[]⟩,.int .u64 0,.int .u64 0,.int .u64 0,.int .u64 0,.slice (some ⟨v0.heap.size,0,none⟩) 1 1]) HST.o ?_ ?_ ?_)
   · rfl
   · rfl
   refine bodyPost_ret (by simp [Act.put,results,Tryz.results172,go_sem,z0,z1,z2,z3,z4,z5,z6];rfl) rfl ?_;rw [HE.o];exact ⟨HZ.o.1,.mk 6 ⟨#[]⟩ 0 0 0 0 [x],some ⟨v0.heap.size,0,none⟩,1,rfl,HZ.o.2⟩
  case false =>
   have HD1:=aH (show Rd v0 g lo lc L m none from HRD.o);clear HRD;obtain ⟨z1,hz1⟩:∃ z,isS L m [43]=z:=⟨_,rfl⟩;have HTT:=aH (HTK.o m (by omega) ⟨#[43]⟩ v0 HD1.o);rw [show (⟨#[43]⟩:ByteArray).data.toList=[43] from rfl,hz1] at HTT;simp only [hz1] at HSP;clear hz1;go_wp2_with fail;refine HTT.o.mono ?_;rintro e v1 ⟨rfl,hbu,hrd⟩;have HR2:=aH (HR1.o.but hbu (by have:=HGN.o;omega));have HU2:=aH (HU1.o.trans hbu (fun _ _ h=>h));have HE2:=aH (HE1.o.but hbu (by have:=HGN.o;have:=HS1.o;have:=HSE.o;omega));have HT2:=aH (dD.but hbu (fun j hj=>by have:=HGN.o;have:=HS1.o;omega) HT1.o);have HRD:=aH hrd;clear hbu hrd HTT HR1 HU1 HE1 HT1 HD1
   cases z1
   case true =>
    have HD2:=aH (show Rd v1 g lo lc L (m + 1) none from HRD.o);have HE:=aH (show RES=.ok (Pb 7 x,m + 1) from HSP.o);obtain ⟨m0,m1,m2,m3,m4,m5,m6,-⟩:=HE2.o.seven2;have ml:=HE2.o.lt;have HRA:=aH (HR2.o.on_alloc (.cells #[.int .i64 x.op,.string x.text,.int .u64 x.s0,.int .u64 x.s1,.int .u64 x.s2,.int .u64 x.s3,.slice ko x.kids.length kc] 32));have HBB:=aH (Own.fresh v1 32 [.int .i64 x.op,.string x.text,.int .u64 x.s0,.int .u64 x.s1,.int .u64 x.s2,.int .u64 x.s3,.slice ko x.kids.length kc]);have hbl:Below v1.heap.size v1 (v1.alloc (.cells #[.int .i64 x.op,.string x.text,.int .u64 x.s0,.int .u64 x.s1,.int .u64 x.s2,.int .u64 x.s3,.slice ko x.kids.length kc] 32)):=bA _;have HQ:=aH (jU.kid (w0:=w) (D:=w1.heap.size) 7 ⟨#[]⟩ (HD2.o.below hbl) HBB.o (by have:=HSE.o;omega) (dD.but (But.of_below (S:=fun _=>False) hbl) (fun _ h=>h.elim) HT2.o));have HUA:=aH (HU2.o.alloc (.cells #[.int .i64 x.op,.string x.text,.int .u64 x.s0,.int .u64 x.s1,.int .u64 x.s2,.int .u64 x.s3,.slice ko x.kids.length kc] 32));clear hbl;go_upto_region 7 with fail;have HST:=aH (fH HRA.o 7 ⟨#[]⟩ 0 0 0 0 (some ⟨v1.heap.size,0,none⟩) 1 1);have HF:=aH ((p7 HRA.o (.int .i64 7) (.string ⟨#[]⟩) (.int .u64 0) (.int .u64 0) (.int .u64 0) (.int .u64 0) (.slice (some ⟨v1.heap.size,0,none⟩) 1 1)));have HZ:=aH (Rd.set7 (N:=N) (D':=w.heap.size) HH.o (Nat.le_of_eq HNN.o) (by have:=HS1.o;omega) (by have:=HS1.o;have:=HNN.o;omega) HUA.o HQ.o (.int .i64 7) (.string ⟨#[]⟩) (.int .u64 0) (.int .u64 0) (.int .u64 0) (.int .u64 0) (.slice (some ⟨v1.heap.size,0,none⟩) 1 1));obtain ⟨w9,hw9⟩:∃ w9,bI (v1.alloc (.cells #[.int .i64 x.op,.string x.text,.int .u64 x.s0,.int .u64 x.s1,.int .u64 x.s2,.int .u64 x.s3,.slice ko x.kids.length kc] 32)) N (.int .i64 7) (.string ⟨#[]⟩) (.int .u64 0) (.int .u64 0) (.int .u64 0) (.int .u64 0) (.slice (some ⟨v1.heap.size,0,none⟩) 1 1)=w9:=⟨_,rfl⟩;rw [hw9] at HST HF HZ;clear hw9 HRA HBB HQ HUA;obtain ⟨z0,z1,z2,z3,z4,z5,z6⟩:=HF.o.seven;go_wp2_with (with_reducible refine aK (.pointer (some ⟨N,0,none⟩)) (.agg #[.int .i64 7,.string ⟨#[]⟩,.int .u64 0,.int .u64 0,.int .u64 0,.int .u64 0,.slice (some ⟨v1.heap.size,0,none⟩) 1 1]) HST.o ?_ ?_ ?_)
    · rfl
    · rfl
    refine bodyPost_ret (by simp [Act.put,results,Tryz.results172,go_sem,z0,z1,z2,z3,z4,z5,z6];rfl) rfl ?_;rw [HE.o];exact ⟨HZ.o.1,.mk 7 ⟨#[]⟩ 0 0 0 0 [x],some ⟨v1.heap.size,0,none⟩,1,rfl,HZ.o.2⟩
   case false =>
    have HD2:=aH (show Rd v1 g lo lc L m none from HRD.o);clear HRD;obtain ⟨z2,hz2⟩:∃ z,isS L m [63]=z:=⟨_,rfl⟩;have HTT:=aH (HTK.o m (by omega) ⟨#[63]⟩ v1 HD2.o);rw [show (⟨#[63]⟩:ByteArray).data.toList=[63] from rfl,hz2] at HTT;simp only [hz2] at HSP;clear hz2;go_wp2_with fail;refine HTT.o.mono ?_;rintro e v2 ⟨rfl,hbu,hrd⟩;have HR3:=aH (HR2.o.but hbu (by have:=HGN.o;omega));have HU3:=aH (HU2.o.trans hbu (fun _ _ h=>h));have HE3:=aH (HE2.o.but hbu (by have:=HGN.o;have:=HS1.o;have:=HSE.o;omega));have HT3:=aH (dD.but hbu (fun j hj=>by have:=HGN.o;have:=HS1.o;omega) HT2.o);have HRD:=aH hrd;clear hbu hrd HTT HR2 HU2 HE2 HT2 HD2
    cases z2
    case true =>
     have HD3:=aH (show Rd v2 g lo lc L (m + 1) none from HRD.o);have HE:=aH (show RES=.ok (Pb 8 x,m + 1) from HSP.o);obtain ⟨m0,m1,m2,m3,m4,m5,m6,-⟩:=HE3.o.seven2;have ml:=HE3.o.lt;have HRA:=aH (HR3.o.on_alloc (.cells #[.int .i64 x.op,.string x.text,.int .u64 x.s0,.int .u64 x.s1,.int .u64 x.s2,.int .u64 x.s3,.slice ko x.kids.length kc] 32));have HBB:=aH (Own.fresh v2 32 [.int .i64 x.op,.string x.text,.int .u64 x.s0,.int .u64 x.s1,.int .u64 x.s2,.int .u64 x.s3,.slice ko x.kids.length kc]);have hbl:Below v2.heap.size v2 (v2.alloc (.cells #[.int .i64 x.op,.string x.text,.int .u64 x.s0,.int .u64 x.s1,.int .u64 x.s2,.int .u64 x.s3,.slice ko x.kids.length kc] 32)):=bA _;have HQ:=aH (jU.kid (w0:=w) (D:=w1.heap.size) 8 ⟨#[]⟩ (HD3.o.below hbl) HBB.o (by have:=HSE.o;omega) (dD.but (But.of_below (S:=fun _=>False) hbl) (fun _ h=>h.elim) HT3.o));have HUA:=aH (HU3.o.alloc (.cells #[.int .i64 x.op,.string x.text,.int .u64 x.s0,.int .u64 x.s1,.int .u64 x.s2,.int .u64 x.s3,.slice ko x.kids.length kc] 32));clear hbl;go_upto_region 9 with fail;have HST:=aH (fH HRA.o 8 ⟨#[]⟩ 0 0 0 0 (some ⟨v2.heap.size,0,none⟩) 1 1);have HF:=aH ((p7 HRA.o (.int .i64 8) (.string ⟨#[]⟩) (.int .u64 0) (.int .u64 0) (.int .u64 0) (.int .u64 0) (.slice (some ⟨v2.heap.size,0,none⟩) 1 1)));have HZ:=aH (Rd.set7 (N:=N) (D':=w.heap.size) HH.o (Nat.le_of_eq HNN.o) (by have:=HS1.o;omega) (by have:=HS1.o;have:=HNN.o;omega) HUA.o HQ.o (.int .i64 8) (.string ⟨#[]⟩) (.int .u64 0) (.int .u64 0) (.int .u64 0) (.int .u64 0) (.slice (some ⟨v2.heap.size,0,none⟩) 1 1));obtain ⟨w9,hw9⟩:∃ w9,bI (v2.alloc (.cells #[.int .i64 x.op,.string x.text,.int .u64 x.s0,.int .u64 x.s1,.int .u64 x.s2,.int .u64 x.s3,.slice ko x.kids.length kc] 32)) N (.int .i64 8) (.string ⟨#[]⟩) (.int .u64 0) (.int .u64 0) (.int .u64 0) (.int .u64 0) (.slice (some ⟨v2.heap.size,0,none⟩) 1 1)=w9:=⟨_,rfl⟩;rw [hw9] at HST HF HZ;clear hw9 HRA HBB HQ HUA;obtain ⟨z0,z1,z2,z3,z4,z5,z6⟩:=HF.o.seven;go_wp2_with (with_reducible refine aK (.pointer (some ⟨N,0,none⟩)) (.agg #[.int .i64 8,.string ⟨#[]⟩,.int .u64 0,.int .u64 0,.int .u64 0,.int .u64 0,.slice (some ⟨v2.heap.size,0,none⟩) 1 1]) HST.o ?_ ?_ ?_)
     · rfl
     · rfl
     refine bodyPost_ret (by simp [Act.put,results,Tryz.results172,go_sem,z0,z1,z2,z3,z4,z5,z6];rfl) rfl ?_;rw [HE.o];exact ⟨HZ.o.1,.mk 8 ⟨#[]⟩ 0 0 0 0 [x],some ⟨v2.heap.size,0,none⟩,1,rfl,HZ.o.2⟩
    case false =>
     have HD3:=aH (show Rd v2 g lo lc L m none from HRD.o);clear HRD;have HE:=aH (show RES=.ok (x,m) from HSP.o);obtain ⟨m0,m1,m2,m3,m4,m5,m6,-⟩:=HE3.o.seven2;have ml:=HE3.o.lt;have HQ:=aH (show jU w g lo lc L (.ok (x,m)) w1.heap.size x ko v2 from ⟨HD3.o,rfl,n2,HT3.o⟩);obtain ⟨z0,z1,z2,z3,z4,z5,z6,y0,y1,y2,y3,y4,y5,y6⟩:=HR3.o.seven2;have zl:=HR3.o.lt;go_wp2;rw [aU];have HF:=(fX (p7 HR3.o) x ko kc);obtain ⟨hU,hQ⟩:=fX (Rd.set7 (N:=N) (D':=w.heap.size) HH.o (Nat.le_of_eq HNN.o) (by have:=HS1.o;omega) (by have:=HS1.o;have:=HNN.o;omega) HU3.o HQ.o) x ko kc;clear z0 z1 z2 z3 z4 z5 z6 y0 y1 y2 y3 y4 y5 y6;generalize bI _ N _ _ _ _ _ _ _=w9 at *;obtain ⟨z0,z1,z2,z3,z4,z5,z6⟩:=HF.seven;refine bodyPost_ret (by simp [results,Tryz.results172,go_sem,z0,z1,z2,z3,z4,z5,z6];rfl) rfl ?_;rw [HE.o];exact ⟨hU,x,ko,kc,rfl,hQ⟩
def Bd (L:List Tok) (k:Nat) (r:Rs):Prop:=∀ x m,r=.ok (x,m)->k < m/\m<=L.length
theorem Bd.err {L:List Tok} {k:Nat} (e:Int × Int):Bd L k (.error e):=fun x m h=>by cases h
theorem Bd.ok {L:List Tok} {k n:Nat} {x:Ex} (h:k < n) (h':n<=L.length):Bd L k (.ok (x,n)):=fun y m e=>by
 obtain ⟨rfl,rfl⟩:x=y/\n=m:=by simpa using e
 exact ⟨h,h'⟩
theorem Bd.low {L:List Tok} {k k':Nat} {r:Rs} (h:Bd L k r) (hk:k'<=k):Bd L k' r:=fun x m e=>⟨by have:=(h x m e).1;omega,(h x m e).2⟩
theorem Bd.map {L:List Tok} {k:Nat} {r:Rs} {f:Ex->Ex} (h:Bd L k r):Bd L k (Qh f r):=by
 cases r with
 | error e=>exact Bd.err e
 | ok p =>
  obtain ⟨x,m⟩:=p;exact Bd.ok (h x m rfl).1 (h x m rfl).2
theorem B6J {L:List Tok} {k:Nat} (h:(tkA L k).kd=1):Bd L k (yX L k):=by
 have h0:k < L.length:=MJ (by rw [h];decide);unfold yX;split
 ·
  split
  ·
   split
   · rename_i h3;simp at h3;have:=MJ (L:=L) (k:=k + 2) (by rw [h3.1];decide);exact Bd.ok (by omega) (by omega)
   · exact Bd.err _
  · exact Bd.ok (by omega) (by omega)
 · exact Bd.err _
theorem A1L {L:List Tok} {X:Nat->Rs} {big:Bool} (hX:∀ j,Bd L j (X j)) (k:Nat):Bd L k (tyZ L X big k):=by
 unfold tyZ;split
 · rename_i h;have:=MJ (L:=L) (k:=k) (by rw [h];decide);exact Bd.ok (by omega) (by omega)
 split
 · rename_i h;have:=MJ (L:=L) (k:=k) (by rw [h];decide);exact Bd.ok (by omega) (by omega)
 split
 · rename_i h;exact B6J h
 split
 · rename_i h;have:=xB h;exact Bd.ok (by omega) (by omega)
 split
 ·
  split
  · exact Bd.err _
  ·
   cases hx:X (k + 1) with
   | error e=>exact Bd.err e
   | ok p =>
    obtain ⟨x,m⟩:=p;have h1:=hX (k + 1) x m hx;show Bd L k (if isS L m [41]=true then _ else _);split
    · rename_i h2;have:=xB h2;exact Bd.ok (by omega) (by omega)
    · exact Bd.err _
 · exact Bd.err _
theorem A6Y {L:List Tok} {X:Nat->Rs} {big:Bool} (hX:∀ j,Bd L j (X j)) (k:Nat):Bd L k (jG L X big k):=by
 unfold jG
 cases hp:tyZ L X big k with
 | error e=>exact Bd.err e
 | ok p =>
  obtain ⟨x,m⟩:=p;have h1:=A1L hX k x m hp;show Bd L k (if isS L m [42]=true then _ else if isS L m [43]=true then _ else if isS L m [63]=true then _ else _);split
  · rename_i h2;have:=xB h2;exact Bd.ok (by omega) (by omega)
  split
  · rename_i h2;have:=xB h2;exact Bd.ok (by omega) (by omega)
  split
  · rename_i h2;have:=xB h2;exact Bd.ok (by omega) (by omega)
  · exact Bd.ok h1.1 h1.2
theorem Dk {L:List Tok} {X:Nat->Rs} {big:Bool} (hX:∀ j,Bd L j (X j)) (k:Nat):Bd L k (preO L X big k):=by
 have hS:=A6Y (big:=big) hX;unfold preO;split
 · exact ((hS (k + 1)).low (by omega)).map
 split
 · exact ((hS (k + 1)).low (by omega)).map
 split
 ·
  cases hp:jG L X big (k + 1) with
  | error e=>exact Bd.err e
  | ok p =>
   obtain ⟨x,m⟩:=p;have h1:=hS (k + 1) x m hp;show Bd L k (if isS L m [126]=true then _ else _);split
   · rename_i h2;have:=xB h2;exact Bd.ok (by omega) (by omega)
   · exact Bd.err _
 split
 ·
  split
  · exact ((hS (k + 2)).low (by omega)).map
  · exact Bd.err _
 · exact hS k
theorem A6Q {L:List Tok} {pre:Nat->Rs} (hp:∀ j,Bd L j (pre j)):∀ (f:Nat) (A K:List Ex) (k m:Nat),k<=L.length->yY L pre f A k=.ok (K,m)->k<=m/\m<=L.length
 | 0,A,K,k,m,hk,h=>by simp [yY] at h;omega
 | f + 1,A,K,k,m,hk,h=>by
  unfold yY at h;split at h
  ·
   cases hq:pre k with
   | error e=>simp [hq] at h
   | ok p =>
    obtain ⟨x,n⟩:=p;have h1:=hp k x n hq;simp only [hq] at h;have h2:=A6Q hp f _ K n m h1.2 h;omega
  · simp at h;omega
theorem Og {L:List Tok} {pre:Nat->Rs} (hp:∀ j,Bd L j (pre j)) (k:Nat):Bd L k (lC L pre k):=by
 unfold lC
 cases hq:pre k with
 | error e=>exact Bd.err e
 | ok p =>
  obtain ⟨x,n⟩:=p;have h1:=hp k x n hq
  cases hl:yY L pre (L.length + 1) [x] n with
  | error e=>simp only [hl];exact Bd.err e
  | ok p =>
   obtain ⟨K,m⟩:=p;have h2:=A6Q hp _ _ K n m h1.2 hl;simp only [hl];exact Bd.ok (by omega) (by omega)
theorem A9V {L:List Tok} {pre:Nat->Rs} (hp:∀ j,Bd L j (pre j)):∀ (f:Nat) (A K:List Ex) (k m:Nat),k<=L.length->chL L pre f A k=.ok (K,m)->k<=m/\m<=L.length
 | 0,A,K,k,m,hk,h=>by simp [chL] at h;omega
 | f + 1,A,K,k,m,hk,h=>by
  unfold chL at h;split at h
  ·
   cases hq:pre (k + 1) with
   | error e=>simp [hq] at h
   | ok p =>
    obtain ⟨x,n⟩:=p;have h1:=hp (k + 1) x n hq;simp only [hq] at h;have h2:=A9V hp f _ K n m h1.2 h;omega
  · simp at h;omega
theorem A9Z {L:List Tok} {pre:Nat->Rs} (hp:∀ j,Bd L j (pre j)) (k:Nat):Bd L k (chO L pre k):=by
 unfold chO
 cases hq:pre k with
 | error e=>exact Bd.err e
 | ok p =>
  obtain ⟨x,n⟩:=p;have h1:=hp k x n hq
  cases hl:chL L pre (L.length + 1) [x] n with
  | error e=>simp only [hl];exact Bd.err e
  | ok p =>
   obtain ⟨K,m⟩:=p;have h2:=A9V hp _ _ K n m h1.2 hl;simp only [hl];exact Bd.ok (by omega) (by omega)
theorem Py {L:List Tok}:∀ d k,Bd L k (exO L d k)
 | 0,k=>A9Z (Og (Dk fun j=>Bd.err _)) k
 | d + 1,k=>A9Z (Og (Dk (Py d))) k
end Go.Proofs.YthkdnehgamefiaaGreat
