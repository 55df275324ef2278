import Derived.Test.YthkdnehgamefiaaGreatPrA
import Derived.Test.YthkdnehgamefiaaGreatPsd
namespace Go.Proofs.YthkdnehgamefiaaGreat
set_option linter.unusedVariables false
set_option maxHeartbeats 1600000
set_option maxRecDepth 1000000
set_option maxRecDepth 1000000
open Go.RowKit Go.Sort
theorem Rq.fin {w w3:World} {g N k0 k:Nat} {lo:Option Addr} {lc:Nat} {L:List Tok} {p q:Int} {F0 F:Option (Int × Int)} (H0:Rq w g lo lc L k0 p F0) (hN:w.heap.size<=N) (HU:But (fun j=>j=g) w w3) (H3:Rq w3 g lo lc L k q F) (u0 u1 u2 u3 u4 u5 u6:Value) :
  But (fun j=>j=g) w (bI w3 N u0 u1 u2 u3 u4 u5 u6)/\Rq (bI w3 N u0 u1 u2 u3 u4 u5 u6) g lo lc L k q F:=by
 have hU:But (fun j=>j=g) w (bI w3 N u0 u1 u2 u3 u4 u5 u6):=HU.trans (But.set7 w3 N u0 u1 u2 u3 u4 u5 u6) (fun j hj e=>by omega);have hg:=H0.1.lt;exact ⟨hU,H3.1.but (But.set7 w3 N u0 u1 u2 u3 u4 u5 u6) (by omega),H0.2.1.but H0.2.2 hU,H0.2.2⟩
theorem Vv (c:Int) (g:Nat) (lo:Option Addr) (lc:Nat) (L:List Tok) (k:Nat) (op:Int) (F:Option (Int × Int)) (hn:(L.length:Int)<=1000000) (hk:k < L.length) (w:World) (h:Rq w g lo lc L k op F) :
  Calls Tryz.prog 190 #[.pointer (some ⟨g,0,none⟩),.int .i64 c] w fun e w'=>e=.returned (.tuple #[exv ex0 none 0,.bool false])/\But (fun j=>j=g) w w'/\Rq w' g lo lc L k op (some (c,((tkA L k).pos:Int))):=by
 have hlt:=h.1.lt;have HH:=aH h;have hbl:Below w.heap.size w (w.alloc (.cells #[.int .i64 0,.string ⟨#[]⟩,.int .u64 0,.int .u64 0,.int .u64 0,.int .u64 0,.slice none 0 0] 32)):=bA _;have HQ:=aH (h.below hbl);have HA:=aH (Own.fresh w 32 [.int .i64 0,.string ⟨#[]⟩,.int .u64 0,.int .u64 0,.int .u64 0,.int .u64 0,.slice none 0 0]);have HU:=aH (But.of_below (S:=fun j=>j=g) hbl);have HN:=aH (fun W (hW:Rq W g lo lc L k op F)=>Yw g lo lc L k op F hn hk W hW);obtain ⟨N,hN⟩:∃ N,w.heap.size=N:=⟨_,rfl⟩;have ne1:¬ N=g:=by omega
 have ne2:¬ g=N:=by omega
 rw [hN] at HA;have HNN:=aH hN;generalize tkA L k=t at *;unfold zU at HN;obtain ⟨pos,hpos⟩:∃ z,(t.pos:Int)=z:=⟨_,rfl⟩;rw [hpos] at HN ⊢;clear h hbl hpos;go_enter Tryz.func190,Tryz.ntmps190;go_upto_region 1 with fail;generalize World.alloc w _=w1 at *;try rw [hN]
 clear hN;go_wp2_with fail;refine (HN.o _ HQ.o).mono ?_;rintro e w2 ⟨rfl,hb2⟩;have HQ2:=aH (HQ.o.below hb2);have HA2:=aH (HA.o.under hb2 HA.o.lt);have HU2:=aH (HU.o.then_below hb2);clear hb2 HQ HA HU HN;obtain ⟨c0,c1,c2,c3,c4,c5,c6⟩:=HQ2.o.1.seven;have cg:=HQ2.o.1.lt;have f3:w2.frozen? ⟨g,3,none⟩=false:=HQ2.o.1.thaw 3;have f4:w2.frozen? ⟨g,4,none⟩=false:=HQ2.o.1.thaw 4;have f5:w2.frozen? ⟨g,5,none⟩=false:=HQ2.o.1.thaw 5;have f6:w2.frozen? ⟨g,6,none⟩=false:=HQ2.o.1.thaw 6;obtain ⟨z0,z1,z2,z3,z4,z5,z6,y0,y1,y2,y3,y4,y5,y6⟩:=HA2.o.seven2;have zl:=HA2.o.lt;have HU3:=aH ((((HU2.o.setCell (p:=⟨g,3,none⟩) (fun _=>rfl) (.int .i64 c)).setCell (p:=⟨g,4,none⟩) (fun _=>rfl) (.int .i64 pos)).setCell (p:=⟨g,5,none⟩) (fun _=>rfl) (.int .i64 0)).setCell (p:=⟨g,6,none⟩) (fun _=>rfl) (.int .i64 0))
 have HQ3:=aH (show Rq ((((w2.setCell ⟨g,3,none⟩ (.int .i64 c)).setCell ⟨g,4,none⟩ (.int .i64 pos)).setCell ⟨g,5,none⟩ (.int .i64 0)).setCell ⟨g,6,none⟩ (.int .i64 0)) g lo lc L k op (some (c,pos)) from
  ⟨(((HQ2.o.1.put 3 (.int .i64 c)).put 4 (.int .i64 pos)).put 5 (.int .i64 0)).put 6 (.int .i64 0),HQ2.o.2.1.but HQ2.o.2.2 ((((But.put _ _ _ _).setCell (p:=⟨g,4,none⟩) (fun _=>rfl) _).setCell (p:=⟨g,5,none⟩) (fun _=>rfl) _).setCell (p:=⟨g,6,none⟩) (fun _=>rfl) _),HQ2.o.2.2⟩)
 have HA3:=aH ((((HA2.o.off (p:=⟨g,3,none⟩) ne1 (.int .i64 c)).off (p:=⟨g,4,none⟩) ne1 (.int .i64 pos)).off (p:=⟨g,5,none⟩) ne1 (.int .i64 0)).off (p:=⟨g,6,none⟩) ne1 (.int .i64 0));go_wp2;clear c0 c1 c2 c3 c4 c5 c6 cg f3 f4 f5 f6 z0 z1 z2 z3 z4 z5 z6 y0 y1 y2 y3 y4 y5 y6 zl HA2 HQ2 HU2;generalize (((w2.setCell ⟨g,3,none⟩ (.int .i64 c)).setCell ⟨g,4,none⟩ (.int .i64 pos)).setCell ⟨g,5,none⟩ (.int .i64 0)).setCell ⟨g,6,none⟩ (.int .i64 0)=w3 at *;rw [aU];obtain ⟨hU,hR⟩:=Rq.fin HH.o (Nat.le_of_eq HNN.o) HU3.o HQ3.o (.int .i64 0) (.string ⟨#[]⟩) (.int .u64 0) (.int .u64 0) (.int .u64 0) (.int .u64 0) (.slice none 0 0);have HF:=(fZ (p7 HA3.o));generalize bI w3 N _ _ _ _ _ _ _=w9 at *;obtain ⟨z0,z1,z2,z3,z4,z5,z6⟩:=HF.seven;refine bodyPost_ret (by simp [results,Tryz.results190,go_sem,z0,z1,z2,z3,z4,z5,z6];rfl) rfl ?_;exact ⟨rfl,hU,hR⟩
theorem C0O (g:Nat) (lo:Option Addr) (lc:Nat) (L:List Tok) (k:Nat) (op:Int) (F:Option (Int × Int)) (hn:(L.length:Int)<=1000000) (hk:k < L.length) (w:World) (h:Rq w g lo lc L k op F) :
  Calls Tryz.prog 165 #[.pointer (some ⟨g,0,none⟩)] w fun e w'=>e=.returned (.bool (jC L k))/\Below w.heap.size w w':=by
 have HN:=aH (Yw g lo lc L k op F hn hk w h);have HS:=aH (show jC L k=((tkA L k).kd == 1 || (tkA L k).kd == 2 || (tkA L k).kd == 3 || isS L k (⟨#[38]⟩:ByteArray).data.toList || isS L k (⟨#[33]⟩:ByteArray).data.toList || isS L k (⟨#[126]⟩:ByteArray).data.toList || isS L k (⟨#[46]⟩:ByteArray).data.toList || isS L k (⟨#[40]⟩:ByteArray).data.toList) from rfl);rw [Jm,Jm,Jm,Jm,Jm] at HS;obtain ⟨R,hR⟩:∃ R,jC L k=R:=⟨_,rfl⟩;rw [hR] at HS ⊢;generalize tkA L k=t at *;unfold zU at HN;obtain ⟨kd,hkd⟩:∃ z,t.kd=z:=⟨_,rfl⟩;obtain ⟨tx,htx⟩:∃ z,t.tx=z:=⟨_,rfl⟩;rw [hkd,htx] at HN HS;clear h hR hkd htx;go_enter Tryz.func165,Tryz.ntmps165;go_wp2_with fail;refine HN.o.mono ?_;rintro e w1 ⟨rfl,hb1⟩;have HB:=aH (hb1.alloc hb1.size (.cells #[.int .i64 (kd:Int),.string tx,.int .u64 (t.st.1:Int),.int .u64 (t.st.2.1:Int),.int .u64 (t.st.2.2.1:Int),.int .u64 (t.st.2.2.2:Int),.int .i64 (t.pos:Int)] 100));have HA:=aH (Own.fresh w1 100 [.int .i64 (kd:Int),.string tx,.int .u64 (t.st.1:Int),.int .u64 (t.st.2.1:Int),.int .u64 (t.st.2.2.1:Int),.int .u64 (t.st.2.2.2:Int),.int .i64 (t.pos:Int)]);clear hb1 HN;go_upto_region 2 with fail;generalize w1.alloc _=w2 at *;generalize w1.heap.size=N at *;obtain ⟨c0,c1,c2,c3,c4,c5,c6⟩:=HA.o.seven;have cl:=HA.o.lt;by_cases h1:kd=1
 · subst h1;go_wp2;go_ret;exact ⟨aJ (by rw [HS.o];rfl),HB.o⟩
 by_cases h2:kd=2
 · subst h2;go_wp2;go_ret;exact ⟨aJ (by rw [HS.o];rfl),HB.o⟩
 by_cases h3:kd=3
 · subst h3;go_wp2;go_ret;exact ⟨aJ (by rw [HS.o];rfl),HB.o⟩
 have e1:((kd:Int) == 1)=false:=aN.2 (by omega);have e2:((kd:Int) == 2)=false:=aN.2 (by omega);have e3:((kd:Int) == 3)=false:=aN.2 (by omega);have n1:(kd == 1)=false:=aN.2 h1;have n2:(kd == 2)=false:=aN.2 h2;have n3:(kd == 3)=false:=aN.2 h3;by_cases h4:kd=4
 ·
  subst h4;rw [show (⟨#[38]⟩:ByteArray).toList=[38] by decide +kernel,show (⟨#[33]⟩:ByteArray).toList=[33] by decide +kernel,show (⟨#[126]⟩:ByteArray).toList=[126] by decide +kernel,show (⟨#[46]⟩:ByteArray).toList=[46] by decide +kernel,show (⟨#[40]⟩:ByteArray).toList=[40] by decide +kernel] at HS;obtain ⟨q1,hq1⟩:∃ q,(tx.toList == [38])=q:=⟨_,rfl⟩;obtain ⟨q2,hq2⟩:∃ q,(tx.toList == [33])=q:=⟨_,rfl⟩;obtain ⟨q3,hq3⟩:∃ q,(tx.toList == [126])=q:=⟨_,rfl⟩;obtain ⟨q4,hq4⟩:∃ q,(tx.toList == [46])=q:=⟨_,rfl⟩;obtain ⟨q5,hq5⟩:∃ q,(tx.toList == [40])=q:=⟨_,rfl⟩;rw [hq1,hq2,hq3,hq4,hq5] at HS;clear e1 e2 e3 h1 h2 h3 n1 n2 n3
  cases q1
  rotate_left
  · go_wp2;go_ret;exact ⟨aJ (by rw [HS.o];first | rfl | simp),HB.o⟩
  cases q2
  rotate_left
  · go_wp2;go_ret;exact ⟨aJ (by rw [HS.o];first | rfl | simp),HB.o⟩
  cases q3
  rotate_left
  · go_wp2;go_ret;exact ⟨aJ (by rw [HS.o];first | rfl | simp),HB.o⟩
  cases q4
  rotate_left
  · go_wp2;go_ret;exact ⟨aJ (by rw [HS.o];first | rfl | simp),HB.o⟩
  cases q5
  · go_wp2;go_ret;exact ⟨aJ (by rw [HS.o];first | rfl | simp),HB.o⟩
  · go_wp2;go_ret;exact ⟨aJ (by rw [HS.o];first | rfl | simp),HB.o⟩
 · have e4:((kd:Int) == 4)=false:=aN.2 (by omega);have n4:(kd == 4)=false:=aN.2 h4;have HE:=aH (show R=false by rw [HS.o,n1,n2,n3,n4];rfl);clear h1 h2 h3 h4 n1 n2 n3 n4 HS;go_wp2;go_ret;exact ⟨aJ HE.o.symm,HB.o⟩
def IA (L:List Tok) (k:Nat):Bool:=(tkA L k).kd == 1 && decide (k + 1 < L.length) && isS L (k + 1) [58]
theorem C0N (g:Nat) (lo:Option Addr) (lc:Nat) (L:List Tok) (k:Nat) (op:Int) (F:Option (Int × Int)) (hn:(L.length:Int)<=1000000) (hk:k < L.length) (w:World) (h:Rq w g lo lc L k op F) :
  Calls Tryz.prog 181 #[.pointer (some ⟨g,0,none⟩)] w fun e w'=>e=.returned (.bool (IA L k))/\Below w.heap.size w w':=by
 have HQ:=aH h;have C1:=aH (fun (dq:Nat) (os:Array Obj)=>Yw g lo lc L k op F hn hk (grow (redrawn w dq) os) (h.below (below_regrown w dq os)));have HS:=aH (show IA L k=((tkA L k).kd == 1 && decide (k + 1 < L.length) && isS L (k + 1) (⟨#[58]⟩:ByteArray).data.toList) from rfl);rw [Jm] at HS;obtain ⟨R,hR⟩:∃ R,IA L k=R:=⟨_,rfl⟩;rw [hR] at HS ⊢;generalize tkA L k=t at *;unfold zU at C1;obtain ⟨kd,hkd⟩:∃ z,t.kd=z:=⟨_,rfl⟩;rw [hkd] at C1 HS;obtain ⟨n,hnn⟩:∃ n,L.length=n:=⟨_,rfl⟩;have HNN:=aH hnn;obtain ⟨c0,c1,c2,c3,c4,c5,c6⟩:=HQ.o.1.seven;have cg:=HQ.o.1.lt;rw [hnn] at c0 HS hk hn;clear h hR hkd hnn;have c0':=cell_regrown c0;have c1':=cell_regrown c1;have hw1:IntKind.i64.wrap ((k:Int) + 1)=(k:Int) + 1:=wI;by_cases h1:kd=1
 ·
  subst h1;by_cases h2:k + 1 < n
  ·
   have d1:decide ((n:Int)<=(k:Int) + 1)=false:=aF (by omega);have d2:decide (n<=k + 1)=false:=aF (by omega);have HE:=aH (show R=((tkA L (k + 1)).kd == 4 && (tkA L (k + 1)).tx.toList == [58]) by rw [HS.o,aT h2,show (⟨#[58]⟩:ByteArray).toList=[58] by decide +kernel];rfl);go_enter Tryz.func181,Tryz.ntmps181;go_upto_region 1 with fail;refine wp_region_quiet_below (by kernel_rfl) (by kernel_rfl) ?_
   repeat (go_big_quiet_step (first
    | (go_at_call 184;with_reducible exact Calls.regrown_of (C1.o _ _))))
   refine wpQuiet_nil ?_;intro _ hw';obtain ⟨⟨dq,osq⟩,hw''⟩:=hw';subst hw'';have HB:=aH (below_regrown w dq osq);have HQ2:=aH (HQ.o.below HB.o);clear c0 c1 c2 c3 c4 c5 c6 cg c0' c1' C1 HQ HS;generalize grow (redrawn w dq) osq=w2 at *;obtain ⟨c0,c1,c2,c3,c4,c5,c6⟩:=HQ2.o.1.seven;have cg:=HQ2.o.1.lt;rw [HNN.o] at c0;obtain ⟨u,hu⟩:∃ u,L[k + 1]?=some u:=⟨_,aG (by have:=HNN.o;omega)⟩;obtain ⟨b,off,hlo,hb,a0,a1,a2,a3,a4,a5,a6⟩:=HQ2.o.2.1 (k + 1) u hu;rw [jH hu] at HE;rw [hlo] at c0;have h2':(k:Int) + 1 < (n:Int):=(by omega);clear hu hlo;obtain ⟨ukd,hukd⟩:∃ z,u.kd=z:=⟨_,rfl⟩;obtain ⟨utx,hutx⟩:∃ z,u.tx=z:=⟨_,rfl⟩;rw [hukd] at a0 HE;rw [hutx] at a1 HE;clear hukd hutx;go_upto_region 3 with fail;go_region;have HA:=aH ((Own.fresh w2 100 [.int .i64 (ukd:Int),.string utx,.int .u64 (u.st.1:Int),.int .u64 (u.st.2.1:Int),.int .u64 (u.st.2.2.1:Int),.int .u64 (u.st.2.2.2:Int),.int .i64 (u.pos:Int)]).on_drew);have HB2:=aH ((HB.o.alloc HB.o.size (.cells #[.int .i64 (ukd:Int),.string utx,.int .u64 (u.st.1:Int),.int .u64 (u.st.2.1:Int),.int .u64 (u.st.2.2.1:Int),.int .u64 (u.st.2.2.2:Int),.int .i64 (u.pos:Int)] 100)).drew);clear a0 a1 a2 a3 a4 a5 a6 c0 c1 c2 c3 c4 c5 c6 cg hb HB HQ2;generalize World.drew (w2.alloc _)=w3 at *;generalize w2.heap.size=N at *;obtain ⟨z0,z1,z2,z3,z4,z5,z6⟩:=HA.o.seven;have zl:=HA.o.lt;by_cases h4:ukd=4
   ·
    subst h4;obtain ⟨q1,hq1⟩:∃ q,(utx.toList == [58])=q:=⟨_,rfl⟩;rw [hq1] at HE
    cases q1
    all_goals
     go_wp2;go_ret;exact ⟨aJ (by rw [HE.o];rfl),HB2.o⟩
   · have e4:((ukd:Int) == 4)=false:=aN.2 (by omega);have n4:(ukd == 4)=false:=aN.2 h4;have HE2:=aH (show R=false by rw [HE.o,n4];rfl);clear h4 n4 HE;go_wp2;go_ret;exact ⟨aJ HE2.o.symm,HB2.o⟩
  ·
   have d1:decide ((n:Int)<=(k:Int) + 1)=true:=aT (by omega);have d2:decide (n<=k + 1)=true:=aT (by omega);have HE:=aH (show R=false by rw [HS.o,aF h2];rfl);go_enter Tryz.func181,Tryz.ntmps181;go_upto_region 1 with fail;refine wp_region_quiet_below (by kernel_rfl) (by kernel_rfl) ?_
   repeat (go_big_quiet_step (first
    | (go_at_call 184;with_reducible exact Calls.regrown_of (C1.o _ _))))
   refine wpQuiet_nil ?_;intro _ hw';obtain ⟨⟨dq,osq⟩,hw''⟩:=hw';subst hw'';go_wp2;go_ret;exact ⟨aJ HE.o.symm,below_regrown w dq osq⟩
 ·
  have e1:((kd:Int) == 1)=false:=aN.2 (by omega);have n1:(kd == 1)=false:=aN.2 h1;have e2:((kd:Int) != 1)=true:=by rw [bne_iff_ne];omega
  have HE:=aH (show R=false by rw [HS.o,n1];rfl);go_enter Tryz.func181,Tryz.ntmps181;go_upto_region 1 with fail;refine wp_region_quiet_below (by kernel_rfl) (by kernel_rfl) ?_
  repeat (go_big_quiet_step (first
   | (go_at_call 184;with_reducible exact Calls.regrown_of (C1.o _ _))))
  refine wpQuiet_nil ?_;intro _ hw';obtain ⟨⟨dq,osq⟩,hw''⟩:=hw';subst hw'';go_wp2;go_ret;exact ⟨aJ HE.o.symm,below_regrown w dq osq⟩
def oJ:Prop:=∀ (s:ByteArray) (hs:s.size<=maxLen) (w:World),Calls Tryz.prog 34 #[.string s] w fun e w'=>e=.returned (.bool (bN s))/\w=w'
def Pg (L:List Tok) (k:Nat):Option ByteArray:=if ((tkA L k).kd == 1 && bN (tkA L k).tx)=true then some (tkA L k).tx else none
theorem A6L (HW:oJ) (g:Nat) (lo:Option Addr) (lc:Nat) (L:List Tok) (k:Nat) (op:Int) (F:Option (Int × Int)) (hn:(L.length:Int)<=1000000) (hk:k < L.length) (htx:∀ t ∈ L,t.tx.size<=1000000) (w:World) (h:Rq w g lo lc L k op F) :
  Calls Tryz.prog 191 #[.pointer (some ⟨g,0,none⟩)] w fun e w'=>But (fun j=>j=g) w w'/\(match Pg L k with
   | some v=>e=.returned (.tuple #[.string v,.bool true])/\Rq w' g lo lc L (k + 1) op F
   | none=>e=.returned (.tuple #[.string ⟨#[]⟩,.bool false])/\Rq w' g lo lc L k op F):=by
 have HN:=aH (Yw g lo lc L k op F hn hk w h);have HQ:=aH h;have hz:(tkA L k).tx.size<=maxLen:=by rw [jH (aG hk)];have:=htx _ (List.getElem_mem hk);unfold maxLen;omega
 have HWD:=aH (fun W=>HW (tkA L k).tx hz W);obtain ⟨r,hr⟩:∃ r,Pg L k=r:=⟨_,rfl⟩;have HS:=aH (show (if ((tkA L k).kd == 1 && bN (tkA L k).tx)=true then some (tkA L k).tx else none)=r from hr);rw [hr];generalize tkA L k=t at *;unfold zU at HN;obtain ⟨kd,hkd⟩:∃ z,t.kd=z:=⟨_,rfl⟩;obtain ⟨tx,htx⟩:∃ z,t.tx=z:=⟨_,rfl⟩;obtain ⟨wb,hwb⟩:∃ z,bN tx=z:=⟨_,rfl⟩;rw [htx] at HWD HN HS;rw [hkd] at HN HS;rw [hwb] at HWD HS;clear h hr hkd htx hwb hz;have hw1:IntKind.i64.wrap ((k:Int) + 1)=(k:Int) + 1:=wI;go_enter Tryz.func191,Tryz.ntmps191;go_wp2_with fail;refine HN.o.mono ?_;rintro e w1 ⟨rfl,hb1⟩;have hbl:=hb1.alloc hb1.size (.cells #[.int .i64 (kd:Int),.string tx,.int .u64 (t.st.1:Int),.int .u64 (t.st.2.1:Int),.int .u64 (t.st.2.2.1:Int),.int .u64 (t.st.2.2.2:Int),.int .i64 (t.pos:Int)] 100);have HU:=aH (But.of_below (S:=fun j=>j=g) hbl);have HQ2:=aH (HQ.o.below hbl);have HA:=aH (Own.fresh w1 100 [.int .i64 (kd:Int),.string tx,.int .u64 (t.st.1:Int),.int .u64 (t.st.2.1:Int),.int .u64 (t.st.2.2.1:Int),.int .u64 (t.st.2.2.2:Int),.int .i64 (t.pos:Int)]);have hNg:g < w1.heap.size:=(HQ.o.below hb1).1.lt;clear hb1 hbl HN HQ;go_upto_region 2 with fail;generalize w1.alloc _=w2 at *;obtain ⟨N,hN⟩:∃ N,w1.heap.size=N:=⟨_,rfl⟩;rw [hN] at HA hNg;try rw [hN]
 clear hN;have ne1:¬ N=g:=by omega
 have ne2:¬ g=N:=by omega
 obtain ⟨c0,c1,c2,c3,c4,c5,c6⟩:=HA.o.seven;have cl:=HA.o.lt;obtain ⟨d0,d1,d2,d3,d4,d5,d6⟩:=HQ2.o.1.seven;have dl:=HQ2.o.1.lt;have df:w2.frozen? ⟨g,1,none⟩=false:=HQ2.o.1.thaw 1;by_cases h1:kd=1
 ·
  subst h1
  cases wb with
  | false =>
   obtain rfl:none=r:=HS.o;go_wp2_with fail;refine (HWD.o _).mono ?_;rintro e w3 ⟨rfl,rfl⟩;go_wp2;refine bodyPost_ret (by first | (simp [results,Tryz.results191,go_sem];done) | (simp [results,Tryz.results191,go_sem];rfl)) rfl ?_;exact ⟨HU.o,rfl,HQ2.o⟩
  | true =>
   obtain rfl:some tx=r:=HS.o;go_wp2_with fail;refine (HWD.o _).mono ?_;rintro e w3 ⟨rfl,rfl⟩;have HR:=aH (HQ2.o.at (k + 1) (.int .i64 ((k:Int) + 1)) rfl);have HU2:=aH (HU.o.setCell (p:=⟨g,1,none⟩) (fun _=>rfl) (.int .i64 ((k:Int) + 1)));go_wp2;refine bodyPost_ret (by first | (simp [results,Tryz.results191,go_sem];done) | (simp [results,Tryz.results191,go_sem];rfl)) rfl ?_;exact ⟨HU2.o,rfl,HR.o⟩
 ·
  have e1:((kd:Int) == 1)=false:=aN.2 (by omega);have e2:((kd:Int) != 1)=true:=by rw [bne_iff_ne];omega
  have n1:(kd == 1)=false:=aN.2 h1;obtain rfl:none=r:=by have:=HS.o;rw [n1] at this;exact this
  go_wp2;refine bodyPost_ret (by first | (simp [results,Tryz.results191,go_sem];done) | (simp [results,Tryz.results191,go_sem];rfl)) rfl ?_;exact ⟨HU.o,rfl,HQ2.o⟩
end Go.Proofs.YthkdnehgamefiaaGreat
