import Derived.Test.YthkdnehgamefiaaGreatPx
namespace Go.Proofs.YthkdnehgamefiaaGreat
set_option linter.unusedVariables false
set_option maxHeartbeats 1600000
set_option maxRecDepth 1000000
set_option maxRecDepth 1000000
open Go.RowKit Go.Sort
def dprow (lv:Value) (k:Int) (z:Mz) (F:Option Ft2):List Value:=[lv,.int .i64 k,.string z.m.nm,.slice z.io z.m.im.length z.ic,.bool z.m.wet,.int .i64 z.m.wa.op,.string z.m.wa.text,.int .u64 z.m.wa.s0,.int .u64 z.m.wa.s1,.int .u64 z.m.wa.s2,.int .u64 z.m.wa.s3,.slice z.ko z.m.wa.kids.length z.kc,.slice z.ro z.m.ru.length z.rc,.int .i64 (fE F),.int .i64 (fA F),.int .i64 0,.int .i64 0]
def Dq (w:World) (g:Nat) (lo:Option Addr) (lc:Nat) (L:List Tok) (k:Nat) (z:Mz) (F:Option Ft2):Prop :=
 Own w g 85 (dprow (.slice lo L.length lc) (k:Int) z F)/\sO w lo L/\∀ a,lo=some a->a.block ≠ g
section
variable {w w':World} {g:Nat} {lo:Option Addr} {lc:Nat} {L:List Tok} {k:Nat} {z:Mz} {F:Option Ft2}
theorem Dq.below (h:Dq w g lo lc L k z F) (hb:Below w.heap.size w w'):Dq w' g lo lc L k z F:=⟨h.1.under hb h.1.lt,h.2.1.below hb,h.2.2⟩
theorem Dq.but {S:Nat->Prop} (h:Dq w g lo lc L k z F) (hb:But S w w') (hg:¬ S g) (hl:∀ a,lo=some a->¬ S a.block):Dq w' g lo lc L k z F :=
 ⟨h.1.but hb hg,fun j t hj=>by
  obtain ⟨b,off,e,hlt,h0,h1,h2,h3,h4,h5,h6⟩:=h.2.1 j t hj;have hn:¬ S b:=hl _ e
  exact ⟨b,off,e,aL hlt hb.size,hb.cell hn h0,hb.cell hn h1,hb.cell hn h2,hb.cell hn h3,hb.cell hn h4,hb.cell hn h5,hb.cell hn h6⟩,h.2.2⟩
theorem Dq.at (h:Dq w g lo lc L k z F) (m:Nat) (v:Value) (hv:v=.int .i64 (m:Int)):Dq (w.setCell ⟨g,1,none⟩ v) g lo lc L m z F:=by subst hv;exact ⟨h.1.put 1 _,h.2.1.but h.2.2 (But.put _ _ _ _),h.2.2⟩
theorem Dq.flt (h:Dq w g lo lc L k z F) (f:Ft2):Dq ((((w.setCell ⟨g,13,none⟩ (.int .i64 f.1)).setCell ⟨g,14,none⟩ (.int .i64 f.2)).setCell ⟨g,15,none⟩ (.int .i64 0)).setCell ⟨g,16,none⟩ (.int .i64 0)) g lo lc L k z (some f) :=
 ⟨(((h.1.put 13 _).put 14 _).put 15 _).put 16 _,h.2.1.but h.2.2 ((((But.put _ _ _ _).setCell (p:=⟨g,14,none⟩) (fun _=>rfl) _).setCell (p:=⟨g,15,none⟩) (fun _=>rfl) _).setCell (p:=⟨g,16,none⟩) (fun _=>rfl) _),h.2.2⟩
end
theorem Dq.drew {w:World} {g:Nat} {lo:Option Addr} {lc:Nat} {L:List Tok} {k:Nat} {z:Mz} {F:Option Ft2} (h:Dq w g lo lc L k z F):Dq w.drew g lo lc L k z F:=h.below (Below.refl _ _).drew
theorem dp_stop (c:Int) (g:Nat) (lo:Option Addr) (lc:Nat) (L:List Tok) (k:Nat) (z:Mz) (F:Option Ft2) (hn:(L.length:Int)<=1000000) (hk:k < L.length) (w:World) (h:Dq w g lo lc L k z F) :
  Calls Tryz.prog 98 #[.pointer (some ⟨g,0,none⟩),.int .i64 c] w fun e w'=>e=.returned (.bool false)/\But (fun j=>j=g) w w'/\Dq w' g lo lc L k z (some (gH L c k)):=by
 have HH:=aH h;obtain ⟨t,ht⟩:∃ t,L[k]?=some t:=⟨_,aG hk⟩;obtain ⟨b,off,hlo,hb,a0,a1,a2,a3,a4,a5,a6⟩:=h.2.1 k t ht;have HE:=aH (show gH L c k=(c,(t.pos:Int)) from by unfold gH;rw [jH ht]);have HD:=aH (h.flt (c,(t.pos:Int)));have HU:=aH (((((But.refl (fun j=>j=g) w).setCell (p:=⟨g,13,none⟩) (fun _=>rfl) (.int .i64 c)).setCell (p:=⟨g,14,none⟩) (fun _=>rfl) (.int .i64 (t.pos:Int))).setCell (p:=⟨g,15,none⟩) (fun _=>rfl) (.int .i64 0)).setCell (p:=⟨g,16,none⟩) (fun _=>rfl) (.int .i64 0));have c0:w.cell? ⟨g,0,none⟩=some (.slice lo L.length lc):=h.1.cell 0;have c1:w.cell? ⟨g,1,none⟩=some (.int .i64 (k:Int)):=h.1.cell 1;have c13:w.cell? ⟨g,13,none⟩=some (.int .i64 (fE F)):=h.1.cell 13;have f13:w.frozen? ⟨g,13,none⟩=false:=h.1.thaw 13;have c14:w.cell? ⟨g,14,none⟩=some (.int .i64 (fA F)):=h.1.cell 14;have f14:w.frozen? ⟨g,14,none⟩=false:=h.1.thaw 14;have c15:w.cell? ⟨g,15,none⟩=some (.int .i64 0):=h.1.cell 15;have f15:w.frozen? ⟨g,15,none⟩=false:=h.1.thaw 15;have c16:w.cell? ⟨g,16,none⟩=some (.int .i64 0):=h.1.cell 16;have f16:w.frozen? ⟨g,16,none⟩=false:=h.1.thaw 16;have cg:=h.1.lt;obtain ⟨n,hnn⟩:∃ n,L.length=n:=⟨_,rfl⟩;rw [hnn] at c0 hn hk;have hk1:(k:Int) < n:=by omega
 generalize (t.pos:Int)=pos at *;clear h ht hnn a0 a1 a2 a3 a4 a5;subst hlo;go_enter Tryz.func98,Tryz.ntmps98;go_upto_region 1 with fail
 go_still_tail 16,(by kernel_rfl)
 go_wp2;go_ret;exact ⟨rfl,HU.o.drew,by rw [HE.o];exact HD.o.drew⟩
theorem dp_comes (kd:Nat) (s:ByteArray) (g:Nat) (lo:Option Addr) (lc:Nat) (L:List Tok) (k:Nat) (z:Mz) (F:Option Ft2) (hn:(L.length:Int)<=1000000) (hk:k < L.length) (w:World) (h:Dq w g lo lc L k z F) :
  Calls Tryz.prog 70 #[.pointer (some ⟨g,0,none⟩),.int .i64 (kd:Int),.string s] w fun e w'=>e=.returned (.bool (wdB L k kd s.data.toList))/\Below w.heap.size w w':=by
 have HH:=aH h;obtain ⟨t,ht⟩:∃ t,L[k]?=some t:=⟨_,aG hk⟩;obtain ⟨b,off,hlo,hb,a0,a1,a2,a3,a4,a5,a6⟩:=h.2.1 k t ht;have HE:=aH (show wdB L k kd s.data.toList=(t.kd == kd && t.tx.toList == s.toList) from by unfold wdB;rw [jH ht,ByteArray.toList_eq,ByteArray.toList_eq]);generalize wdB L k kd s.data.toList=R at *;have c0:w.cell? ⟨g,0,none⟩=some (.slice lo L.length lc):=h.1.cell 0;have c1:w.cell? ⟨g,1,none⟩=some (.int .i64 (k:Int)):=h.1.cell 1;have cg:=h.1.lt;obtain ⟨n,hnn⟩:∃ n,L.length=n:=⟨_,rfl⟩;rw [hnn] at c0 hn hk;have hk1:(k:Int) < n:=by omega
 have HB1:=aH ((Below.refl w.heap.size w).alloc (Nat.le_refl _) (.cells #[.int .i64 (t.kd:Int),.string t.tx,.int .u64 (t.st.1:Int),.int .u64 (t.st.2.1:Int),.int .u64 (t.st.2.2.1:Int),.int .u64 (t.st.2.2.2:Int),.int .i64 (t.pos:Int)] 100));have HX1:=aH (Own.fresh w 100 [.int .i64 (t.kd:Int),.string t.tx,.int .u64 (t.st.1:Int),.int .u64 (t.st.2.1:Int),.int .u64 (t.st.2.2.1:Int),.int .u64 (t.st.2.2.2:Int),.int .i64 (t.pos:Int)]).on_drew;clear h ht hnn;subst hlo;go_enter Tryz.func70,Tryz.ntmps70;go_upto_region 1 with fail;go_region;have HB2:=aH HB1.o.drew;clear c0 c1 cg a0 a1 a2 a3 a4 a5 a6 hb HB1;generalize World.drew _=w1 at *;obtain ⟨G,hG⟩:∃ G,w.heap.size=G:=⟨_,rfl⟩;have HGG:=aH hG;rw [hG] at HX1 HB2;try rw [hG]
 clear hG;have x0:w1.cell? ⟨G,0,none⟩=some (.int .i64 (t.kd:Int)):=HX1.o.cell 0;have x1:w1.cell? ⟨G,1,none⟩=some (.string t.tx):=HX1.o.cell 1;have xl:=HX1.o.lt;obtain ⟨q1,hq1⟩:∃ q,(t.tx.toList == s.toList)=q:=⟨_,rfl⟩;rw [hq1] at HE;by_cases q:t.kd=kd
 ·
  have i1:((t.kd:Int) == (kd:Int))=true:=beq_iff_eq.2 (by omega);have HR:=aH (show R=q1 from by rw [HE.o,q];simp);rw [q] at x0;clear HE q i1
  cases q1
  all_goals
   go_wp2;go_ret;exact ⟨aJ HR.o.symm,by rw [HGG.o];exact HB2.o⟩
 · have i1:((t.kd:Int) == (kd:Int))=false:=aN.2 (by omega);have HR:=aH (show R=false from by rw [HE.o,show (t.kd == kd)=false from aN.2 q];rfl);clear HE q;go_wp2;go_ret;exact ⟨aJ HR.o.symm,by rw [HGG.o];exact HB2.o⟩
def MuE (g:Nat) (lo:Option Addr) (lc:Nat) (L:List Tok) (k:Nat) (z:Mz) (b:Bool) (e:Ending) (w':World):Prop:=match b with
 | true=>e=.returned (.bool true)/\Dq w' g lo lc L (k + 1) z none
 | false=>e=.returned (.bool false)/\Dq w' g lo lc L k z (some (gH L 2 k))
theorem dp_must (kd:Nat) (s:ByteArray) (g:Nat) (lo:Option Addr) (lc:Nat) (L:List Tok) (k:Nat) (z:Mz) (hn:(L.length:Int)<=1000000) (hk:k < L.length) (w:World) (h:Dq w g lo lc L k z none) :
  Calls Tryz.prog 68 #[.pointer (some ⟨g,0,none⟩),.int .i64 (kd:Int),.string s] w fun e w'=>MuE g lo lc L k z (wdB L k kd s.data.toList) e w'/\But (fun j=>j=g) w w':=by
 have HH:=aH h;have HC:=aH (dp_comes kd s g lo lc L k z none hn hk w h);have HF:=aH (fun W hW=>dp_stop 2 g lo lc L k z none hn hk W hW);have hw1:IntKind.i64.wrap ((k:Int) + 1)=(k:Int) + 1:=wI;generalize wdB L k kd s.data.toList=R at *;clear h;go_enter Tryz.func68,Tryz.ntmps68;go_wp2_with fail;refine HC.o.mono ?_;rintro e w1 ⟨rfl,hb1⟩;have HU1:=aH (But.of_below (S:=fun j=>j=g) hb1);have HQ1:=aH (HH.o.below hb1);clear hb1 HC
 cases R with
 | false =>
  go_wp2_with fail;refine (HF.o _ HQ1.o).mono ?_;rintro e w2 ⟨rfl,hu,hq⟩;have HU2:=aH (HU1.o.trans hu (fun _ _ h=>h));have HQ2:=aH hq;clear hu hq;go_wp2;go_ret;exact ⟨⟨rfl,HQ2.o⟩,HU2.o⟩
 | true =>
  have HQ2:=aH (HQ1.o.at (k + 1) (.int .i64 ((k:Int) + 1)) (by simp));have HU2:=aH (HU1.o.setCell (p:=⟨g,1,none⟩) (fun _=>rfl) (.int .i64 ((k:Int) + 1)));have c1:w1.cell? ⟨g,1,none⟩=some (.int .i64 (k:Int)):=HQ1.o.1.cell 1;have f1:w1.frozen? ⟨g,1,none⟩=false:=HQ1.o.1.thaw 1;have cg:=HQ1.o.1.lt;go_wp2;go_ret;exact ⟨⟨rfl,HQ2.o⟩,HU2.o⟩
def NaE (g:Nat) (lo:Option Addr) (lc:Nat) (L:List Tok) (k:Nat) (z:Mz) (r:Option ByteArray) (e:Ending) (w':World):Prop:=match r with
 | some x=>e=.returned (.tuple #[.string x,.bool true])/\Dq w' g lo lc L k z none
 | none=>e=.returned (.tuple #[.string ⟨#[]⟩,.bool false])/\Dq w' g lo lc L k z (some (gH L 2 k))
theorem dp_name (HW:oJ) (g:Nat) (lo:Option Addr) (lc:Nat) (L:List Tok) (k:Nat) (z:Mz) (hn:(L.length:Int)<=1000000) (hk:k < L.length) (htx:∀ t ∈ L,t.tx.size<=1000000) (w:World) (h:Dq w g lo lc L k z none) :
  Calls Tryz.prog 69 #[.pointer (some ⟨g,0,none⟩)] w fun e w'=>NaE g lo lc L k z (Pg L k) e w'/\But (fun j=>j=g) w w':=by
 obtain ⟨t,ht⟩:∃ t,L[k]?=some t:=⟨_,aG hk⟩;obtain ⟨b,off,hlo,hb,a0,a1,a2,a3,a4,a5,a6⟩:=h.2.1 k t ht;have HWD:=aH (fun (W:World)=>HW t.tx (by have:=htx t (aM ht);unfold maxLen;omega) W);have HSP:=aH (show Pg L k=if (t.kd == 1 && bN t.tx)=true then some t.tx else none from by unfold Pg;rw [jH ht]);generalize Pg L k=RES at *;have HF:=aH (fun W hW=>dp_stop 2 g lo lc L k z none hn hk W hW);have c0:w.cell? ⟨g,0,none⟩=some (.slice lo L.length lc):=h.1.cell 0;have c1:w.cell? ⟨g,1,none⟩=some (.int .i64 (k:Int)):=h.1.cell 1;have cg:=h.1.lt;obtain ⟨n,hnn⟩:∃ n,L.length=n:=⟨_,rfl⟩;rw [hnn] at c0 hn hk;have hk1:(k:Int) < n:=by omega
 have hb1:Below w.heap.size w (w.alloc (.cells #[.int .i64 (t.kd:Int),.string t.tx,.int .u64 (t.st.1:Int),.int .u64 (t.st.2.1:Int),.int .u64 (t.st.2.2.1:Int),.int .u64 (t.st.2.2.2:Int),.int .i64 (t.pos:Int)] 100)).drew:=((Below.refl w.heap.size w).alloc (Nat.le_refl _) _).drew;have HQ1:=aH (h.below hb1);have HU1:=aH (But.of_below (S:=fun j=>j=g) hb1);have HX1:=aH (Own.fresh w 100 [.int .i64 (t.kd:Int),.string t.tx,.int .u64 (t.st.1:Int),.int .u64 (t.st.2.1:Int),.int .u64 (t.st.2.2.1:Int),.int .u64 (t.st.2.2.2:Int),.int .i64 (t.pos:Int)]).on_drew;clear h ht hnn htx hb1;subst hlo;go_enter Tryz.func69,Tryz.ntmps69;go_upto_region 1 with fail;go_region;clear c0 c1 cg a0 a1 a2 a3 a4 a5 a6 hb;generalize World.drew _=w1 at *;generalize w.heap.size=G at *;have x0:w1.cell? ⟨G,0,none⟩=some (.int .i64 (t.kd:Int)):=HX1.o.cell 0;have x1:w1.cell? ⟨G,1,none⟩=some (.string t.tx):=HX1.o.cell 1;have xl:=HX1.o.lt;by_cases q:t.kd=1
 ·
  have i1:((t.kd:Int) == 1)=true:=by simp [q]
  have i2:((t.kd:Int) != 1)=false:=by simp [q]
  have HK1:=aH (show (t.kd == 1)=true from beq_iff_eq.2 q);clear q;go_wp2_with fail;refine (HWD.o _).mono ?_;rintro e w2 ⟨rfl,rfl⟩
  cases hwb:bN t.tx
  case false =>
   have HE:=aH (show RES=none from by rw [HSP.o,hwb];simp);go_wp2_with fail;refine (HF.o _ HQ1.o).mono ?_;rintro e w3 ⟨rfl,hu,hq⟩;have HU3:=aH (HU1.o.trans hu (fun _ _ h=>h));have HQ3:=aH hq;clear hu hq;go_wp2
   go_ret2
   exact ⟨by rw [HE.o];exact ⟨rfl,HQ3.o⟩,HU3.o⟩
  case true =>
   have HE:=aH (show RES=some t.tx from by rw [HSP.o,hwb,HK1.o];rfl);go_wp2
   go_ret2
   exact ⟨by rw [HE.o];exact ⟨rfl,HQ1.o⟩,HU1.o⟩
 ·
  have i1:((t.kd:Int) == 1)=false:=aN.2 (by omega);have i2:((t.kd:Int) != 1)=true:=by simp;omega
  have HE:=aH (show RES=none from by rw [HSP.o,show (t.kd == 1)=false from aN.2 q];simp);clear q;go_wp2_with fail;refine (HF.o _ HQ1.o).mono ?_;rintro e w3 ⟨rfl,hu,hq⟩;have HU3:=aH (HU1.o.trans hu (fun _ _ h=>h));have HQ3:=aH hq;clear hu hq;go_wp2
  go_ret2
  exact ⟨by rw [HE.o];exact ⟨rfl,HQ3.o⟩,HU3.o⟩
end Go.Proofs.YthkdnehgamefiaaGreat
