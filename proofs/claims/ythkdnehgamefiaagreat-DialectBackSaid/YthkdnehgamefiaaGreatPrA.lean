import Derived.Test.YthkdnehgamefiaaGreatHt
namespace Go.Proofs.YthkdnehgamefiaaGreat
set_option linter.unusedVariables false
set_option maxHeartbeats 1600000
set_option maxRecDepth 1000000
set_option maxRecDepth 1000000
open Go.RowKit Go.Sort
def Rq (w:World) (g:Nat) (lo:Option Addr) (lc:Nat) (L:List Tok) (k:Nat) (op:Int) (F:Option (Int × Int)):Prop :=
 Own w g 162 [.slice lo L.length lc,.int .i64 (k:Int),.int .i64 op,.int .i64 (fE F),.int .i64 (fA F),.int .i64 0,.int .i64 0]/\sO w lo L/\∀ a,lo=some a->a.block ≠ g
section
variable {w w':World} {g:Nat} {lo:Option Addr} {lc:Nat} {L:List Tok} {k:Nat} {op:Int} {F:Option (Int × Int)}
theorem Rq.below (h:Rq w g lo lc L k op F) (hb:Below w.heap.size w w'):Rq w' g lo lc L k op F:=⟨h.1.under hb h.1.lt,h.2.1.below hb,h.2.2⟩
theorem Rq.but {S:Nat->Prop} (h:Rq w g lo lc L k op F) (hb:But S w w') (hg:¬ S g) (hl:∀ a,lo=some a->¬ S a.block):Rq w' g lo lc L k op F :=
 ⟨h.1.but hb hg,fun j t hj=>by
  obtain ⟨b,off,e,hlt,h0,h1,h2,h3,h4,h5,h6⟩:=h.2.1 j t hj;have hn:¬ S b:=hl _ e
  exact ⟨b,off,e,aL hlt hb.size,hb.cell hn h0,hb.cell hn h1,hb.cell hn h2,hb.cell hn h3,hb.cell hn h4,hb.cell hn h5,hb.cell hn h6⟩,h.2.2⟩
theorem Rq.at (h:Rq w g lo lc L k op F) (m:Nat) (v:Value) (hv:v=.int .i64 (m:Int)):Rq (w.setCell ⟨g,1,none⟩ v) g lo lc L m op F:=by subst hv;exact ⟨h.1.put 1 _,h.2.1.but h.2.2 (But.put _ _ _ _),h.2.2⟩
theorem Rq.open (h:Rq w g lo lc L k op F) (q:Int):Rq (w.setCell ⟨g,2,none⟩ (.int .i64 q)) g lo lc L k q F:=⟨h.1.put 2 _,h.2.1.but h.2.2 (But.put _ _ _ _),h.2.2⟩
end
theorem Yw (g:Nat) (lo:Option Addr) (lc:Nat) (L:List Tok) (k:Nat) (op:Int) (F:Option (Int × Int)) (hn:(L.length:Int)<=1000000) (hk:k < L.length) (w:World) (h:Rq w g lo lc L k op F) :
  Calls Tryz.prog 184 #[.pointer (some ⟨g,0,none⟩)] w fun e w'=>e=.returned (zU (tkA L k))/\Below w.heap.size w w':=by
 obtain ⟨ho,hT,-⟩:=h;have HO:=aH (ho.on_alloc (.cells #[.int .i64 0,.string ⟨#[]⟩,.int .u64 0,.int .u64 0,.int .u64 0,.int .u64 0,.int .i64 0] 100));have HR:=aH (Own.fresh w 100 [.int .i64 0,.string ⟨#[]⟩,.int .u64 0,.int .u64 0,.int .u64 0,.int .u64 0,.int .i64 0]);have HB:=aH ((Below.refl w.heap.size w).alloc (Nat.le_refl _) (.cells #[.int .i64 0,.string ⟨#[]⟩,.int .u64 0,.int .u64 0,.int .u64 0,.int .u64 0,.int .i64 0] 100));have HT:=aH (hT.below (bA (.cells #[.int .i64 0,.string ⟨#[]⟩,.int .u64 0,.int .u64 0,.int .u64 0,.int .u64 0,.int .i64 0] 100)));obtain ⟨n,hnn⟩:∃ n,L.length=n:=⟨_,rfl⟩;have HN:=aH hnn;rw [hnn] at hn HO hk;clear ho hT hnn;go_enter Tryz.func184,Tryz.ntmps184;go_upto_region 1 with fail;generalize World.alloc w _=w1 at *;obtain ⟨N,hN⟩:∃ N,w.heap.size=N:=⟨_,rfl⟩;rw [hN] at HR HB ⊢;have HNN:=aH hN;clear hN;obtain ⟨c0,c1,c2,c3,c4,c5,c6⟩:=HO.o.seven;have cg:=HO.o.lt;obtain ⟨t,ht⟩:∃ t,L[k]?=some t:=⟨_,aG (by have:=HN.o;omega)⟩;obtain ⟨b,off,rfl,hb,a0,a1,a2,a3,a4,a5,a6⟩:=HT.o k t ht;have HE:=aH (jH ht);obtain ⟨z0,z1,z2,z3,z4,z5,z6,y0,y1,y2,y3,y4,y5,y6⟩:=HR.o.seven2;have zl:=HR.o.lt;have h1':(k:Int) < n:=by omega
 clear ht
 go_still_tail 10,(by kernel_rfl)
 go_wp2;rw [aU];have HF:=((p7 HR.o (.int .i64 (t.kd:Int)) (.string t.tx) (.int .u64 (t.st.1:Int)) (.int .u64 (t.st.2.1:Int)) (.int .u64 (t.st.2.2.1:Int)) (.int .u64 (t.st.2.2.2:Int)) (.int .i64 (t.pos:Int)))).on_drew;have HBF:=(bS HB.o (Nat.le_refl _) (.int .i64 (t.kd:Int)) (.string t.tx) (.int .u64 (t.st.1:Int)) (.int .u64 (t.st.2.1:Int)) (.int .u64 (t.st.2.2.1:Int)) (.int .u64 (t.st.2.2.2:Int)) (.int .i64 (t.pos:Int))).drew;clear z0 z1 z2 z3 z4 z5 z6 y0 y1 y2 y3 y4 y5 y6;generalize (bI w1 N (.int .i64 (t.kd:Int)) (.string t.tx) (.int .u64 (t.st.1:Int)) (.int .u64 (t.st.2.1:Int)) (.int .u64 (t.st.2.2.1:Int)) (.int .u64 (t.st.2.2.2:Int)) (.int .i64 (t.pos:Int))).drew=w9 at *;obtain ⟨z0,z1,z2,z3,z4,z5,z6⟩:=HF.seven;refine bodyPost_ret (by simp [results,Tryz.results184,go_sem,z0,z1,z2,z3,z4,z5,z6];rfl) rfl ?_;exact ⟨by rw [HE.o];rfl,by rw [HNN.o];exact HBF⟩
theorem A1w (s:ByteArray) (g:Nat) (lo:Option Addr) (lc:Nat) (L:List Tok) (k:Nat) (op:Int) (F:Option (Int × Int)) (hn:(L.length:Int)<=1000000) (hk:k < L.length) (w:World) (h:Rq w g lo lc L k op F) :
  Calls Tryz.prog 166 #[.pointer (some ⟨g,0,none⟩),.string s] w fun e w'=>e=.returned (.bool (isS L k s.data.toList))/\Below w.heap.size w w':=by
 have HNW:=aH (fun (W:World) (hb:Below w.heap.size w W)=>Yw g lo lc L k op F hn hk W (h.below hb));have HE:=aH (Jm L k s);clear h;obtain ⟨R,hR⟩:∃ R,isS L k s.data.toList=R:=⟨_,rfl⟩;rw [hR] at HE ⊢;clear hR;generalize tkA L k=t at *;unfold zU at HNW;obtain ⟨kd,hkd⟩:∃ z,t.kd=z:=⟨_,rfl⟩;rw [hkd] at HNW HE;go_enter Tryz.func166,Tryz.ntmps166;go_wp2_with fail;refine (HNW.o _ (Below.refl _ _)).mono ?_;rintro e w1 ⟨rfl,hb1⟩;have HB1:=aH hb1;clear hb1;by_cases h4:kd=4
 · subst h4;obtain ⟨z,hz⟩:∃ z,(t.tx.toList == s.toList)=z:=⟨_,rfl⟩;have HZ:=aH (show R=z by rw [HE.o,hz];rfl);go_wp2_with fail;refine (HNW.o _ HB1.o).mono ?_;rintro e w2 ⟨rfl,hb2⟩;have HB2:=aH (aD HB1.o hb2);clear hb2;go_wp2;go_ret;exact ⟨aJ HZ.o.symm,HB2.o⟩
 · have e4:((kd:Int) == 4)=false:=aN.2 (by omega);have e4n:(kd == 4)=false:=aN.2 h4;have HZ:=aH (show R=false by rw [HE.o,e4n];rfl);clear h4;go_wp2;go_ret;exact ⟨aJ HZ.o.symm,HB1.o⟩
theorem Hz (s:ByteArray) (g:Nat) (lo:Option Addr) (lc:Nat) (L:List Tok) (k:Nat) (op:Int) (F:Option (Int × Int)) (hn:(L.length:Int)<=1000000) (hk:k < L.length) (w:World) (h:Rq w g lo lc L k op F) :
  Calls Tryz.prog 146 #[.pointer (some ⟨g,0,none⟩),.string s] w fun e w'=>e=.returned (.bool (isS L k s.data.toList))/\But (fun j=>j=g) w w'/\Rq w' g lo lc L (if isS L k s.data.toList=true then k + 1 else k) op F:=by
 have HIS:=aH (A1w s g lo lc L k op F hn hk w h);have H:=aH h;obtain ⟨z,hz⟩:∃ z,isS L k s.data.toList=z:=⟨_,rfl⟩;rw [hz] at HIS ⊢;clear h hz;have hw1:IntKind.i64.wrap ((k:Int) + 1)=(k:Int) + 1:=wI;go_enter Tryz.func146,Tryz.ntmps146;go_wp2_with fail;refine HIS.o.mono ?_;rintro e w1 ⟨rfl,hb1⟩;have H1:=aH (H.o.below hb1);have HB1:=aH (But.of_below (S:=fun j=>j=g) hb1);clear hb1
 cases z with
 | false =>
  go_wp2;go_ret;exact ⟨rfl,HB1.o,H1.o⟩
 | true =>
  obtain ⟨c0,c1,c2,c3,c4,c5,c6⟩:=H1.o.1.seven;have cg:=H1.o.1.lt;have cf:w1.frozen? ⟨g,1,none⟩=false:=H1.o.1.thaw 1;have HR:=aH (H1.o.at (k + 1) (.int .i64 ((k:Int) + 1)) rfl);have HB2:=aH (HB1.o.setCell (p:=⟨g,1,none⟩) (fun _=>rfl) (.int .i64 ((k:Int) + 1)));clear H1 HB1;go_wp2;go_ret;exact ⟨rfl,HB2.o,HR.o⟩
end Go.Proofs.YthkdnehgamefiaaGreat
