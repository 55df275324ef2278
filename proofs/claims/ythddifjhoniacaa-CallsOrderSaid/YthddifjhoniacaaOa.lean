import Derived.Test.YthddifjhoniacaaHv
import Derived.Test.YthddifjhoniacaaIj
import Derived.Test.YthddifjhoniacaaIk
import Derived.Test.YthddifjhoniacaaNxD
import Derived.Test.YthddifjhoniacaaCy
import Derived.Test.YthddifjhoniacaaMd
import Derived.Test.YthddifjhoniacaaGf
import Derived.Test.YthddifjhoniacaaId
import Derived.Test.YthddifjhoniacaaIc
import Derived.BigQuiet
import Derived.Test.YthddifjhoniacaaGc
import Derived.Deep.RegionWith
import Derived.Deep.CutBlock
namespace Go.Proofs.Ythddifjhoniacaa
set_option linter.unusedVariables false
set_option maxHeartbeats 9600000
set_option maxRecDepth 1000000
open Go.RowKit Go.Sort
section
variable {P:Program} {ops:Array Oper} {Q:Exit->Act->World->Prop} {md:Region.Mode} {S:World->Prop} {z:Nat}
theorem heldTz.both {i k:Nat} {n:Nat} {l:Array Bool} {a:Act} {w:World} (hr:Region.ready md ops l=[i,k])
  (h1:wpOp P ops Q i (fun b v=>(i=z\/l.getD z true=true\/S v)/\heldTz P md ops Q S z n (l.setIfInBounds i true) b v) a w)
  (h2:wpOp P ops Q k (fun b v=>(k=z\/l.getD z true=true\/S v)/\heldTz P md ops Q S z n (l.setIfInBounds k true) b v) a w):heldTz P md ops Q S z (n + 1) l a w :=
 ⟨fun h0=>absurd (hr.symm.trans h0) (by simp),by
  rw [hr];intro j hj;simp only [List.mem_cons,List.not_mem_nil,or_false] at hj;rcases hj with rfl | rfl
  · exact h1
  · exact h2⟩
theorem heldTz.two {i k:Nat} {oi ok:Oper} {si sk:Nat} {n:Nat} {l:Array Bool} {a:Act} {w:World} {Ri Rk:Value->World->Prop}
  (ei:ops[i]?=some oi) (ek:ops[k]?=some ok) (di:oi.dst=some si) (dk:ok.dst=some sk) (hik:si ≠ sk) (hki:i ≠ k)
  (r1:Region.ready md ops l=[i,k]) (r2:Region.ready md ops (l.setIfInBounds i true)=[k]) (r3:Region.ready md ops (l.setIfInBounds k true)=[i])
  (hS:S w)
  (Hi:∀ a',(a'=a\/∃ x,a'=a.put (some sk) x)->∀ w',S w'->Onward P ops Q oi S a' w' Ri)
  (Hk:∀ a',(a'=a\/∃ q,a'=a.put (some si) q)->∀ w',S w'->Onward P ops Q ok S a' w' Rk)
  (ti:∀ q w' w'',Ri q w'->Below w'.heap.size w' w''->Ri q w'') (tk:∀ q w' w'',Rk q w'->Below w'.heap.size w' w''->Rk q w'')
  (h:∀ q x w',S w'->Ri q w'->Rk x w'->heldTz P md ops Q S z n ((l.setIfInBounds i true).setIfInBounds k true) ((a.put (some si) q).put (some sk) x) w') :
  heldTz P md ops Q S z (n + 2) l a w:=by
 refine heldTz.both r1 ?_ ?_
 · refine (Hi a (.inl rfl) w hS).at_ ei fun q w1 b1 i1 q1=>⟨.inr (.inr i1),heldTz.one r2 ?_⟩;rw [di];refine (Hk _ (.inr ⟨q,rfl⟩) w1 i1).at_ ek fun x w2 b2 i2 x2=>⟨.inr (.inr i2),?_⟩;rw [dk];exact h q x w2 i2 (ti _ _ _ q1 b2) x2
 · refine (Hk a (.inl rfl) w hS).at_ ek fun x w1 b1 i1 x1=>⟨.inr (.inr i1),heldTz.one r3 ?_⟩;rw [dk];refine (Hi _ (.inr ⟨x,rfl⟩) w1 i1).at_ ei fun q w2 b2 i2 q2=>⟨.inr (.inr i2),?_⟩;rw [di,put_swap a (Ne.symm hik),Array.setIfInBounds_comm _ _ (Ne.symm hki)];exact h q x w2 i2 q2 (tk _ _ _ x1 b2)
end
def hL:List ByteArray:=[⟨#[109,111,100,117,108,101,32,109,59,10,97,32,61,32,98,32,47,32,34,120,34,59,10,98,32,61,32,34,121,34,63,32,97,59,10]⟩]
def iL:List ByteArray:=[⟨#[109,111,100,117,108,101,32,109,59,10,97,32,61,32,126,98,126,59,10,98,32,61,32,97,32,34,120,34,32,47,32,34,121,34,59,10]⟩]
def hG:Gj:=(jndO hL ⟨#[97]⟩).getD ⟨[],[],[],[],0⟩
def iG:Gj:=(jndO iL ⟨#[97]⟩).getD ⟨[],[],[],[],0⟩
theorem mini16_jnd:jndO miniL ⟨#[109,97,105,110]⟩=some miniG:=by kernel_rfl
theorem mini16_len:miniG.ns.length=23:=by kernel_rfl
theorem h_jnd:jndO hL ⟨#[97]⟩=some hG:=by kernel_rfl
theorem i_jnd:jndO iL ⟨#[97]⟩=some iG:=by kernel_rfl
theorem hG_len:hG.ns.length=7:=by kernel_rfl
theorem iG_len:iG.ns.length=7:=by kernel_rfl
theorem mini_c9:calI miniG (nextG miniG) 23 9=[0,10,11]:=by kernel_rfl
theorem mini_c11:calI miniG (nextG miniG) 23 11=[12]:=by kernel_rfl
theorem mini_c16:calI miniG (nextG miniG) 23 16=[17,19]:=by kernel_rfl
theorem mini_c10:calI miniG (nextG miniG) 23 10=[11]:=by kernel_rfl
theorem mini_c99:calI miniG (nextG miniG) 23 99=[]:=by kernel_rfl
theorem mini_cy:cycI (calL miniG (nextG miniG) 23) 23=-1:=by kernel_rfl
theorem h_cy:cycI (calL hG (nextG hG) 7) 7=0:=by kernel_rfl
theorem i_cy:cycI (calL iG (nextG iG) 7) 7=0:=by kernel_rfl
theorem next_ok {gr:Gj} (hg:Good gr) (har:∀ x ∈ gr.ns,Ar x) (k:Nat):(∀ y ∈ nextG gr k,0<=y/\y < (gr.ns.length:Int))/\((nextG gr k).length:Int)<=1000:=by have h:=(nextG_end hg har).1;have h1:∀ y ∈ nextG gr k,0<=y/\y < (gr.ns.length:Int):=fun y hy=>(h.ok k y hy).rng;have h2:=(h.ris k).room h1;have:=hg.len;exact ⟨h1,by omega⟩
theorem one_hasN (w:World) (s:ByteArray):HasN (w.alloc (.cells #[.string s] 9)) (some ⟨w.heap.size,0,none⟩) [s] :=
 hasN_of (S:=fun b=>b=w.heap.size) (n:=1) (c:=1) (l:=[s]) ⟨rfl,.inr ⟨w.heap.size,0,1,_,rfl,rfl,Own.fresh w 9 [.string s],Nat.le_refl _,by unfold maxLen;omega,by simp,by simp⟩⟩
theorem mini16_any (w:World):Calls Try.prog 20 #[] w fun e w'=>(∃ b,e=.returned (.slice (some ⟨b,0,none⟩) 2 2)/\HasN w' (some ⟨b,0,none⟩) miniL)/\Below w.heap.size w w':=by have HO:=aH (Own.fresh w 9 (miniL.map Value.string));have HB:=aH (show Below w.heap.size w (w.alloc (.cells (miniL.map Value.string).toArray 9)) from bA _);go_enter Try.func20,Try.ntmps20;go_wp2;go_ret;refine ⟨⟨w.heap.size,rfl,?_⟩,HB.o⟩;exact hasN_of (S:=fun b=>b=w.heap.size) (n:=2) (c:=2) (l:=miniL) ⟨rfl,.inr ⟨w.heap.size,0,2,_,rfl,rfl,HO.o,Nat.le_refl _,by unfold maxLen;omega,by simp [miniL],by simp [miniL]⟩⟩
def Rl (L:List Int) (v:Value) (W:World):Prop:=∃ C,IntsAt W C v L
theorem Rl.keep {L:List Int} {v:Value} {w w':World} (h:Rl L v w) (hb:Below w.heap.size w w'):Rl L v w':=by obtain ⟨C,h⟩:=h;exact ⟨C,h.below hb⟩
theorem awake16_any (w:World):Calls Try.prog 8 #[] w fun e w'=>e=.returned (.bool true)/\Below w.heap.size w w':=by
 have HMI:=aH (mini16_any w)
 have HJA:=aH (fun (bb:Nat) W (hW:HasN W (some ⟨bb,0,none⟩) miniL)=>show Calls Try.prog 7 #[.slice (some ⟨bb,0,none⟩) 2 2,.string ⟨#[109,97,105,110]⟩] W fun e w'=>(∃ a,e=.returned (.tuple #[grv miniG a,.bool true])/\HasG w' miniG a)/\Below W.heap.size W w' from by
  have q:=joined16_any miniL (some ⟨bb,0,none⟩) 2 ⟨#[109,97,105,110]⟩ W hW;rw [mini16_jnd] at q
  exact q)
 have HJB:=aH (fun (bb:Nat) W (hW:HasN W (some ⟨bb,0,none⟩) hL)=>show Calls Try.prog 7 #[.slice (some ⟨bb,0,none⟩) 1 1,.string ⟨#[97]⟩] W fun e w'=>(∃ a,e=.returned (.tuple #[grv hG a,.bool true])/\HasG w' hG a)/\Below W.heap.size W w' from by
  have q:=joined16_any hL (some ⟨bb,0,none⟩) 1 ⟨#[97]⟩ W hW;rw [h_jnd] at q
  exact q)
 have HJC:=aH (fun (bb:Nat) W (hW:HasN W (some ⟨bb,0,none⟩) iL)=>show Calls Try.prog 7 #[.slice (some ⟨bb,0,none⟩) 1 1,.string ⟨#[97]⟩] W fun e w'=>(∃ a,e=.returned (.tuple #[grv iG a,.bool true])/\HasG w' iG a)/\Below W.heap.size W w' from by
  have q:=joined16_any iL (some ⟨bb,0,none⟩) 1 ⟨#[97]⟩ W hW;rw [i_jnd] at q
  exact q)
 have HNa:=aH (fun (a:Gv) W (h:HasG W miniG a)=>rshore_any miniG a (jnd_good mini16_jnd) (jnd_ar mini16_jnd) W h);unfold RxE at HNa;have HCa:=aH (fun (a:Gv) (n:Int) no nc W (h:HasG W miniG a) h2=>calls_any miniG a (jnd_good mini16_jnd) (jnd_wa mini16_jnd) n (nextG miniG) 23 no nc (fun k _=>next_ok (jnd_good mini16_jnd) (jnd_ar mini16_jnd) k) W h h2);unfold PuE at HCa;have HYa:=aH (fun (a:Gv) no nc W (h:HasG W miniG a) h2=>cycle_any miniG a (jnd_good mini16_jnd) (jnd_wa mini16_jnd) (nextG miniG) 23 no nc (fun k _=>next_ok (jnd_good mini16_jnd) (jnd_ar mini16_jnd) k) W h h2);have HNb:=aH (fun (b:Gv) W (h:HasG W hG b)=>rshore_any hG b (jnd_good h_jnd) (jnd_ar h_jnd) W h);unfold RxE at HNb;have HCb:=aH (fun (b:Gv) (n:Int) no nc W (h:HasG W hG b) h2=>calls_any hG b (jnd_good h_jnd) (jnd_wa h_jnd) n (nextG hG) 7 no nc (fun k _=>next_ok (jnd_good h_jnd) (jnd_ar h_jnd) k) W h h2);unfold PuE at HCb;have HYb:=aH (fun (b:Gv) no nc W (h:HasG W hG b) h2=>cycle_any hG b (jnd_good h_jnd) (jnd_wa h_jnd) (nextG hG) 7 no nc (fun k _=>next_ok (jnd_good h_jnd) (jnd_ar h_jnd) k) W h h2);have HNc:=aH (fun (c:Gv) W (h:HasG W iG c)=>rshore_any iG c (jnd_good i_jnd) (jnd_ar i_jnd) W h);unfold RxE at HNc;have HCc:=aH (fun (c:Gv) (n:Int) no nc W (h:HasG W iG c) h2=>calls_any iG c (jnd_good i_jnd) (jnd_wa i_jnd) n (nextG iG) 7 no nc (fun k _=>next_ok (jnd_good i_jnd) (jnd_ar i_jnd) k) W h h2);unfold PuE at HCc;have HYc:=aH (fun (c:Gv) no nc W (h:HasG W iG c) h2=>cycle_any iG c (jnd_good i_jnd) (jnd_wa i_jnd) (nextG iG) 7 no nc (fun k _=>next_ok (jnd_good i_jnd) (jnd_ar i_jnd) k) W h h2);unfold grv at HNa HCa HYa HNb HCb HYb HNc HCc HYc HJA HJB HJC;obtain ⟨nha,hnh⟩:∃ z,miniG.hs.length=z:=⟨_,rfl⟩;obtain ⟨nmsa,hnms⟩:∃ z,miniG.ms.length=z:=⟨_,rfl⟩;obtain ⟨nwa,hnw⟩:∃ z,miniG.ws.length=z:=⟨_,rfl⟩;obtain ⟨sta,hst⟩:∃ z,miniG.st=z:=⟨_,rfl⟩;rw [mini16_len] at HNa HYa;rw [mini16_len,hnh,hnms,hnw,hst] at HJA;simp only [mini16_len,hnh,hnms,hnw,hst] at HNa HCa HYa;clear hnh hnms hnw hst;obtain ⟨nhb,hnh⟩:∃ z,hG.hs.length=z:=⟨_,rfl⟩;obtain ⟨nmsb,hnms⟩:∃ z,hG.ms.length=z:=⟨_,rfl⟩;obtain ⟨nwb,hnw⟩:∃ z,hG.ws.length=z:=⟨_,rfl⟩;obtain ⟨stb,hst⟩:∃ z,hG.st=z:=⟨_,rfl⟩;rw [hG_len] at HNb HYb;rw [hG_len,hnh,hnms,hnw,hst] at HJB;simp only [hG_len,hnh,hnms,hnw,hst] at HNb HCb HYb;clear hnh hnms hnw hst;obtain ⟨nhc,hnh⟩:∃ z,iG.hs.length=z:=⟨_,rfl⟩;obtain ⟨nmsc,hnms⟩:∃ z,iG.ms.length=z:=⟨_,rfl⟩;obtain ⟨nwc,hnw⟩:∃ z,iG.ws.length=z:=⟨_,rfl⟩;obtain ⟨stc,hst⟩:∃ z,iG.st=z:=⟨_,rfl⟩;rw [iG_len] at HNc HYc;rw [iG_len,hnh,hnms,hnw,hst] at HJC;simp only [iG_len,hnh,hnms,hnw,hst] at HNc HCc HYc;clear hnh hnms hnw hst;go_enter Try.func8,Try.ntmps8;go_wp2_with fail;refine HMI.o.mono ?_;rintro e w1 ⟨⟨ba,rfl,hn⟩,hb1⟩;have HB1:=aH hb1;clear hb1;go_wp2_with fail;refine (HJA.o ba w1 hn).mono ?_;rintro e w2 ⟨⟨a,he,hG⟩,hb2⟩;subst he;have HB2:=aH (HB1.o.trans (hb2.mono HB1.o.size));clear hn hb2 HB1 HMI HJA;have hbl:Below w2.heap.size w2 (w2.alloc (.cells #[.slice a.mo nmsa a.mc,.slice a.no 23 a.nc,.slice a.ho nha a.hc,.slice a.wo nwa a.wc,.int .i64 sta] 27)):=bA _;have HB3:=aH (HB2.o.trans (hbl.mono HB2.o.size));have HGa:=aH (hG.below hbl);have HOa:=aH (Own.fresh w2 27 [.slice a.mo nmsa a.mc,.slice a.no 23 a.nc,.slice a.ho nha a.hc,.slice a.wo nwa a.wc,.int .i64 sta]);clear hbl hG;go_upto_region 2 with fail;obtain ⟨Ba,hB⟩:∃ B,w2.heap.size=B:=⟨_,rfl⟩;rw [hB] at HOa;generalize w2.alloc (.cells #[.slice a.mo nmsa a.mc,.slice a.no 23 a.nc,.slice a.ho nha a.hc,.slice a.wo nwa a.wc,.int .i64 sta] 27)=w3 at *;try rw [hB]
 clear hB;have hbl:Below w3.heap.size w3 (w3.alloc (.cells #[.string ⟨#[109,111,100,117,108,101,32,109,59,10,97,32,61,32,98,32,47,32,34,120,34,59,10,98,32,61,32,34,121,34,63,32,97,59,10]⟩] 9)):=bA _;have hn:=one_hasN w3 ⟨#[109,111,100,117,108,101,32,109,59,10,97,32,61,32,98,32,47,32,34,120,34,59,10,98,32,61,32,34,121,34,63,32,97,59,10]⟩;have HB4:=aH (HB3.o.trans (hbl.mono HB3.o.size));have HGa:=aH (HGa.o.below hbl);have HOa:=aH (HOa.o.under hbl HOa.o.lt);clear hbl;go_wp2_with fail;refine (HJB.o _ _ hn).mono ?_;rintro e w5 ⟨⟨b,he,hG⟩,hb⟩;subst he;have HB5:=aH (HB4.o.trans (hb.mono HB4.o.size));have HGa:=aH (HGa.o.below hb);have HOa:=aH (HOa.o.under hb HOa.o.lt);clear hn hb HJB;have hbl:Below w5.heap.size w5 (w5.alloc (.cells #[.slice b.mo nmsb b.mc,.slice b.no 7 b.nc,.slice b.ho nhb b.hc,.slice b.wo nwb b.wc,.int .i64 stb] 27)):=bA _;have HB6:=aH (HB5.o.trans (hbl.mono HB5.o.size));have HGa:=aH (HGa.o.below hbl);have HOa:=aH (HOa.o.under hbl HOa.o.lt);have HGb:=aH (hG.below hbl);have HOb:=aH (Own.fresh w5 27 [.slice b.mo nmsb b.mc,.slice b.no 7 b.nc,.slice b.ho nhb b.hc,.slice b.wo nwb b.wc,.int .i64 stb]);clear hbl hG;go_upto_region 3 with fail;obtain ⟨Bb,hB⟩:∃ B,w5.heap.size=B:=⟨_,rfl⟩;rw [hB] at HOb;generalize w5.alloc (.cells #[.slice b.mo nmsb b.mc,.slice b.no 7 b.nc,.slice b.ho nhb b.hc,.slice b.wo nwb b.wc,.int .i64 stb] 27)=w6 at *;try rw [hB]
 clear hB;have hbl:Below w6.heap.size w6 (w6.alloc (.cells #[.string ⟨#[109,111,100,117,108,101,32,109,59,10,97,32,61,32,126,98,126,59,10,98,32,61,32,97,32,34,120,34,32,47,32,34,121,34,59,10]⟩] 9)):=bA _;have hn:=one_hasN w6 ⟨#[109,111,100,117,108,101,32,109,59,10,97,32,61,32,126,98,126,59,10,98,32,61,32,97,32,34,120,34,32,47,32,34,121,34,59,10]⟩;have HB7:=aH (HB6.o.trans (hbl.mono HB6.o.size));have HGa:=aH (HGa.o.below hbl);have HOa:=aH (HOa.o.under hbl HOa.o.lt);have HGb:=aH (HGb.o.below hbl);have HOb:=aH (HOb.o.under hbl HOb.o.lt);clear hbl;go_wp2_with fail;refine (HJC.o _ _ hn).mono ?_;rintro e w8 ⟨⟨c,he,hG⟩,hb⟩;subst he;have HB8:=aH (HB7.o.trans (hb.mono HB7.o.size));have HGa:=aH (HGa.o.below hb);have HOa:=aH (HOa.o.under hb HOa.o.lt);have HGb:=aH (HGb.o.below hb);have HOb:=aH (HOb.o.under hb HOb.o.lt);clear hn hb HJC;have hbl:Below w8.heap.size w8 (w8.alloc (.cells #[.slice c.mo nmsc c.mc,.slice c.no 7 c.nc,.slice c.ho nhc c.hc,.slice c.wo nwc c.wc,.int .i64 stc] 27)):=bA _;have HB9:=aH (HB8.o.trans (hbl.mono HB8.o.size));have HGa:=aH (HGa.o.below hbl);have HOa:=aH (HOa.o.under hbl HOa.o.lt);have HGb:=aH (HGb.o.below hbl);have HOb:=aH (HOb.o.under hbl HOb.o.lt);have HGc:=aH (hG.below hbl);have HOc:=aH (Own.fresh w8 27 [.slice c.mo nmsc c.mc,.slice c.no 7 c.nc,.slice c.ho nhc c.hc,.slice c.wo nwc c.wc,.int .i64 stc]);clear hbl hG;go_upto_region 4 with fail;obtain ⟨Bc,hB⟩:∃ B,w8.heap.size=B:=⟨_,rfl⟩;rw [hB] at HOc;generalize w8.alloc (.cells #[.slice c.mo nmsc c.mc,.slice c.no 7 c.nc,.slice c.ho nhc c.hc,.slice c.wo nwc c.wc,.int .i64 stc] 27)=w9 at *;try rw [hB]
 clear hB;have g0:w9.cell? ⟨Ba,0,none⟩=some (.slice a.mo nmsa a.mc):=HOa.o.cell 0;have g1:w9.cell? ⟨Ba,1,none⟩=some (.slice a.no 23 a.nc):=HOa.o.cell 1;have g2:w9.cell? ⟨Ba,2,none⟩=some (.slice a.ho nha a.hc):=HOa.o.cell 2;have g3:w9.cell? ⟨Ba,3,none⟩=some (.slice a.wo nwa a.wc):=HOa.o.cell 3;have g4:w9.cell? ⟨Ba,4,none⟩=some (.int .i64 sta):=HOa.o.cell 4;have gl:=HOa.o.lt;go_wp2_with fail;refine (HNa.o a w9 HGa.o).mono ?_;rintro e wA ⟨q,rfl,⟨V,hV1,hV2⟩,-,hb⟩;have HNX:=aH (NxM.row hV1 hV2);have HBA:=aH (HB9.o.trans (hb.mono HB9.o.size));have HGa:=aH (HGa.o.below hb);have HOa:=aH (HOa.o.under hb HOa.o.lt);have HGb:=aH (HGb.o.below hb);have HOb:=aH (HOb.o.under hb HOb.o.lt);have HGc:=aH (HGc.o.below hb);have HOc:=aH (HOc.o.under hb HOc.o.lt);clear hb hV1 hV2 g0 g1 g2 g3 g4 gl HNa;have g0:wA.cell? ⟨Ba,0,none⟩=some (.slice a.mo nmsa a.mc):=HOa.o.cell 0;have g1:wA.cell? ⟨Ba,1,none⟩=some (.slice a.no 23 a.nc):=HOa.o.cell 1;have g2:wA.cell? ⟨Ba,2,none⟩=some (.slice a.ho nha a.hc):=HOa.o.cell 2;have g3:wA.cell? ⟨Ba,3,none⟩=some (.slice a.wo nwa a.wc):=HOa.o.cell 3;have g4:wA.cell? ⟨Ba,4,none⟩=some (.int .i64 sta):=HOa.o.cell 4;have gl:=HOa.o.lt;have h0:wA.cell? ⟨Bb,0,none⟩=some (.slice b.mo nmsb b.mc):=HOb.o.cell 0;have h1:wA.cell? ⟨Bb,1,none⟩=some (.slice b.no 7 b.nc):=HOb.o.cell 1;have h2:wA.cell? ⟨Bb,2,none⟩=some (.slice b.ho nhb b.hc):=HOb.o.cell 2;have h3:wA.cell? ⟨Bb,3,none⟩=some (.slice b.wo nwb b.wc):=HOb.o.cell 3;have h4:wA.cell? ⟨Bb,4,none⟩=some (.int .i64 stb):=HOb.o.cell 4;have hl:=HOb.o.lt;have i0:wA.cell? ⟨Bc,0,none⟩=some (.slice c.mo nmsc c.mc):=HOc.o.cell 0;have i1:wA.cell? ⟨Bc,1,none⟩=some (.slice c.no 7 c.nc):=HOc.o.cell 1;have i2:wA.cell? ⟨Bc,2,none⟩=some (.slice c.ho nhc c.hc):=HOc.o.cell 2;have i3:wA.cell? ⟨Bc,3,none⟩=some (.slice c.wo nwc c.wc):=HOc.o.cell 3;have i4:wA.cell? ⟨Bc,4,none⟩=some (.int .i64 stc):=HOc.o.cell 4;have il:=HOc.o.lt;go_upto_region 7 with fail;refine wp_region_heldTz (fun Wx=>Below wA.heap.size wA Wx) 53 (by kernel_rfl) ?_;have HS:=aH (show Below wA.heap.size wA (World.drew wA) from (Below.refl _ _).drew);have HKA:=aH (And.intro gl (And.intro g0 (And.intro g1 (And.intro g2 (And.intro g3 g4)))));have HKB:=aH (And.intro hl (And.intro h0 (And.intro h1 (And.intro h2 (And.intro h3 h4)))));have HKC:=aH (And.intro il (And.intro i0 (And.intro i1 (And.intro i2 (And.intro i3 i4)))));clear gl g0 g1 g2 g3 g4 hl h0 h1 h2 h3 h4 il i0 i1 i2 i3 i4;refine heldTz.takeD 0 [2,4,5,6,7,8,9,10,11,12,13,14,15,16,17,18,19,20,21,22,23,24,25,26,27,28,29,30,31,32,33,34,35,36,37,38,39,40,41,42,43,44,45,46,47,48,49,50,51,52,53] rfl (v:=?_) (Or.inl ⟨by rfl,?_⟩) HS.o ?_;rotate_left;· intro W hW;obtain ⟨al,a0,a1,a2,a3,a4⟩:=HKA.o;have a0:=keepc a0 hW;have a1:=keepc a1 hW;have a2:=keepc a2 hW;have a3:=keepc a3 hW;have a4:=keepc a4 hW;have al:=aL al hW.size;go_simp;try with_reducible rfl
 go_simp;refine heldTz.pure 1 rfl (v:=?_) (Or.inl ⟨by rfl,?_⟩) HS.o ?_;rotate_left;· intro W _;go_simp;try with_reducible rfl
 go_simp;refine heldTz.two (i:=2) (k:=3) (si:=43) (sk:=44) (Ri:=Rl [0,10,11]) (Rk:=Rl [0,10,11]) rfl rfl rfl rfl (by decide) (by decide) (by kernel_rfl) (by kernel_rfl) (by kernel_rfl) HS.o ?_ ?_ (fun q w1 w2=>Rl.keep) (fun q w1 w2=>Rl.keep) ?_
 ·
  as_aux_lemma =>
   rintro a' (rfl | ⟨x,rfl⟩) W hI;all_goals (refine onward_call (f:=11) (vs:=#[.agg #[.slice a.mo nmsa a.mc,.slice a.no 23 a.nc,.slice a.ho nha a.hc,.slice a.wo nwa a.wc,.int .i64 sta],.slice (some ⟨q,0,none⟩) 23 23,.int .i64 9]) (by kernel_rfl) (by go_simp) ((HCa.o a 9 (some ⟨q,0,none⟩) 23 W (HGa.o.below hI) (HNX.o.below hI)).mono (by rintro e w' ⟨v,he,hi,hb⟩;rw [mini_c9] at hi;exact ⟨v,he,hb,hI.trans (hb.mono hI.size),⟨_,hi⟩⟩)))
 ·
  as_aux_lemma =>
   rintro a' (rfl | ⟨x,rfl⟩) W hI;all_goals (refine onward_value (v:=.slice (some ⟨W.heap.size,0,none⟩) 3 3) (w':=W.alloc (.cells #[.int .i64 0,.int .i64 10,.int .i64 11] 3)) (by kernel_rfl) (by go_simp) (bA _) (hI.trans (((Below.refl W.heap.size W).alloc (Nat.le_refl _) _).mono hI.size)) ⟨_,IntsAt.new W [0,10,11]⟩)
 intro x1 x2 v1 hS ⟨C1,hv⟩ ⟨C2,hx⟩;have HS:=aH hS;have HI1:=aH hv;have HI2:=aH hx;clear hS hv hx;go_simp;refine heldTz.one (i:=4) (by kernel_rfl) (op_call (f:=10) (vs:=#[x1,x2]) rfl (by kernel_rfl) (by go_simp) ((intsat_any x1 x2 [0,10,11] C1 C2 (by decide) v1 HI1.o HI2.o).mono ?_));rintro e v2 ⟨he,hb⟩;refine ⟨_,he,.inr (.inr (HS.o.trans (hb.mono HS.o.size))),?_⟩;have HS:=aH (HS.o.trans (hb.mono HS.o.size));clear hb HI1 HI2;go_simp;refine heldTz.one (i:=5) (by kernel_rfl) (op_value (v:=.bool true) (w':=v2) rfl (by kernel_rfl) (by go_simp;try rfl) ?_);refine ⟨.inr (.inr HS.o),?_⟩;go_simp;refine heldTz.takeD 6 [8,10,11,12,13,14,15,16,17,18,19,20,21,22,23,24,25,26,27,28,29,30,31,32,33,34,35,36,37,38,39,40,41,42,43,44,45,46,47,48,49,50,51,52,53] rfl (v:=?_) (Or.inl ⟨by rfl,?_⟩) HS.o ?_;rotate_left;· intro W hW;obtain ⟨al,a0,a1,a2,a3,a4⟩:=HKA.o;have a0:=keepc a0 hW;have a1:=keepc a1 hW;have a2:=keepc a2 hW;have a3:=keepc a3 hW;have a4:=keepc a4 hW;have al:=aL al hW.size;go_simp;try with_reducible rfl
 go_simp;refine heldTz.pure 7 rfl (v:=?_) (Or.inl ⟨by rfl,?_⟩) HS.o ?_;rotate_left;· intro W _;go_simp;try with_reducible rfl
 go_simp;refine heldTz.two (i:=8) (k:=9) (si:=49) (sk:=50) (Ri:=Rl [12]) (Rk:=Rl [12]) rfl rfl rfl rfl (by decide) (by decide) (by kernel_rfl) (by kernel_rfl) (by kernel_rfl) HS.o ?_ ?_ (fun q w1 w2=>Rl.keep) (fun q w1 w2=>Rl.keep) ?_
 ·
  as_aux_lemma =>
   rintro a' (rfl | ⟨x,rfl⟩) W hI;all_goals (refine onward_call (f:=11) (vs:=#[.agg #[.slice a.mo nmsa a.mc,.slice a.no 23 a.nc,.slice a.ho nha a.hc,.slice a.wo nwa a.wc,.int .i64 sta],.slice (some ⟨q,0,none⟩) 23 23,.int .i64 11]) (by kernel_rfl) (by go_simp) ((HCa.o a 11 (some ⟨q,0,none⟩) 23 W (HGa.o.below hI) (HNX.o.below hI)).mono (by rintro e w' ⟨v,he,hi,hb⟩;rw [mini_c11] at hi;exact ⟨v,he,hb,hI.trans (hb.mono hI.size),⟨_,hi⟩⟩)))
 ·
  as_aux_lemma =>
   rintro a' (rfl | ⟨x,rfl⟩) W hI;all_goals (refine onward_value (v:=.slice (some ⟨W.heap.size,0,none⟩) 1 1) (w':=W.alloc (.cells #[.int .i64 12] 3)) (by kernel_rfl) (by go_simp) (bA _) (hI.trans (((Below.refl W.heap.size W).alloc (Nat.le_refl _) _).mono hI.size)) ⟨_,IntsAt.new W [12]⟩)
 intro x1 x2 v3 hS ⟨C1,hv⟩ ⟨C2,hx⟩;have HS:=aH hS;have HI1:=aH hv;have HI2:=aH hx;clear hS hv hx;go_simp;refine heldTz.one (i:=10) (by kernel_rfl) (op_call (f:=10) (vs:=#[x1,x2]) rfl (by kernel_rfl) (by go_simp) ((intsat_any x1 x2 [12] C1 C2 (by decide) v3 HI1.o HI2.o).mono ?_));rintro e v4 ⟨he,hb⟩;refine ⟨_,he,.inr (.inr (HS.o.trans (hb.mono HS.o.size))),?_⟩;have HS:=aH (HS.o.trans (hb.mono HS.o.size));clear hb HI1 HI2;go_simp;refine heldTz.one (i:=11) (by kernel_rfl) (op_value (v:=.bool true) (w':=v4) rfl (by kernel_rfl) (by go_simp;try rfl) ?_);refine ⟨.inr (.inr HS.o),?_⟩;go_simp;refine heldTz.one (i:=12) (by kernel_rfl) (op_value (v:=.bool true) (w':=v4) rfl (by kernel_rfl) (by go_simp;try rfl) ?_);refine ⟨.inr (.inr HS.o),?_⟩;go_simp;refine heldTz.takeD 13 [15,17,18,19,20,21,22,23,24,25,26,27,28,29,30,31,32,33,34,35,36,37,38,39,40,41,42,43,44,45,46,47,48,49,50,51,52,53] rfl (v:=?_) (Or.inl ⟨by rfl,?_⟩) HS.o ?_;rotate_left;· intro W hW;obtain ⟨al,a0,a1,a2,a3,a4⟩:=HKA.o;have a0:=keepc a0 hW;have a1:=keepc a1 hW;have a2:=keepc a2 hW;have a3:=keepc a3 hW;have a4:=keepc a4 hW;have al:=aL al hW.size;go_simp;try with_reducible rfl
 go_simp;refine heldTz.pure 14 rfl (v:=?_) (Or.inl ⟨by rfl,?_⟩) HS.o ?_;rotate_left;· intro W _;go_simp;try with_reducible rfl
 go_simp;refine heldTz.two (i:=15) (k:=16) (si:=56) (sk:=57) (Ri:=Rl [17,19]) (Rk:=Rl [17,19]) rfl rfl rfl rfl (by decide) (by decide) (by kernel_rfl) (by kernel_rfl) (by kernel_rfl) HS.o ?_ ?_ (fun q w1 w2=>Rl.keep) (fun q w1 w2=>Rl.keep) ?_
 ·
  as_aux_lemma =>
   rintro a' (rfl | ⟨x,rfl⟩) W hI;all_goals (refine onward_call (f:=11) (vs:=#[.agg #[.slice a.mo nmsa a.mc,.slice a.no 23 a.nc,.slice a.ho nha a.hc,.slice a.wo nwa a.wc,.int .i64 sta],.slice (some ⟨q,0,none⟩) 23 23,.int .i64 16]) (by kernel_rfl) (by go_simp) ((HCa.o a 16 (some ⟨q,0,none⟩) 23 W (HGa.o.below hI) (HNX.o.below hI)).mono (by rintro e w' ⟨v,he,hi,hb⟩;rw [mini_c16] at hi;exact ⟨v,he,hb,hI.trans (hb.mono hI.size),⟨_,hi⟩⟩)))
 ·
  as_aux_lemma =>
   rintro a' (rfl | ⟨x,rfl⟩) W hI;all_goals (refine onward_value (v:=.slice (some ⟨W.heap.size,0,none⟩) 2 2) (w':=W.alloc (.cells #[.int .i64 17,.int .i64 19] 3)) (by kernel_rfl) (by go_simp) (bA _) (hI.trans (((Below.refl W.heap.size W).alloc (Nat.le_refl _) _).mono hI.size)) ⟨_,IntsAt.new W [17,19]⟩)
 intro x1 x2 v5 hS ⟨C1,hv⟩ ⟨C2,hx⟩;have HS:=aH hS;have HI1:=aH hv;have HI2:=aH hx;clear hS hv hx;go_simp;refine heldTz.one (i:=17) (by kernel_rfl) (op_call (f:=10) (vs:=#[x1,x2]) rfl (by kernel_rfl) (by go_simp) ((intsat_any x1 x2 [17,19] C1 C2 (by decide) v5 HI1.o HI2.o).mono ?_));rintro e v6 ⟨he,hb⟩;refine ⟨_,he,.inr (.inr (HS.o.trans (hb.mono HS.o.size))),?_⟩;have HS:=aH (HS.o.trans (hb.mono HS.o.size));clear hb HI1 HI2;go_simp;refine heldTz.one (i:=18) (by kernel_rfl) (op_value (v:=.bool true) (w':=v6) rfl (by kernel_rfl) (by go_simp;try rfl) ?_);refine ⟨.inr (.inr HS.o),?_⟩;go_simp;refine heldTz.one (i:=19) (by kernel_rfl) (op_value (v:=.bool true) (w':=v6) rfl (by kernel_rfl) (by go_simp;try rfl) ?_);refine ⟨.inr (.inr HS.o),?_⟩;go_simp;refine heldTz.takeD 20 [22,24,25,26,27,28,29,30,31,32,33,34,35,36,37,38,39,40,41,42,43,44,45,46,47,48,49,50,51,52,53] rfl (v:=?_) (Or.inl ⟨by rfl,?_⟩) HS.o ?_;rotate_left;· intro W hW;obtain ⟨al,a0,a1,a2,a3,a4⟩:=HKA.o;have a0:=keepc a0 hW;have a1:=keepc a1 hW;have a2:=keepc a2 hW;have a3:=keepc a3 hW;have a4:=keepc a4 hW;have al:=aL al hW.size;go_simp;try with_reducible rfl
 go_simp;refine heldTz.pure 21 rfl (v:=?_) (Or.inl ⟨by rfl,?_⟩) HS.o ?_;rotate_left;· intro W _;go_simp;try with_reducible rfl
 go_simp;refine heldTz.two (i:=22) (k:=23) (si:=63) (sk:=64) (Ri:=Rl [11]) (Rk:=Rl [11]) rfl rfl rfl rfl (by decide) (by decide) (by kernel_rfl) (by kernel_rfl) (by kernel_rfl) HS.o ?_ ?_ (fun q w1 w2=>Rl.keep) (fun q w1 w2=>Rl.keep) ?_
 ·
  as_aux_lemma =>
   rintro a' (rfl | ⟨x,rfl⟩) W hI;all_goals (refine onward_call (f:=11) (vs:=#[.agg #[.slice a.mo nmsa a.mc,.slice a.no 23 a.nc,.slice a.ho nha a.hc,.slice a.wo nwa a.wc,.int .i64 sta],.slice (some ⟨q,0,none⟩) 23 23,.int .i64 10]) (by kernel_rfl) (by go_simp) ((HCa.o a 10 (some ⟨q,0,none⟩) 23 W (HGa.o.below hI) (HNX.o.below hI)).mono (by rintro e w' ⟨v,he,hi,hb⟩;rw [mini_c10] at hi;exact ⟨v,he,hb,hI.trans (hb.mono hI.size),⟨_,hi⟩⟩)))
 ·
  as_aux_lemma =>
   rintro a' (rfl | ⟨x,rfl⟩) W hI;all_goals (refine onward_value (v:=.slice (some ⟨W.heap.size,0,none⟩) 1 1) (w':=W.alloc (.cells #[.int .i64 11] 3)) (by kernel_rfl) (by go_simp) (bA _) (hI.trans (((Below.refl W.heap.size W).alloc (Nat.le_refl _) _).mono hI.size)) ⟨_,IntsAt.new W [11]⟩)
 intro x1 x2 v7 hS ⟨C1,hv⟩ ⟨C2,hx⟩;have HS:=aH hS;have HI1:=aH hv;have HI2:=aH hx;clear hS hv hx;go_simp;refine heldTz.one (i:=24) (by kernel_rfl) (op_call (f:=10) (vs:=#[x1,x2]) rfl (by kernel_rfl) (by go_simp) ((intsat_any x1 x2 [11] C1 C2 (by decide) v7 HI1.o HI2.o).mono ?_));rintro e v8 ⟨he,hb⟩;refine ⟨_,he,.inr (.inr (HS.o.trans (hb.mono HS.o.size))),?_⟩;have HS:=aH (HS.o.trans (hb.mono HS.o.size));clear hb HI1 HI2;go_simp;refine heldTz.one (i:=25) (by kernel_rfl) (op_value (v:=.bool true) (w':=v8) rfl (by kernel_rfl) (by go_simp;try rfl) ?_);refine ⟨.inr (.inr HS.o),?_⟩;go_simp;refine heldTz.one (i:=26) (by kernel_rfl) (op_value (v:=.bool true) (w':=v8) rfl (by kernel_rfl) (by go_simp;try rfl) ?_);refine ⟨.inr (.inr HS.o),?_⟩;go_simp;refine heldTz.takeD 27 [29,30,31,32,33,34,35,36,37,38,39,40,41,42,43,44,45,46,47,48,49,50,51,52,53] rfl (v:=?_) (Or.inl ⟨by rfl,?_⟩) HS.o ?_;rotate_left;· intro W hW;obtain ⟨al,a0,a1,a2,a3,a4⟩:=HKA.o;have a0:=keepc a0 hW;have a1:=keepc a1 hW;have a2:=keepc a2 hW;have a3:=keepc a3 hW;have a4:=keepc a4 hW;have al:=aL al hW.size;go_simp;try with_reducible rfl
 go_simp;refine heldTz.pure 28 rfl (v:=?_) (Or.inl ⟨by rfl,?_⟩) HS.o ?_;rotate_left;· intro W _;go_simp;try with_reducible rfl
 go_simp;refine heldTz.one (i:=29) (by kernel_rfl) (op_call (f:=11) (vs:=#[.agg #[.slice a.mo nmsa a.mc,.slice a.no 23 a.nc,.slice a.ho nha a.hc,.slice a.wo nwa a.wc,.int .i64 sta],.slice (some ⟨q,0,none⟩) 23 23,.int .i64 99]) rfl (by kernel_rfl) (by go_simp) ((HCa.o a 99 (some ⟨q,0,none⟩) 23 v8 (HGa.o.below HS.o) (HNX.o.below HS.o)).mono ?_));rintro e v9 ⟨x1,he,hi,hb⟩;rw [mini_c99] at hi;obtain ⟨ao,cap,rfl,-⟩:=hi;refine ⟨_,he,.inr (.inr (HS.o.trans (hb.mono HS.o.size))),?_⟩;have HS:=aH (HS.o.trans (hb.mono HS.o.size));clear hb;simp only [List.length_nil];go_simp;refine heldTz.one (i:=30) (by kernel_rfl) (op_value (v:=.int .i64 0) (w':=v9) rfl (by kernel_rfl) (by go_simp;try rfl) ?_);refine ⟨.inr (.inr HS.o),?_⟩;go_simp;refine heldTz.one (i:=31) (by kernel_rfl) (op_value (v:=.bool true) (w':=v9) rfl (by kernel_rfl) (by go_simp;try rfl) ?_);refine ⟨.inr (.inr HS.o),?_⟩;go_simp;refine heldTz.one (i:=32) (by kernel_rfl) (op_value (v:=.bool true) (w':=v9) rfl (by kernel_rfl) (by go_simp;try rfl) ?_);refine ⟨.inr (.inr HS.o),?_⟩;go_simp;refine heldTz.one (i:=33) (by kernel_rfl) (op_value (v:=.bool true) (w':=v9) rfl (by kernel_rfl) (by go_simp;try rfl) ?_);refine ⟨.inr (.inr HS.o),?_⟩;go_simp;refine heldTz.takeD 34 [36,37,38,39,40,41,42,43,44,45,46,47,48,49,50,51,52,53] rfl (v:=?_) (Or.inl ⟨by rfl,?_⟩) HS.o ?_;rotate_left;· intro W hW;obtain ⟨al,a0,a1,a2,a3,a4⟩:=HKA.o;have a0:=keepc a0 hW;have a1:=keepc a1 hW;have a2:=keepc a2 hW;have a3:=keepc a3 hW;have a4:=keepc a4 hW;have al:=aL al hW.size;go_simp;try with_reducible rfl
 go_simp;refine heldTz.pure 35 rfl (v:=?_) (Or.inl ⟨by rfl,?_⟩) HS.o ?_;rotate_left;· intro W _;go_simp;try with_reducible rfl
 go_simp;have HYQ:=aH (HYa.o a (some ⟨q,0,none⟩) 23 v9 (HGa.o.below HS.o) (HNX.o.below HS.o));rw [mini_cy] at HYQ;refine heldTz.one (i:=36) (by kernel_rfl) (op_call (f:=13) (vs:=#[.agg #[.slice a.mo nmsa a.mc,.slice a.no 23 a.nc,.slice a.ho nha a.hc,.slice a.wo nwa a.wc,.int .i64 sta],.slice (some ⟨q,0,none⟩) 23 23]) rfl (by kernel_rfl) (by go_simp) (HYQ.o.mono ?_));rintro e v10 ⟨he,hb⟩;refine ⟨_,he,.inr (.inr (HS.o.trans (hb.mono HS.o.size))),?_⟩;have HS:=aH (HS.o.trans (hb.mono HS.o.size));clear hb;go_simp;refine heldTz.one (i:=37) (by kernel_rfl) (op_value (v:=.bool true) (w':=v10) rfl (by kernel_rfl) (by go_simp;try rfl) ?_);refine ⟨.inr (.inr HS.o),?_⟩;go_simp;refine heldTz.one (i:=38) (by kernel_rfl) (op_value (v:=.bool true) (w':=v10) rfl (by kernel_rfl) (by go_simp;try rfl) ?_);refine ⟨.inr (.inr HS.o),?_⟩;go_simp;refine heldTz.one (i:=39) (by kernel_rfl) (op_value (v:=.bool true) (w':=v10) rfl (by kernel_rfl) (by go_simp;try rfl) ?_);refine ⟨.inr (.inr HS.o),?_⟩;go_simp;refine heldTz.takeD 40 [43,44,45,46,47,48,49,50,51,52,53] rfl (v:=?_) (Or.inl ⟨by rfl,?_⟩) HS.o ?_;rotate_left;· intro W hW;obtain ⟨al,a0,a1,a2,a3,a4⟩:=HKB.o;have a0:=keepc a0 hW;have a1:=keepc a1 hW;have a2:=keepc a2 hW;have a3:=keepc a3 hW;have a4:=keepc a4 hW;have al:=aL al hW.size;go_simp;try with_reducible rfl
 go_simp;refine heldTz.takeD 41 [42,43,44,45,46,47,48,49,50,51,52,53] rfl (v:=?_) (Or.inl ⟨by rfl,?_⟩) HS.o ?_;rotate_left;· intro W hW;obtain ⟨al,a0,a1,a2,a3,a4⟩:=HKB.o;have a0:=keepc a0 hW;have a1:=keepc a1 hW;have a2:=keepc a2 hW;have a3:=keepc a3 hW;have a4:=keepc a4 hW;have al:=aL al hW.size;go_simp;try with_reducible rfl
 go_simp;refine heldTz.one (i:=42) (by kernel_rfl) (op_call (f:=9) (vs:=#[.agg #[.slice b.mo nmsb b.mc,.slice b.no 7 b.nc,.slice b.ho nhb b.hc,.slice b.wo nwb b.wc,.int .i64 stb]]) rfl (by kernel_rfl) (by go_simp) ((HNb.o b v10 (HGb.o.below HS.o)).mono ?_));rintro e v11 ⟨qb,he,⟨V,hV1,hV2⟩,-,hb⟩;have HNY:=aH (NxM.row hV1 hV2);refine ⟨_,he,.inr (.inr (HS.o.trans (hb.mono HS.o.size))),?_⟩;have HS:=aH (HS.o.trans (hb.mono HS.o.size));clear hb hV1 hV2;go_simp;have HYQ:=aH (HYb.o b (some ⟨qb,0,none⟩) 7 v11 (HGb.o.below HS.o) HNY.o);rw [h_cy] at HYQ;refine heldTz.one (i:=43) (by kernel_rfl) (op_call (f:=13) (vs:=#[.agg #[.slice b.mo nmsb b.mc,.slice b.no 7 b.nc,.slice b.ho nhb b.hc,.slice b.wo nwb b.wc,.int .i64 stb],.slice (some ⟨qb,0,none⟩) 7 7]) rfl (by kernel_rfl) (by go_simp) ((HYQ.o).mono ?_));rintro e v12 ⟨he,hb⟩;refine ⟨_,he,.inr (.inr (HS.o.trans (hb.mono HS.o.size))),?_⟩;have HS:=aH (HS.o.trans (hb.mono HS.o.size));clear hb;go_simp;refine heldTz.one (i:=44) (by kernel_rfl) (op_value (v:=.bool true) (w':=v12) rfl (by kernel_rfl) (by go_simp;try rfl) ?_);refine ⟨.inr (.inr HS.o),?_⟩;go_simp;refine heldTz.one (i:=45) (by kernel_rfl) (op_value (v:=.bool true) (w':=v12) rfl (by kernel_rfl) (by go_simp;try rfl) ?_);refine ⟨.inr (.inr HS.o),?_⟩;go_simp;refine heldTz.one (i:=46) (by kernel_rfl) (op_value (v:=.bool true) (w':=v12) rfl (by kernel_rfl) (by go_simp;try rfl) ?_);refine ⟨.inr (.inr HS.o),?_⟩;go_simp;refine heldTz.takeD 47 [50,51,52,53] rfl (v:=?_) (Or.inl ⟨by rfl,?_⟩) HS.o ?_;rotate_left;· intro W hW;obtain ⟨al,a0,a1,a2,a3,a4⟩:=HKC.o;have a0:=keepc a0 hW;have a1:=keepc a1 hW;have a2:=keepc a2 hW;have a3:=keepc a3 hW;have a4:=keepc a4 hW;have al:=aL al hW.size;go_simp;try with_reducible rfl
 go_simp;refine heldTz.takeD 48 [49,50,51,52,53] rfl (v:=?_) (Or.inl ⟨by rfl,?_⟩) HS.o ?_;rotate_left;· intro W hW;obtain ⟨al,a0,a1,a2,a3,a4⟩:=HKC.o;have a0:=keepc a0 hW;have a1:=keepc a1 hW;have a2:=keepc a2 hW;have a3:=keepc a3 hW;have a4:=keepc a4 hW;have al:=aL al hW.size;go_simp;try with_reducible rfl
 go_simp;refine heldTz.one (i:=49) (by kernel_rfl) (op_call (f:=9) (vs:=#[.agg #[.slice c.mo nmsc c.mc,.slice c.no 7 c.nc,.slice c.ho nhc c.hc,.slice c.wo nwc c.wc,.int .i64 stc]]) rfl (by kernel_rfl) (by go_simp) ((HNc.o c v12 (HGc.o.below HS.o)).mono ?_));rintro e v13 ⟨qc,he,⟨V,hV1,hV2⟩,-,hb⟩;have HNY:=aH (NxM.row hV1 hV2);refine ⟨_,he,.inr (.inr (HS.o.trans (hb.mono HS.o.size))),?_⟩;have HS:=aH (HS.o.trans (hb.mono HS.o.size));clear hb hV1 hV2;go_simp;have HYQ:=aH (HYc.o c (some ⟨qc,0,none⟩) 7 v13 (HGc.o.below HS.o) HNY.o);rw [i_cy] at HYQ;refine heldTz.one (i:=50) (by kernel_rfl) (op_call (f:=13) (vs:=#[.agg #[.slice c.mo nmsc c.mc,.slice c.no 7 c.nc,.slice c.ho nhc c.hc,.slice c.wo nwc c.wc,.int .i64 stc],.slice (some ⟨qc,0,none⟩) 7 7]) rfl (by kernel_rfl) (by go_simp) ((HYQ.o).mono ?_));rintro e v14 ⟨he,hb⟩;refine ⟨_,he,.inr (.inr (HS.o.trans (hb.mono HS.o.size))),?_⟩;have HS:=aH (HS.o.trans (hb.mono HS.o.size));clear hb;go_simp;refine heldTz.one (i:=51) (by kernel_rfl) (op_value (v:=.bool true) (w':=v14) rfl (by kernel_rfl) (by go_simp;try rfl) ?_);refine ⟨.inr (.inr HS.o),?_⟩;go_simp;refine heldTz.one (i:=52) (by kernel_rfl) (op_value (v:=.bool true) (w':=v14) rfl (by kernel_rfl) (by go_simp;try rfl) ?_);refine ⟨.inr (.inr HS.o),?_⟩;go_simp;refine heldTz.one (i:=53) (by kernel_rfl) (op_value (v:=.bool true) (w':=v14) rfl (by kernel_rfl) (by go_simp;try rfl) ?_);refine ⟨.inr (.inr HS.o),?_⟩;go_simp;refine heldTz.done (by kernel_rfl) ?_ _;have HE:=aH (HBA.o.trans (HS.o.mono HBA.o.size));go_simp;try go_wp2
 go_ret;exact ⟨rfl,HE.o⟩
inductive Rea (C:Nx):Nat->Nat->Prop
 | one {i j:Nat}:(j:Int) ∈ C i->Rea C i j
 | more {i j k:Nat}:Rea C i j->(k:Int) ∈ C j->Rea C i k
theorem Rea.head {C:Nx} {i j k:Nat} (h:(j:Int) ∈ C i) (hr:Rea C j k):Rea C i k:=by
 induction hr with
 | one h2=>exact (Rea.one h).more h2
 | more _ h2 ih=>exact ih.more h2
theorem rcK_none {to1:Int}:∀ (L:List Int) (s:Rcs),rcK to1 L s=none->to1 ∈ L
 | [],s,h=>by cases h
 | k :: r,s,h=>by
  unfold rcK at h;split at h
  · next e=>exact e ▸ List.mem_cons_self
  split at h
  · exact List.mem_cons_of_mem _ (rcK_none r _ h)
  · exact List.mem_cons_of_mem _ (rcK_none r _ h)
theorem rcK_some {to1:Int} {N:Nat}:∀ (L:List Int) (M:Nat->Bool) (W:List Int) (s':Rcs),(∀ y ∈ L,0<=y/\y < (N:Int))->rcK to1 L (M,W)=some s' →
  (∀ m,M m=true->s'.1 m=true)/\(∀ y ∈ W,y ∈ s'.2)/\(∀ y ∈ s'.2,y ∈ W\/y ∈ L)/\(∀ k ∈ L,k ≠ to1/\s'.1 k.toNat=true)/\(∀ m,s'.1 m=true->M m=true\/(m:Int) ∈ s'.2)/\lackB s'.1 N + s'.2.length<=lackB M N + W.length
 | [],M,W,s',hL,h=>by have h:some (M,W)=some s':=h;injection h with h;subst h;exact ⟨fun _ h=>h,fun _ h=>h,fun _ h=>.inl h,(fun k hk=>by cases hk),fun _ h=>.inl h,Nat.le_refl _⟩
 | k :: r,M,W,s',hL,h=>by
  unfold rcK at h;have hk:=hL k List.mem_cons_self;have hr:∀ y ∈ r,0<=y/\y < (N:Int):=fun y hy=>hL y (List.mem_cons_of_mem _ hy);split at h
  · cases h
  next hne =>
  split at h
  ·
   next hm =>
   obtain ⟨h1,h2,h3,h4,h5,h6⟩:=rcK_some r M W s' hr h;refine ⟨h1,h2,fun y hy=>(h3 y hy).imp id (List.mem_cons_of_mem _),fun y hy=>?_,h5,h6⟩;rcases List.mem_cons.1 hy with rfl | hy
   · exact ⟨hne,h1 _ hm⟩
   · exact h4 y hy
  ·
   next hm =>
   have hm:M k.toNat=false:=Bool.eq_false_iff.2 hm;have e:((k.toNat:Nat):Int)=k:=(by omega);obtain ⟨h1,h2,h3,h4,h5,h6⟩:=rcK_some r (setB M k.toNat) (W ++ [k]) s' hr h;have hs:∀ m,M m=true->setB M k.toNat m=true:=fun m hm=>(by unfold setB;split <;> simp [hm]);refine ⟨fun m hm=>h1 m (hs m hm),fun y hy=>h2 y (List.mem_append.2 (.inl hy)),fun y hy=>?_,fun y hy=>?_,fun m hm2=>?_,?_⟩
   ·
    rcases h3 y hy with h | h
    ·
     rcases List.mem_append.1 h with h | h
     · exact .inl h
     · exact .inr (List.mem_singleton.1 h ▸ List.mem_cons_self)
    · exact .inr (List.mem_cons_of_mem _ h)
   ·
    rcases List.mem_cons.1 hy with rfl | hy
    · exact ⟨hne,h1 _ (by unfold setB;rw [if_pos rfl])⟩
    · exact h4 y hy
   ·
    rcases h5 m hm2 with h | h
    ·
     unfold setB at h;split at h
     · next e2=>exact .inr (h2 _ (List.mem_append.2 (.inr (List.mem_singleton.2 (by rw [e2,e])))))
     · exact .inl h
    · exact .inr h
   · have:=lackB_mark (N:=N) (show k.toNat < N from by omega) hm;rw [List.length_append] at h6;have:[k].length=1:=rfl;omega
theorem rcF_sound {CL:Nx} {N b:Nat} (hC:∀ n,n < N->∀ y ∈ CL n,0<=y/\y < (N:Int)):∀ (f:Nat) (M:Nat->Bool) (W:List Int),(∀ y ∈ W,0<=y/\y < (N:Int))->rcF CL (b:Int) f (M,W)=true->∃ y:Nat,(y:Int) ∈ W/\Rea CL y b
 | 0,M,W,hW,h=>by cases h
 | f + 1,M,W,hW,h=>by
  unfold rcF at h;by_cases hn:W=[]
  · rw [if_pos hn] at h;cases h
  ·
   rw [if_neg hn] at h;obtain ⟨L0,z,e,e1,e2⟩:=snoc_last W hn;have hz:=hW z (e ▸ List.mem_append.2 (.inr (List.mem_singleton.2 rfl)));have hzm:((z.toNat:Nat):Int) ∈ W:=(by rw [show ((z.toNat:Nat):Int)=z from by omega,e];simp);simp only [e1,e2] at h;have hCz:=hC z.toNat (by omega)
   cases hk:rcK (b:Int) (CL z.toNat) (M,L0) with
   | none=>exact ⟨z.toNat,hzm,.one (rcK_none _ _ hk)⟩
   | some s' =>
    rw [hk] at h;obtain ⟨h1,h2,h3,h4,h5,h6⟩:=rcK_some (N:=N) _ _ _ _ hCz hk;have hr:∀ y ∈ s'.2,0<=y/\y < (N:Int):=fun y hy=>by
     rcases h3 y hy with h | h
     · exact hW y (e ▸ List.mem_append.2 (.inl h))
     · exact hCz y h
    obtain ⟨y,hy,hR⟩:=rcF_sound hC f s'.1 s'.2 hr h;rcases h3 _ hy with h | h
    · exact ⟨y,e ▸ List.mem_append.2 (.inl h),hR⟩
    · exact ⟨z.toNat,hzm,.head h hR⟩
theorem rcF_full {CL:Nx} {N a:Nat} {to1:Int} (hC:∀ n,n < N->∀ y ∈ CL n,0<=y/\y < (N:Int)):∀ (f:Nat) (M:Nat->Bool) (W:List Int),(∀ y ∈ W,0<=y/\y < (N:Int))->lackB M N + W.length<=f →
  (∀ m,m=a\/M m=true->(m:Int) ∈ W\/∀ k ∈ CL m,k ≠ to1/\M k.toNat=true)->rcF CL to1 f (M,W)=false->∃ M':Nat->Bool,∀ m,m=a\/M' m=true->∀ k ∈ CL m,k ≠ to1/\M' k.toNat=true
 | 0,M,W,hW,hf,hI,h=>⟨M,fun m hm=>by
   rcases hI m hm with h | h
   · have:W=[]:=List.eq_nil_of_length_eq_zero (by omega);rw [this] at h;cases h
   · exact h⟩
 | f + 1,M,W,hW,hf,hI,h=>by
  by_cases hn:W=[]
  ·
   exact ⟨M,fun m hm=>by
    rcases hI m hm with h | h
    · rw [hn] at h;cases h
    · exact h⟩
  ·
   unfold rcF at h;rw [if_neg hn] at h;obtain ⟨L0,z,e,e1,e2⟩:=snoc_last W hn;have hz:=hW z (e ▸ List.mem_append.2 (.inr (List.mem_singleton.2 rfl)));simp only [e1,e2] at h;have hCz:=hC z.toNat (by omega)
   cases hk:rcK to1 (CL z.toNat) (M,L0) with
   | none=>rw [hk] at h;cases h
   | some s' =>
    rw [hk] at h;obtain ⟨h1,h2,h3,h4,h5,h6⟩:=rcK_some (N:=N) _ _ _ _ hCz hk;have hr:∀ y ∈ s'.2,0<=y/\y < (N:Int):=fun y hy=>by
     rcases h3 y hy with h | h
     · exact hW y (e ▸ List.mem_append.2 (.inl h))
     · exact hCz y h
    refine rcF_full hC f s'.1 s'.2 hr ?_ (fun m hm=>?_) h
    · rw [e,List.length_append] at hf;have:[z].length=1:=rfl;omega
    ·
     have hold:(m:Int) ∈ W\/(∀ k ∈ CL m,k ≠ to1/\M k.toNat=true)\/(m:Int) ∈ s'.2:=by
      rcases hm with hm | hm
      ·
       rcases hI m (.inl hm) with h | h
       · exact .inl h
       · exact .inr (.inl h)
      ·
       rcases h5 m hm with h | h
       ·
        rcases hI m (.inr h) with h | h
        · exact .inl h
        · exact .inr (.inl h)
       · exact .inr (.inr h)
     rcases hold with h | h | h
     ·
      rw [e] at h;rcases List.mem_append.1 h with h | h
      · exact .inl (h2 _ h)
      · have h:=List.mem_singleton.1 h;refine .inr (fun k hk=>?_);have em:m=z.toNat:=(by omega);rw [em] at hk;exact h4 k hk
     · exact .inr (fun k hk=>⟨(h k hk).1,h1 _ (h k hk).2⟩)
     · exact .inl h
theorem rchB_iff {CL:Nx} {N a b:Nat} (hC:∀ n,n < N->∀ y ∈ CL n,0<=y/\y < (N:Int)) (ha:a < N):rchB CL N a b=true ↔ Rea CL a b:=by
 have hW:∀ y ∈ [(a:Int)],0<=y/\y < (N:Int):=fun y hy=>by rw [List.mem_singleton.1 hy];omega
 constructor
 ·
  intro h;obtain ⟨y,hy,hR⟩:=rcF_sound hC (N + 1) _ _ hW h;have:y=a:=by have:=List.mem_singleton.1 hy;omega
  exact this ▸ hR
 ·
  intro hR
  cases hb:rchB CL N a b with
  | true=>rfl
  | false =>
   obtain ⟨M',hM⟩:=rcF_full (a:=a) hC (N + 1) _ _ hW (by have:=lackB_le (fun _=>false) N;have:[(a:Int)].length=1:=rfl;omega) (fun m hm=>.inl (by
    rcases hm with rfl | hm
    · exact List.mem_singleton.2 rfl
    · cases hm)) hb
   have:∀ {c:Nat},Rea CL a c->(c:Int) ≠ (b:Int)/\M' c=true:=by
    intro c hR
    induction hR with
    | one h=>have:=hM a (.inl rfl) _ h;rwa [Int.toNat_natCast] at this
    | more _ h ih=>have:=hM _ (.inr ih.2) _ h;rwa [Int.toNat_natCast] at this
   exact absurd rfl (this hR).1
theorem cycF_neg {CL:Nx} {N:Nat}:∀ c n,cycF CL N c n < 0 ↔ ∀ m,n<=m->m < n + c->rchB CL N m m=false
 | 0,n=>⟨fun _ m h1 h2=>by omega,fun _=>by show (-1:Int) < 0;decide⟩
 | c + 1,n=>by
  unfold cycF;split
  · next h=>exact ⟨fun h2=>by omega,fun h2=>by rw [h2 n (Nat.le_refl _) (by omega)] at h;cases h⟩
  ·
   next h =>
   rw [cycF_neg c (n + 1)];refine ⟨fun h2 m h3 h4=>?_,fun h2 m h3 h4=>h2 m (by omega) (by omega)⟩;by_cases e:m=n
   · rw [e];exact Bool.eq_false_iff.2 h
   · exact h2 m (by omega) (by omega)
theorem cycI_neg {CL:Nx} {N:Nat} (hC:∀ n,n < N->∀ y ∈ CL n,0<=y/\y < (N:Int)):cycI CL N < 0 ↔ ∀ m,m < N->¬ Rea CL m m:=by
 unfold cycI;rw [cycF_neg];constructor
 ·
  intro h m hm hR;have h1:=h m (Nat.zero_le _) (by omega);rw [(rchB_iff hC hm).2 hR] at h1
  cases h1
 ·
  intro h m _ hm
  cases hb:rchB CL N m m with
  | false=>rfl
  | true=>exact absurd ((rchB_iff hC (by omega)).1 hb) (h m (by omega))
structure OrdI (CL:Nx) (N:Nat) (D:Nat->Bool) (cnt:Nat):Prop where
 rk:∃ r:Nat->Nat,∀ i,D i=true->r i < cnt/\∀ k ∈ CL i,D k.toNat=true/\r k.toNat < r i
 num:cnt + lackB D N=N
theorem OrdI.zero (CL:Nx) (N:Nat):OrdI CL N (fun _=>false) 0:=by
 refine ⟨⟨fun _=>0,fun i h=>by cases h⟩,?_⟩;have:∀ n,lackB (fun _=>false) n=n:=fun n=>by
  induction n with
  | zero=>rfl
  | succ n ih=>unfold lackB;rw [ih];rfl
 rw [this];omega
theorem OrdI.put {CL:Nx} {N:Nat} {D:Nat->Bool} {cnt i:Nat} (h:OrdI CL N D cnt) (hi:i < N) (hd:D i=false) (hall:∀ k ∈ CL i,D k.toNat=true):OrdI CL N (setB D i) (cnt + 1):=by
 obtain ⟨⟨r,hr⟩,hn⟩:=h;have ne:∀ j,D j=true->j ≠ i:=fun j hj e=>by rw [e,hd] at hj;cases hj
 refine ⟨⟨fun j=>if j=i then cnt else r j,fun j hj=>?_⟩,?_⟩
 ·
  by_cases e:j=i
  · subst e;refine ⟨by simp,fun k hk=>?_⟩;have h1:=hall k hk;have h2:=ne _ h1;refine ⟨by unfold setB;rw [if_neg h2];exact h1,?_⟩;simp only [if_neg h2,if_true];exact (hr _ h1).1
  · have hj:D j=true:=(by unfold setB at hj;rwa [if_neg e] at hj);obtain ⟨h1,h2⟩:=hr j hj;refine ⟨by simp only [if_neg e];omega,fun k hk=>?_⟩;obtain ⟨h3,h4⟩:=h2 k hk;have h5:=ne _ h3;exact ⟨by unfold setB;rw [if_neg h5];exact h3,by simp only [if_neg e,if_neg h5];exact h4⟩
 · have:=lackB_set D i hd N;rw [if_pos hi] at this;have:=lackB_one D i hd N hi;omega
theorem lackB_some {D:Nat->Bool}:∀ N,0 < lackB D N->∃ i,i < N/\D i=false
 | 0,h=>by simp [lackB] at h
 | N + 1,h=>by
  cases hd:D N with
  | false=>exact ⟨N,Nat.lt_succ_self _,hd⟩
  | true =>
   unfold lackB at h;rw [hd,if_pos rfl] at h;obtain ⟨i,hi,h2⟩:=lackB_some N h;exact ⟨i,by omega,h2⟩
theorem pigeon {g:Nat->Nat} {N:Nat} (hg:∀ n,g n < N):∃ a b,a < b/\g a=g b:=by
 by_cases h:∃ a b,a < b/\g a=g b
 · exact h
 ·
  exfalso;have hnd:((List.range (N + 1)).map g).Nodup:=by refine List.pairwise_map.2 ((List.pairwise_lt_range (n:=N + 1)).imp ?_);intro a b hab e;exact h ⟨a,b,hab,e⟩
  have h1:=hnd.length_le_of_subset (l₂:=List.range N) (fun x hx=>by
   obtain ⟨n,-,e⟩:=List.mem_map.1 hx
   exact List.mem_range.2 (e ▸ hg n))
  rw [List.length_map,List.length_range,List.length_range] at h1;omega
theorem OrdI.all {CL:Nx} {N:Nat} {D:Nat->Bool} {cnt:Nat} (hC:∀ n,n < N->∀ y ∈ CL n,0<=y/\y < (N:Int)) (h:OrdI CL N D cnt) (hend:∀ i,i < N->D i=false->∃ k ∈ CL i,D k.toNat=false):cnt=N ↔ cycI CL N < 0:=by
 rw [cycI_neg hC];obtain ⟨⟨r,hr⟩,hn⟩:=h;constructor
 ·
  intro hc m hm hR;have hD:∀ i,i < N->D i=true:=fun i hi=>by
   cases hd:D i with
   | true=>rfl
   | false=>have:=lackB_one D i hd N hi;omega
  have:∀ {c:Nat},Rea CL m c->D c=true/\r c < r m:=by
   intro c hR
   induction hR with
   | one h=>have:=(hr m (hD m hm)).2 _ h;rwa [Int.toNat_natCast] at this
   | more _ h ih=>have:=(hr _ ih.1).2 _ h;rw [Int.toNat_natCast] at this;exact ⟨this.1,by omega⟩
  exact absurd (this hR).2 (Nat.lt_irrefl _)
 ·
  intro hno;by_cases hc:cnt=N
  · exact hc
  ·
   exfalso;obtain ⟨i0,hi0,hd0⟩:=lackB_some (D:=D) N (by omega);have hex:∀ i:{i:Nat // i < N/\D i=false},∃ j:{j:Nat // j < N/\D j=false},(j.1:Int) ∈ CL i.1:=fun i=>by obtain ⟨k,hk,hd⟩:=hend i.1 i.2.1 i.2.2;have:=hC i.1 i.2.1 k hk;exact ⟨⟨k.toNat,by omega,hd⟩,by rw [show ((k.toNat:Nat):Int)=k from by omega];exact hk⟩
   let nx:{i:Nat // i < N/\D i=false}->{i:Nat // i < N/\D i=false}:=fun i=>Classical.choose (hex i)
   have hnx:∀ i,((nx i).1:Int) ∈ CL i.1:=fun i=>Classical.choose_spec (hex i)
   let it:Nat->{i:Nat // i < N/\D i=false}:=fun n=>Nat.rec ⟨i0,hi0,hd0⟩ (fun _ i=>nx i) n
   have hit:∀ n,((it (n + 1)).1:Int) ∈ CL (it n).1:=fun n=>hnx (it n);have hre:∀ a d,Rea CL (it a).1 (it (a + d + 1)).1:=fun a d=>by
    induction d with
    | zero=>exact .one (hit a)
    | succ d ih=>exact ih.more (hit (a + d + 1))
   obtain ⟨a,b,hab,e⟩:=pigeon (g:=fun n=>(it n).1) (fun n=>(it n).2.1);have h1:=hre a (b - a - 1);rw [show a + (b - a - 1) + 1=b from by omega] at h1;have e:(it a).1=(it b).1:=e;rw [<- e] at h1;exact hno _ (it a).2.1 h1
theorem calI_nat {gr:Gj} {T:Nx} {nl n:Nat} (h:n < gr.ns.length):calI gr T nl (n:Int)=calL gr T nl n:=by unfold calI;rw [if_pos ⟨by omega,by omega⟩,Int.toNat_natCast]
theorem ord16_walk (l:List ByteArray) (ao:Option Addr) (cap:Nat) (s:ByteArray) (w:World) (hl:HasN w ao l):Calls Try.prog 4 #[.slice ao l.length cap,.string s] w fun e w'=>e=.returned (.bool true)/\Below w.heap.size w w':=by
 have HJD:=aH (joined16_any l ao cap s w hl);obtain ⟨R,hR⟩:∃ R,jndO l s=R:=⟨_,rfl⟩;have HR:=aH hR;rw [hR] at HJD;obtain ⟨nl,hnl⟩:∃ n,l.length=n:=⟨_,rfl⟩;rw [hnl] at HJD;rw [hnl];clear hl hR hnl;go_enter Try.func4,Try.ntmps4;go_wp2_with fail;refine HJD.o.mono ?_;rintro e w2 ⟨hE,hb2⟩;have HB2:=aH hb2;clear hb2 HJD
 cases R with
 | none =>
  have hE':e=.returned (.tuple #[.agg #[.slice none 0 0,.slice none 0 0,.slice none 0 0,.slice none 0 0,.int .i64 0],.bool false]):=hE;subst hE';have hbl:Below w2.heap.size w2 (w2.alloc (.cells #[.slice none 0 0,.slice none 0 0,.slice none 0 0,.slice none 0 0,.int .i64 0] 27)):=bA _;have HB3:=aH (HB2.o.trans (hbl.mono HB2.o.size));clear hbl hE;go_upto_region 2 with fail;generalize w2.alloc (.cells #[.slice none 0 0,.slice none 0 0,.slice none 0 0,.slice none 0 0,.int .i64 0] 27)=w3 at *;have HAW:=aH (awake16_any w3);go_wp2_with fail;refine HAW.o.mono ?_;rintro e w4 ⟨he,hb4⟩;subst he;have HB4:=aH (HB3.o.trans (hb4.mono HB3.o.size));clear hb4;go_wp2;go_ret;exact ⟨rfl,HB4.o⟩
 | some gr =>
  obtain ⟨a,he,hG⟩:∃ a,e=.returned (.tuple #[grv gr a,.bool true])/\HasG w2 gr a:=hE;subst he;have hg:Good gr:=jnd_good HR.o;have HGD:=aH hg;have har:=jnd_ar HR.o;have HAR:=aH har;have htr:=jnd_tr HR.o;have HTR:=aH htr;have HEN:=aH (nextG_end hg har);have hbl:Below w2.heap.size w2 (w2.alloc (.cells #[.slice a.mo gr.ms.length a.mc,.slice a.no gr.ns.length a.nc,.slice a.ho gr.hs.length a.hc,.slice a.wo gr.ws.length a.wc,.int .i64 gr.st] 27)):=bA _;have HB3:=aH (HB2.o.trans (hbl.mono HB2.o.size));have HG3:=aH (hG.below hbl);have HO3:=aH (Own.fresh w2 27 [.slice a.mo gr.ms.length a.mc,.slice a.no gr.ns.length a.nc,.slice a.ho gr.hs.length a.hc,.slice a.wo gr.ws.length a.wc,.int .i64 gr.st]);have hwa:=jnd_wa HR.o;have HN:=aH (fun W (h:HasG W gr a)=>rshore_any gr a hg har W h)
  have HCL:=aH (fun (n:Nat) (hn:n < gr.ns.length) no nc W (h:HasG W gr a) (h2:NxM W no gr.ns.length (nextG gr))=>show Calls Try.prog 11 #[grv gr a,.slice no gr.ns.length nc,.int .i64 (n:Int)] W (fun e w'=>∃ v,e=.returned v/\IntsAt w' W.heap.size v (calL gr (nextG gr) gr.ns.length n)/\Below W.heap.size W w') from by
   rw [<- calI_nat (T:=nextG gr) (nl:=gr.ns.length) hn]
   exact calls_any gr a hg hwa (n:Int) (nextG gr) gr.ns.length no nc (fun k _=>next_ok hg har k) W h h2)
  have HLL:=aH (fun (n:Nat)=>(calL_rg (T:=nextG gr) (nl:=gr.ns.length) hg hwa (fun k _=>(next_ok hg har k).1) n).len);unfold RxE at HN;unfold grv;have HCY:=aH (fun no nc W (h:HasG W gr a) (h2:NxM W no gr.ns.length (nextG gr))=>cycle_any gr a hg hwa (nextG gr) gr.ns.length no nc (fun k _=>next_ok hg har k) W h h2);have HRG:=aH (show ∀ n,n < gr.ns.length->∀ y ∈ calL gr (nextG gr) gr.ns.length n,0<=y/\y < (gr.ns.length:Int) from fun n _=>(calL_rg (T:=nextG gr) (nl:=gr.ns.length) hg hwa (fun k _=>(next_ok hg har k).1) n).2);unfold grv at HN HCL HCY;have hn160:=hg.len;obtain ⟨nn,hnn⟩:∃ z,gr.ns.length=z:=⟨_,rfl⟩;obtain ⟨nh,hnh⟩:∃ z,gr.hs.length=z:=⟨_,rfl⟩;obtain ⟨nms,hnms⟩:∃ z,gr.ms.length=z:=⟨_,rfl⟩;obtain ⟨nw,hnw⟩:∃ z,gr.ws.length=z:=⟨_,rfl⟩;have HNN:=aH (And.intro hnn hnh);simp only [hnn,hnh,hnms,hnw] at HB3 HG3 HO3 HN HCL HCY HLL HRG hbl;rw [hnn] at hn160;rw [hnn,hnh,hnms,hnw];obtain ⟨CL,hCL⟩:∃ z,calL gr (nextG gr) nn=z:=⟨_,rfl⟩;simp only [hCL] at HCL HCY HLL HRG;clear hCL hnn hnh hnms hnw hG hg hbl har htr hwa HTR HEN;go_upto_region 2 with fail;obtain ⟨B,hB⟩:∃ B,w2.heap.size=B:=⟨_,rfl⟩;rw [hB] at HO3;generalize w2.alloc (.cells #[.slice a.mo nms a.mc,.slice a.no nn a.nc,.slice a.ho nh a.hc,.slice a.wo nw a.wc,.int .i64 gr.st] 27)=w3 at *;try rw [hB]
  clear hB HB2
  have HC:=aH (show ∀ W,Below w3.heap.size w3 W->W.cell? ⟨B,0,none⟩=some (.slice a.mo nms a.mc)/\W.cell? ⟨B,1,none⟩=some (.slice a.no nn a.nc)/\W.cell? ⟨B,2,none⟩=some (.slice a.ho nh a.hc)/\W.cell? ⟨B,3,none⟩=some (.slice a.wo nw a.wc)/\W.cell? ⟨B,4,none⟩=some (.int .i64 gr.st)/\B < W.heap.size from fun W h=>by
   have q:=HO3.o.under h HO3.o.lt
   exact ⟨q.cell 0,q.cell 1,q.cell 2,q.cell 3,q.cell 4,q.lt⟩)
  obtain ⟨g0,g1,g2,g3,g4,gl⟩:=HC.o w3 (Below.refl _ _);go_wp2_with fail;refine (HN.o w3 HG3.o).mono ?_;rintro e w5 ⟨q,rfl,⟨V,hV1,hV2⟩,hgs,hb5⟩;have HV1:=aH hV1;have HV2:=aH hV2;have HB5:=aH hb5;clear hV1 hV2 hgs hb5 HN g0 g1 g2 g3 g4 gl;have HNX:=aH (NxM.row HV1.o HV2.o);have HC5:=aH (fun W (h:Below w5.heap.size w5 W)=>HC.o W (HB5.o.trans (h.mono HB5.o.size)));have HG5:=aH (fun W (h:Below w5.heap.size w5 W)=>HG3.o.below (HB5.o.trans (h.mono HB5.o.size)));have hmk:∀ W:World,(Instr.makeSlice 37 (.int .i64 (nn:Int)) (.int .i64 (nn:Int))).run Try.prog W=.ok (.slice (some ⟨W.heap.size,0,none⟩) nn nn) (W.alloc (.cells (Array.replicate nn (Value.bool false)) 4)):=fun W=>run_boolsE nn (by omega) W;obtain ⟨B8,hB8⟩:∃ z,w5.heap.size=z:=⟨_,rfl⟩;have HBE:=aH hB8;have hb6:Below w5.heap.size w5 (w5.alloc (.cells (Array.replicate nn (Value.bool false)) 4)):=bA _;have ho6:Own (w5.alloc (.cells (Array.replicate nn (Value.bool false)) 4)) B8 4 (rowB (fun _=>false) nn):=by have e:rowB (fun _=>false) nn=List.replicate nn (Value.bool false):=(by unfold rowB;rw [List.map_const',List.length_range]);rw [e,<- hB8,<- List.toArray_replicate];exact Own.fresh w5 4 _
  have HB6:=aH hb6;have HO6:=aH ho6;clear hb6 ho6 HV1 HV2;obtain ⟨k0,k1,k2,k3,k4,kl⟩:=HC5.o w5 (Below.refl _ _);go_upto_region 6 with fail;clear hmk k0 k1 k2 k3 k4 kl;try rw [hB8]
  generalize w5.alloc (.cells (Array.replicate nn (Value.bool false)) 4)=w6 at *;clear hB8;go_wp2_with fail
  go_loopg [9,10] (2 * nn + 1) (fun f v9 v10 wr=>∃ (D:Nat->Bool) (c:Nat) (mo:Bool),v9=.int .i64 (c:Int)/\v10=.bool mo/\aQ (OrdI CL nn D c)/\aQ (mo=false->∀ i,i < nn->D i=false->∃ k ∈ CL i,D k.toNat=false)/\aQ ((if mo=true then 1 else 0) + 2 * (nn - c)<=f)/\aQ (Own wr B8 4 (rowB D nn))/\aQ (Below w5.heap.size w5 wr))
  case atStart=>exact ⟨fun _=>false,0,true,rfl,rfl,aH (OrdI.zero _ _),aH (fun h=>by cases h),aH (by rw [if_pos rfl];omega),HO6,HB6⟩
  case round =>
   obtain ⟨D,c,mo,rfl,rfl,HO,HE,HF,HD,HB⟩:=hrel;obtain ⟨wo,hwo⟩:∃ z,z=wr:=⟨_,rfl⟩;subst hwo;have hcn:c<=nn:=by have:=HO.o.num;omega
   cases mo with
   | false =>
    have HAW:=aH (awake16_any wo);have HEQ:=aH (HO.o.all HRG.o (HE.o rfl));go_wp2_with fail;refine HAW.o.mono ?_;rintro e w8 ⟨he,hb8⟩;subst he;have HB8:=aH (HB.o.trans (hb8.mono HB.o.size));have HYC:=aH (HCY.o (some ⟨q,0,none⟩) nn w8 (HG5.o w8 HB8.o) (HNX.o.below HB8.o));obtain ⟨cy,hcy⟩:∃ z,cycI CL nn=z:=⟨_,rfl⟩;rw [hcy] at HYC HEQ;obtain ⟨k0,k1,k2,k3,k4,kl⟩:=HC5.o w8 HB8.o;clear hb8 HAW hcy HO HE HF HD;by_cases hc:c=nn
    · have hy1:decide (cy < 0)=true:=aT (HEQ.o.1 hc);have hc1:((c:Int) == (nn:Int))=true:=beq_iff_eq.2 (by omega);have hc2:decide ((c:Int)=(nn:Int))=true:=aT (by omega);have hc3:decide (c=nn)=true:=aT hc;have hc4:(c == nn)=true:=beq_iff_eq.2 hc;clear hc;go_wp2_with fail;refine HYC.o.mono ?_;rintro e w9 ⟨he,hb9⟩;subst he;have HBZ:=aH (HB3.o.trans ((HB5.o.trans ((HB8.o.trans (hb9.mono HB8.o.size)).mono HB5.o.size)).mono HB3.o.size));clear hb9;go_wp2;go_ret;exact ⟨rfl,HBZ.o⟩
    · have hy1:decide (cy < 0)=false:=aF (fun h=>hc (HEQ.o.2 h));have hc1:((c:Int) == (nn:Int))=false:=aN.2 (by omega);have hc2:decide ((c:Int)=(nn:Int))=false:=aF (by omega);have hc3:decide (c=nn)=false:=aF hc;have hc4:(c == nn)=false:=aN.2 hc;clear hc;go_wp2_with fail;refine HYC.o.mono ?_;rintro e w9 ⟨he,hb9⟩;subst he;have HBZ:=aH (HB3.o.trans ((HB5.o.trans ((HB8.o.trans (hb9.mono HB8.o.size)).mono HB5.o.size)).mono HB3.o.size));clear hb9;go_wp2;go_ret;exact ⟨rfl,HBZ.o⟩
   | true =>
    have HF1:=aH (show 1 + 2 * (nn - c)<=gk from by have h:=HF.o;rw [if_pos rfl] at h;exact h);clear HE HF;go_wp2_with fail
    go_loopw [9,10,11] (fun v9 v10 v11 wr=>∃ (D1:Nat->Bool) (c1:Nat) (m1:Bool) (i:Nat),v9=.int .i64 (c1:Int)/\v10=.bool m1/\v11=.int .i64 (i:Int)/\(i:Int)<=nn/\aQ (OrdI CL nn D1 c1)/\aQ (m1=false->∀ j,j < i->D1 j=false->∃ k ∈ CL j,D1 k.toNat=false)/\aQ (c<=c1/\(m1=true->c < c1))/\aQ (Own wr B8 4 (rowB D1 nn))/\aQ (Below w5.heap.size w5 wr)) (fun _ _ v11 _=>nn - (intOf v11).toNat)
    case atStart=>exact ⟨D,c,false,0,rfl,rfl,rfl,by omega,HO,aH (fun _ j hj=>absurd hj (Nat.not_lt_zero _)),aH ⟨Nat.le_refl _,fun h=>by cases h⟩,HD,HB⟩
    case round =>
     obtain ⟨D1,c1,m1,i,rfl,rfl,rfl,hi,HO1,HE1,HC1,HD1,HB1⟩:=hrel;obtain ⟨wp,hwp⟩:∃ z,z=wr:=⟨_,rfl⟩;subst hwp;have hc1n:c1<=nn:=(by have:=HO1.o.num;omega);clear HO HD HB;by_cases hin:(i:Int) < nn
     ·
      have hi1:decide ((i:Int) < (nn:Int))=true:=aT hin;have hi2:decide (i < nn)=true:=aT (by omega);have hiN:i < nn:=(by omega);have hw2:IntKind.i64.wrap ((i:Int) + 1)=(i:Int) + 1:=wI;have hw3:IntKind.i64.wrap ((c1:Int) + 1)=(c1:Int) + 1:=wI;have d0:wp.cell? ⟨B8,i,none⟩=some (.bool (D1 i)):=(HD1.o.cell i).trans (rowB_at D1 nn i hiN);have dl:=HD1.o.lt
      cases hdi:D1 i with
      | true =>
       rw [hdi] at d0
       have HE2:=aH (show m1=false->∀ j,j < i + 1->D1 j=false->∃ k ∈ CL j,D1 k.toNat=false from fun h j hj hd=>by
        by_cases e:j=i
        · rw [e,hdi] at hd;cases hd
        · exact HE1.o h j (by omega) hd)
       clear hdi;go_wp2
       go_roundw
       case rel=>exact ⟨D1,c1,m1,i + 1,rfl,rfl,by go_num,by omega,HO1,HE2,HC1,HD1,HB1⟩
       case measure=>simp [intOf];omega
      | false =>
       rw [hdi] at d0;have HDI:=aH hdi;obtain ⟨k0,k1,k2,k3,k4,kl⟩:=HC5.o wp HB1.o;clear hdi;go_wp2_with fail;refine (HCL.o i (by have:=HNN.o.1;omega) (some ⟨q,0,none⟩) nn wp (HG5.o wp HB1.o) (HNX.o.below HB1.o)).mono ?_;rintro e w8 ⟨vL,rfl,hI,hb8⟩;have HL5:=aH (HLL.o i);have HLR:=aH (HRG.o i hiN);obtain ⟨L,hL⟩:∃ z,CL i=z:=⟨_,rfl⟩;have HLQ:=aH hL;rw [hL] at hI HL5 HLR;have HI0:=aH hI;obtain ⟨lo,lc,rfl,-,-⟩:=hI;obtain ⟨ll,hll⟩:∃ z,L.length=z:=⟨_,rfl⟩;have HLN:=aH hll;rw [hll] at HI0 HL5;rw [hll];have HB8:=aH (HB1.o.trans (hb8.mono HB1.o.size));have HD8:=aH (HD1.o.under hb8 HD1.o.lt);have HLM:=HL5.o;clear hb8 hL hll k0 k1 k2 k3 k4 kl HB1 HD1 d0 dl;go_wp2_with fail
       go_loopw [13,14] (fun v13 v14 wr=>∃ (j:Nat) (bb:Bool),aQ (bb=(L.take j).all (fun y=>D1 y.toNat))/\v13=.bool bb/\v14=.int .i64 (j:Int)/\(j:Int)<=ll/\w8=wr) (fun _ v14 _=>ll - (intOf v14).toNat)
       case atStart=>exact ⟨0,true,aH (by simp),rfl,rfl,by omega,rfl⟩
       case round =>
        obtain ⟨j,bb,HBB,rfl,rfl,hj,hwr⟩:=hrel;subst hwr;have dl:=HD8.o.lt;by_cases hjl:(j:Int) < ll
        ·
         have hj1:decide ((j:Int) < (ll:Int))=true:=aT hjl;have hj2:decide (j < ll)=true:=aT (by omega);have hw4:IntKind.i64.wrap ((j:Int) + 1)=(j:Int) + 1:=wI;obtain ⟨y,hy⟩:∃ y,L[j]?=some y:=⟨_,aG (by have:=HLN.o;omega)⟩;have hyr:=HLR.o y (aM hy);obtain ⟨k,rfl⟩:∃ k:Nat,y=(k:Int):=⟨y.toNat,by omega⟩;have hkn:k < nn:=(by omega);have HTK:=aH (show (L.take (j + 1)).all (fun y=>D1 y.toNat)=(bb && D1 k) from by rw [HBB.o,List.take_add_one,hy,Option.toList_some,List.all_append,List.all_cons,List.all_nil,Bool.and_true,Int.toNat_natCast]);obtain ⟨g,off,hlo,hgl,l0⟩:∃ g off,lo=some ⟨g,off,none⟩/\g < w8.heap.size/\w8.cell? ⟨g,off + j,none⟩=some (.int .i64 (k:Int)):=(by obtain ⟨ao1,c1,e1,-,hf⟩:=HI0.o;injection e1 with e1 e2 e3;obtain ⟨g,off,e,h1,-,h3⟩:=hf j (by have:=HLN.o;omega);refine ⟨g,off,e1.trans e,h1,?_⟩;rw [h3,List.getD_eq_getElem?_getD,hy];rfl);subst hlo;have d1:w8.cell? ⟨B8,k,none⟩=some (.bool (D1 k)):=(HD8.o.cell k).trans (rowB_at D1 nn k hkn);obtain ⟨mb,hmb⟩:∃ z,D1 k=z:=⟨_,rfl⟩;rw [hmb] at d1 HTK;have hk1:decide ((k:Int) < 0)=false:=aF (by omega);have hk2:decide ((nn:Int)<=(k:Int))=false:=aF (by omega);have hk3:decide (nn<=k)=false:=aF (by omega);have hk4:decide ((k:Int) < (nn:Int))=true:=aT (by omega);have hk5:decide (k < nn)=true:=aT hkn;clear hy hmb hyr
         cases bb with
         | true =>
          have HT1:=aH (show mb=(L.take (j + 1)).all (fun y=>D1 y.toNat) from by rw [HTK.o];rfl);go_wp2
          go_roundw
          case rel=>exact ⟨j + 1,mb,HT1,rfl,by go_num,by omega,by first | rfl | trivial⟩
          case measure=>simp [intOf];omega
         | false =>
          have HT1:=aH (show false=(L.take (j + 1)).all (fun y=>D1 y.toNat) from by rw [HTK.o];rfl);go_wp2
          go_roundw
          case rel=>exact ⟨j + 1,false,HT1,rfl,by go_num,by omega,by first | rfl | trivial⟩
          case measure=>simp [intOf];omega
        ·
         have hj1:decide ((j:Int) < (ll:Int))=false:=aF hjl;have hj2:decide (j < ll)=false:=aF (by omega);have HBF:=aH (show bb=L.all (fun y=>D1 y.toNat) from by rw [HBB.o,List.take_of_length_le (by have:=HLN.o;omega)]);clear hjl HBB
         cases bb with
         | true =>
          have hall:∀ k ∈ CL i,D1 k.toNat=true:=(by rw [HLQ.o];exact List.all_eq_true.1 HBF.o.symm);have HO2:=aH (HO1.o.put hiN HDI.o hall);have f0:w8.frozen? ⟨B8,i,none⟩=false:=HD8.o.thaw i;have hbt:But (fun j=>j=B8) w8 (w8.setCell ⟨B8,i,none⟩ (.bool true)):=But.put w8 B8 i _;have HD9:=aH (show Own (w8.setCell ⟨B8,i,none⟩ (.bool true)) B8 4 (rowB (setB D1 i) nn) from by rw [<- rowB_set D1 nn i hiN];exact HD8.o.put i (.bool true));have HB9:=aH (HB8.o.trans (hbt.below (B:=w5.heap.size) HB8.o.size (fun j e=>by have:=HBE.o;have e:j=B8:=e;omega)));have d0:w8.cell? ⟨B8,i,none⟩=some (.bool (D1 i)):=(HD8.o.cell i).trans (rowB_at D1 nn i hiN);have HC2:=aH (show c<=c1 + 1/\((true:Bool)=true->c < c1 + 1) from ⟨by have:=HC1.o.1;omega,fun _=>by have:=HC1.o.1;omega⟩);clear hall hbt HBF;go_upto_region 24 with fail;clear f0 d0 dl;generalize w8.setCell ⟨B8,i,none⟩ (.bool true)=w9 at *;go_wp2
          go_roundw
          case rel=>exact ⟨setB D1 i,c1 + 1,true,i + 1,by go_num,rfl,by go_num,by omega,HO2,aH (fun h=>by cases h),HC2,HD9,HB9⟩
          case measure=>simp [intOf];omega
         | false =>
          have HE2:=aH (show m1=false->∀ j,j < i + 1->D1 j=false->∃ k ∈ CL j,D1 k.toNat=false from fun h j hj hd=>by
           by_cases e:j=i
           · subst e;rw [HLQ.o];obtain ⟨k,hk,hd⟩:=List.all_eq_false.1 HBF.o.symm;exact ⟨k,hk,Bool.eq_false_iff.2 hd⟩
           · exact HE1.o h j (by omega) hd)
          clear HBF;go_wp2
          go_roundw
          case rel=>exact ⟨D1,c1,m1,i + 1,rfl,rfl,by go_num,by omega,HO1,HE2,HC1,HD8,HB8⟩
          case measure=>simp [intOf];omega
     ·
      have hi1:decide ((i:Int) < (nn:Int))=false:=aF hin;have hi2:decide (i < nn)=false:=aF (by omega);have HE2:=aH (show m1=false->∀ i,i < nn->D1 i=false->∃ k ∈ CL i,D1 k.toNat=false from fun h j hj hd=>HE1.o h j (by omega) hd);obtain ⟨f,rfl⟩:∃ f,gk=f + 1:=⟨gk - 1,by have:=HF1.o;omega⟩
      have HF2:=aH (show (if m1=true then 1 else 0) + 2 * (nn - c1)<=f from by
       have h1:=HF1.o;have h2:=HC1.o;by_cases e:m1=true
       · rw [if_pos e];have:=h2.2 e;omega
       · rw [if_neg e];omega)
      clear hin;go_wp2
      go_roundg f
      case measure=>omega
      case rel=>exact ⟨D1,c1,m1,rfl,rfl,HO1,HE2,HF2,HD1,HB1⟩
end Go.Proofs.Ythddifjhoniacaa
