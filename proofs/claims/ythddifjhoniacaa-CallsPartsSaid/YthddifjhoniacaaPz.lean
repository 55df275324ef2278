import Derived.Test.YthddifjhoniacaaHv
import Derived.Test.YthddifjhoniacaaIj
import Derived.Test.YthddifjhoniacaaIk
import Derived.Test.YthddifjhoniacaaNxD
import Derived.Test.YthddifjhoniacaaCy
import Derived.Test.YthddifjhoniacaaMd
import Derived.Test.YthddifjhoniacaaGf
import Derived.Test.YthddifjhoniacaaCl
import Derived.Test.YthddifjhoniacaaGc
import Derived.Test.YthddifjhoniacaaIc
import Derived.BigQuiet
import Derived.Deep.RegionWith
import Derived.Deep.CutBlock
namespace Go.Proofs.Ythddifjhoniacaa
set_option linter.unusedVariables false
set_option maxHeartbeats 9600000
set_option maxRecDepth 1000000
open Go.RowKit Go.Sort
section
variable {P:Program} {ops:Array Oper} {Q:Exit->Act->World->Prop} {md:Region.Mode} {S:World->Prop} {z:Nat}
theorem heldTz.both {i k:Nat} {n:Nat} {l:Array Bool} {a:Act} {w:World} (hr:Region.ready md ops l=[i,k])
  (h1:wpOp P ops Q i (fun b v=>(i=z\/l.getD z true=true\/S v)/\heldTz P md ops Q S z n (l.setIfInBounds i true) b v) a w)
  (h2:wpOp P ops Q k (fun b v=>(k=z\/l.getD z true=true\/S v)/\heldTz P md ops Q S z n (l.setIfInBounds k true) b v) a w):heldTz P md ops Q S z (n + 1) l a w :=
 ⟨fun h0=>absurd (hr.symm.trans h0) (by simp),by
  rw [hr];intro j hj;simp only [List.mem_cons,List.not_mem_nil,or_false] at hj;rcases hj with rfl | rfl
  · exact h1
  · exact h2⟩
theorem heldTz.two {i k:Nat} {oi ok:Oper} {si sk:Nat} {n:Nat} {l:Array Bool} {a:Act} {w:World} {Ri Rk:Value->World->Prop}
  (ei:ops[i]?=some oi) (ek:ops[k]?=some ok) (di:oi.dst=some si) (dk:ok.dst=some sk) (hik:si ≠ sk) (hki:i ≠ k)
  (r1:Region.ready md ops l=[i,k]) (r2:Region.ready md ops (l.setIfInBounds i true)=[k]) (r3:Region.ready md ops (l.setIfInBounds k true)=[i])
  (hS:S w)
  (Hi:∀ a',(a'=a\/∃ x,a'=a.put (some sk) x)->∀ w',S w'->Onward P ops Q oi S a' w' Ri)
  (Hk:∀ a',(a'=a\/∃ q,a'=a.put (some si) q)->∀ w',S w'->Onward P ops Q ok S a' w' Rk)
  (ti:∀ q w' w'',Ri q w'->Below w'.heap.size w' w''->Ri q w'') (tk:∀ q w' w'',Rk q w'->Below w'.heap.size w' w''->Rk q w'')
  (h:∀ q x w',S w'->Ri q w'->Rk x w'->heldTz P md ops Q S z n ((l.setIfInBounds i true).setIfInBounds k true) ((a.put (some si) q).put (some sk) x) w') :
  heldTz P md ops Q S z (n + 2) l a w:=by
 refine heldTz.both r1 ?_ ?_
 · refine (Hi a (.inl rfl) w hS).at_ ei fun q w1 b1 i1 q1=>⟨.inr (.inr i1),heldTz.one r2 ?_⟩;rw [di];refine (Hk _ (.inr ⟨q,rfl⟩) w1 i1).at_ ek fun x w2 b2 i2 x2=>⟨.inr (.inr i2),?_⟩;rw [dk];exact h q x w2 i2 (ti _ _ _ q1 b2) x2
 · refine (Hk a (.inl rfl) w hS).at_ ek fun x w1 b1 i1 x1=>⟨.inr (.inr i1),heldTz.one r3 ?_⟩;rw [dk];refine (Hi _ (.inr ⟨x,rfl⟩) w1 i1).at_ ei fun q w2 b2 i2 q2=>⟨.inr (.inr i2),?_⟩;rw [di,put_swap a (Ne.symm hik),Array.setIfInBounds_comm _ _ (Ne.symm hki)];exact h q x w2 i2 q2 (tk _ _ _ x1 b2)
end
def hL:List ByteArray:=[⟨#[109,111,100,117,108,101,32,109,59,10,97,32,61,32,98,32,47,32,34,120,34,59,10,98,32,61,32,34,121,34,63,32,97,59,10]⟩]
def iL:List ByteArray:=[⟨#[109,111,100,117,108,101,32,109,59,10,97,32,61,32,126,98,126,59,10,98,32,61,32,97,32,34,120,34,32,47,32,34,121,34,59,10]⟩]
def hG:Gj:=(jndO hL ⟨#[97]⟩).getD ⟨[],[],[],[],0⟩
def iG:Gj:=(jndO iL ⟨#[97]⟩).getD ⟨[],[],[],[],0⟩
theorem mini16_jnd:jndO miniL ⟨#[109,97,105,110]⟩=some miniG:=by kernel_rfl
theorem mini16_len:miniG.ns.length=23:=by kernel_rfl
theorem h_jnd:jndO hL ⟨#[97]⟩=some hG:=by kernel_rfl
theorem i_jnd:jndO iL ⟨#[97]⟩=some iG:=by kernel_rfl
theorem hG_len:hG.ns.length=7:=by kernel_rfl
theorem iG_len:iG.ns.length=7:=by kernel_rfl
theorem mini_c9:calI miniG (nextG miniG) 23 9=[0,10,11]:=by kernel_rfl
theorem mini_c11:calI miniG (nextG miniG) 23 11=[12]:=by kernel_rfl
theorem mini_c16:calI miniG (nextG miniG) 23 16=[17,19]:=by kernel_rfl
theorem mini_c10:calI miniG (nextG miniG) 23 10=[11]:=by kernel_rfl
theorem mini_c99:calI miniG (nextG miniG) 23 99=[]:=by kernel_rfl
theorem mini_cy:cycI (calL miniG (nextG miniG) 23) 23=-1:=by kernel_rfl
theorem h_cy:cycI (calL hG (nextG hG) 7) 7=0:=by kernel_rfl
theorem i_cy:cycI (calL iG (nextG iG) 7) 7=0:=by kernel_rfl
theorem next_ok {gr:Gj} (hg:Good gr) (har:∀ x ∈ gr.ns,Ar x) (k:Nat):(∀ y ∈ nextG gr k,0<=y/\y < (gr.ns.length:Int))/\((nextG gr k).length:Int)<=1000:=by have h:=(nextG_end hg har).1;have h1:∀ y ∈ nextG gr k,0<=y/\y < (gr.ns.length:Int):=fun y hy=>(h.ok k y hy).rng;have h2:=(h.ris k).room h1;have:=hg.len;exact ⟨h1,by omega⟩
theorem one_hasN (w:World) (s:ByteArray):HasN (w.alloc (.cells #[.string s] 9)) (some ⟨w.heap.size,0,none⟩) [s] :=
 hasN_of (S:=fun b=>b=w.heap.size) (n:=1) (c:=1) (l:=[s]) ⟨rfl,.inr ⟨w.heap.size,0,1,_,rfl,rfl,Own.fresh w 9 [.string s],Nat.le_refl _,by unfold maxLen;omega,by simp,by simp⟩⟩
theorem mini16_any (w:World):Calls Try.prog 20 #[] w fun e w'=>(∃ b,e=.returned (.slice (some ⟨b,0,none⟩) 2 2)/\HasN w' (some ⟨b,0,none⟩) miniL)/\Below w.heap.size w w':=by have HO:=aH (Own.fresh w 9 (miniL.map Value.string));have HB:=aH (show Below w.heap.size w (w.alloc (.cells (miniL.map Value.string).toArray 9)) from bA _);go_enter Try.func20,Try.ntmps20;go_wp2;go_ret;refine ⟨⟨w.heap.size,rfl,?_⟩,HB.o⟩;exact hasN_of (S:=fun b=>b=w.heap.size) (n:=2) (c:=2) (l:=miniL) ⟨rfl,.inr ⟨w.heap.size,0,2,_,rfl,rfl,HO.o,Nat.le_refl _,by unfold maxLen;omega,by simp [miniL],by simp [miniL]⟩⟩
def Rl (L:List Int) (v:Value) (W:World):Prop:=∃ C,IntsAt W C v L
theorem Rl.keep {L:List Int} {v:Value} {w w':World} (h:Rl L v w) (hb:Below w.heap.size w w'):Rl L v w':=by obtain ⟨C,h⟩:=h;exact ⟨C,h.below hb⟩
theorem awake16_any (w:World):Calls Try.prog 8 #[] w fun e w'=>e=.returned (.bool true)/\Below w.heap.size w w':=by
 have HMI:=aH (mini16_any w)
 have HJA:=aH (fun (bb:Nat) W (hW:HasN W (some ⟨bb,0,none⟩) miniL)=>show Calls Try.prog 7 #[.slice (some ⟨bb,0,none⟩) 2 2,.string ⟨#[109,97,105,110]⟩] W fun e w'=>(∃ a,e=.returned (.tuple #[grv miniG a,.bool true])/\HasG w' miniG a)/\Below W.heap.size W w' from by
  have q:=joined16_any miniL (some ⟨bb,0,none⟩) 2 ⟨#[109,97,105,110]⟩ W hW;rw [mini16_jnd] at q
  exact q)
 have HJB:=aH (fun (bb:Nat) W (hW:HasN W (some ⟨bb,0,none⟩) hL)=>show Calls Try.prog 7 #[.slice (some ⟨bb,0,none⟩) 1 1,.string ⟨#[97]⟩] W fun e w'=>(∃ a,e=.returned (.tuple #[grv hG a,.bool true])/\HasG w' hG a)/\Below W.heap.size W w' from by
  have q:=joined16_any hL (some ⟨bb,0,none⟩) 1 ⟨#[97]⟩ W hW;rw [h_jnd] at q
  exact q)
 have HJC:=aH (fun (bb:Nat) W (hW:HasN W (some ⟨bb,0,none⟩) iL)=>show Calls Try.prog 7 #[.slice (some ⟨bb,0,none⟩) 1 1,.string ⟨#[97]⟩] W fun e w'=>(∃ a,e=.returned (.tuple #[grv iG a,.bool true])/\HasG w' iG a)/\Below W.heap.size W w' from by
  have q:=joined16_any iL (some ⟨bb,0,none⟩) 1 ⟨#[97]⟩ W hW;rw [i_jnd] at q
  exact q)
 have HNa:=aH (fun (a:Gv) W (h:HasG W miniG a)=>rshore_any miniG a (jnd_good mini16_jnd) (jnd_ar mini16_jnd) W h);unfold RxE at HNa;have HCa:=aH (fun (a:Gv) (n:Int) no nc W (h:HasG W miniG a) h2=>calls_any miniG a (jnd_good mini16_jnd) (jnd_wa mini16_jnd) n (nextG miniG) 23 no nc (fun k _=>next_ok (jnd_good mini16_jnd) (jnd_ar mini16_jnd) k) W h h2);unfold PuE at HCa;have HYa:=aH (fun (a:Gv) no nc W (h:HasG W miniG a) h2=>cycle_any miniG a (jnd_good mini16_jnd) (jnd_wa mini16_jnd) (nextG miniG) 23 no nc (fun k _=>next_ok (jnd_good mini16_jnd) (jnd_ar mini16_jnd) k) W h h2);have HNb:=aH (fun (b:Gv) W (h:HasG W hG b)=>rshore_any hG b (jnd_good h_jnd) (jnd_ar h_jnd) W h);unfold RxE at HNb;have HCb:=aH (fun (b:Gv) (n:Int) no nc W (h:HasG W hG b) h2=>calls_any hG b (jnd_good h_jnd) (jnd_wa h_jnd) n (nextG hG) 7 no nc (fun k _=>next_ok (jnd_good h_jnd) (jnd_ar h_jnd) k) W h h2);unfold PuE at HCb;have HYb:=aH (fun (b:Gv) no nc W (h:HasG W hG b) h2=>cycle_any hG b (jnd_good h_jnd) (jnd_wa h_jnd) (nextG hG) 7 no nc (fun k _=>next_ok (jnd_good h_jnd) (jnd_ar h_jnd) k) W h h2);have HNc:=aH (fun (c:Gv) W (h:HasG W iG c)=>rshore_any iG c (jnd_good i_jnd) (jnd_ar i_jnd) W h);unfold RxE at HNc;have HCc:=aH (fun (c:Gv) (n:Int) no nc W (h:HasG W iG c) h2=>calls_any iG c (jnd_good i_jnd) (jnd_wa i_jnd) n (nextG iG) 7 no nc (fun k _=>next_ok (jnd_good i_jnd) (jnd_ar i_jnd) k) W h h2);unfold PuE at HCc;have HYc:=aH (fun (c:Gv) no nc W (h:HasG W iG c) h2=>cycle_any iG c (jnd_good i_jnd) (jnd_wa i_jnd) (nextG iG) 7 no nc (fun k _=>next_ok (jnd_good i_jnd) (jnd_ar i_jnd) k) W h h2);unfold grv at HNa HCa HYa HNb HCb HYb HNc HCc HYc HJA HJB HJC;obtain ⟨nha,hnh⟩:∃ z,miniG.hs.length=z:=⟨_,rfl⟩;obtain ⟨nmsa,hnms⟩:∃ z,miniG.ms.length=z:=⟨_,rfl⟩;obtain ⟨nwa,hnw⟩:∃ z,miniG.ws.length=z:=⟨_,rfl⟩;obtain ⟨sta,hst⟩:∃ z,miniG.st=z:=⟨_,rfl⟩;rw [mini16_len] at HNa HYa;rw [mini16_len,hnh,hnms,hnw,hst] at HJA;simp only [mini16_len,hnh,hnms,hnw,hst] at HNa HCa HYa;clear hnh hnms hnw hst;obtain ⟨nhb,hnh⟩:∃ z,hG.hs.length=z:=⟨_,rfl⟩;obtain ⟨nmsb,hnms⟩:∃ z,hG.ms.length=z:=⟨_,rfl⟩;obtain ⟨nwb,hnw⟩:∃ z,hG.ws.length=z:=⟨_,rfl⟩;obtain ⟨stb,hst⟩:∃ z,hG.st=z:=⟨_,rfl⟩;rw [hG_len] at HNb HYb;rw [hG_len,hnh,hnms,hnw,hst] at HJB;simp only [hG_len,hnh,hnms,hnw,hst] at HNb HCb HYb;clear hnh hnms hnw hst;obtain ⟨nhc,hnh⟩:∃ z,iG.hs.length=z:=⟨_,rfl⟩;obtain ⟨nmsc,hnms⟩:∃ z,iG.ms.length=z:=⟨_,rfl⟩;obtain ⟨nwc,hnw⟩:∃ z,iG.ws.length=z:=⟨_,rfl⟩;obtain ⟨stc,hst⟩:∃ z,iG.st=z:=⟨_,rfl⟩;rw [iG_len] at HNc HYc;rw [iG_len,hnh,hnms,hnw,hst] at HJC;simp only [iG_len,hnh,hnms,hnw,hst] at HNc HCc HYc;clear hnh hnms hnw hst;go_enter Try.func8,Try.ntmps8;go_wp2_with fail;refine HMI.o.mono ?_;rintro e w1 ⟨⟨ba,rfl,hn⟩,hb1⟩;have HB1:=aH hb1;clear hb1;go_wp2_with fail;refine (HJA.o ba w1 hn).mono ?_;rintro e w2 ⟨⟨a,he,hG⟩,hb2⟩;subst he;have HB2:=aH (HB1.o.trans (hb2.mono HB1.o.size));clear hn hb2 HB1 HMI HJA;have hbl:Below w2.heap.size w2 (w2.alloc (.cells #[.slice a.mo nmsa a.mc,.slice a.no 23 a.nc,.slice a.ho nha a.hc,.slice a.wo nwa a.wc,.int .i64 sta] 27)):=bA _;have HB3:=aH (HB2.o.trans (hbl.mono HB2.o.size));have HGa:=aH (hG.below hbl);have HOa:=aH (Own.fresh w2 27 [.slice a.mo nmsa a.mc,.slice a.no 23 a.nc,.slice a.ho nha a.hc,.slice a.wo nwa a.wc,.int .i64 sta]);clear hbl hG;go_upto_region 2 with fail;obtain ⟨Ba,hB⟩:∃ B,w2.heap.size=B:=⟨_,rfl⟩;rw [hB] at HOa;generalize w2.alloc (.cells #[.slice a.mo nmsa a.mc,.slice a.no 23 a.nc,.slice a.ho nha a.hc,.slice a.wo nwa a.wc,.int .i64 sta] 27)=w3 at *;try rw [hB]
 clear hB;have hbl:Below w3.heap.size w3 (w3.alloc (.cells #[.string ⟨#[109,111,100,117,108,101,32,109,59,10,97,32,61,32,98,32,47,32,34,120,34,59,10,98,32,61,32,34,121,34,63,32,97,59,10]⟩] 9)):=bA _;have hn:=one_hasN w3 ⟨#[109,111,100,117,108,101,32,109,59,10,97,32,61,32,98,32,47,32,34,120,34,59,10,98,32,61,32,34,121,34,63,32,97,59,10]⟩;have HB4:=aH (HB3.o.trans (hbl.mono HB3.o.size));have HGa:=aH (HGa.o.below hbl);have HOa:=aH (HOa.o.under hbl HOa.o.lt);clear hbl;go_wp2_with fail;refine (HJB.o _ _ hn).mono ?_;rintro e w5 ⟨⟨b,he,hG⟩,hb⟩;subst he;have HB5:=aH (HB4.o.trans (hb.mono HB4.o.size));have HGa:=aH (HGa.o.below hb);have HOa:=aH (HOa.o.under hb HOa.o.lt);clear hn hb HJB;have hbl:Below w5.heap.size w5 (w5.alloc (.cells #[.slice b.mo nmsb b.mc,.slice b.no 7 b.nc,.slice b.ho nhb b.hc,.slice b.wo nwb b.wc,.int .i64 stb] 27)):=bA _;have HB6:=aH (HB5.o.trans (hbl.mono HB5.o.size));have HGa:=aH (HGa.o.below hbl);have HOa:=aH (HOa.o.under hbl HOa.o.lt);have HGb:=aH (hG.below hbl);have HOb:=aH (Own.fresh w5 27 [.slice b.mo nmsb b.mc,.slice b.no 7 b.nc,.slice b.ho nhb b.hc,.slice b.wo nwb b.wc,.int .i64 stb]);clear hbl hG;go_upto_region 3 with fail;obtain ⟨Bb,hB⟩:∃ B,w5.heap.size=B:=⟨_,rfl⟩;rw [hB] at HOb;generalize w5.alloc (.cells #[.slice b.mo nmsb b.mc,.slice b.no 7 b.nc,.slice b.ho nhb b.hc,.slice b.wo nwb b.wc,.int .i64 stb] 27)=w6 at *;try rw [hB]
 clear hB;have hbl:Below w6.heap.size w6 (w6.alloc (.cells #[.string ⟨#[109,111,100,117,108,101,32,109,59,10,97,32,61,32,126,98,126,59,10,98,32,61,32,97,32,34,120,34,32,47,32,34,121,34,59,10]⟩] 9)):=bA _;have hn:=one_hasN w6 ⟨#[109,111,100,117,108,101,32,109,59,10,97,32,61,32,126,98,126,59,10,98,32,61,32,97,32,34,120,34,32,47,32,34,121,34,59,10]⟩;have HB7:=aH (HB6.o.trans (hbl.mono HB6.o.size));have HGa:=aH (HGa.o.below hbl);have HOa:=aH (HOa.o.under hbl HOa.o.lt);have HGb:=aH (HGb.o.below hbl);have HOb:=aH (HOb.o.under hbl HOb.o.lt);clear hbl;go_wp2_with fail;refine (HJC.o _ _ hn).mono ?_;rintro e w8 ⟨⟨c,he,hG⟩,hb⟩;subst he;have HB8:=aH (HB7.o.trans (hb.mono HB7.o.size));have HGa:=aH (HGa.o.below hb);have HOa:=aH (HOa.o.under hb HOa.o.lt);have HGb:=aH (HGb.o.below hb);have HOb:=aH (HOb.o.under hb HOb.o.lt);clear hn hb HJC;have hbl:Below w8.heap.size w8 (w8.alloc (.cells #[.slice c.mo nmsc c.mc,.slice c.no 7 c.nc,.slice c.ho nhc c.hc,.slice c.wo nwc c.wc,.int .i64 stc] 27)):=bA _;have HB9:=aH (HB8.o.trans (hbl.mono HB8.o.size));have HGa:=aH (HGa.o.below hbl);have HOa:=aH (HOa.o.under hbl HOa.o.lt);have HGb:=aH (HGb.o.below hbl);have HOb:=aH (HOb.o.under hbl HOb.o.lt);have HGc:=aH (hG.below hbl);have HOc:=aH (Own.fresh w8 27 [.slice c.mo nmsc c.mc,.slice c.no 7 c.nc,.slice c.ho nhc c.hc,.slice c.wo nwc c.wc,.int .i64 stc]);clear hbl hG;go_upto_region 4 with fail;obtain ⟨Bc,hB⟩:∃ B,w8.heap.size=B:=⟨_,rfl⟩;rw [hB] at HOc;generalize w8.alloc (.cells #[.slice c.mo nmsc c.mc,.slice c.no 7 c.nc,.slice c.ho nhc c.hc,.slice c.wo nwc c.wc,.int .i64 stc] 27)=w9 at *;try rw [hB]
 clear hB;have g0:w9.cell? ⟨Ba,0,none⟩=some (.slice a.mo nmsa a.mc):=HOa.o.cell 0;have g1:w9.cell? ⟨Ba,1,none⟩=some (.slice a.no 23 a.nc):=HOa.o.cell 1;have g2:w9.cell? ⟨Ba,2,none⟩=some (.slice a.ho nha a.hc):=HOa.o.cell 2;have g3:w9.cell? ⟨Ba,3,none⟩=some (.slice a.wo nwa a.wc):=HOa.o.cell 3;have g4:w9.cell? ⟨Ba,4,none⟩=some (.int .i64 sta):=HOa.o.cell 4;have gl:=HOa.o.lt;go_wp2_with fail;refine (HNa.o a w9 HGa.o).mono ?_;rintro e wA ⟨q,rfl,⟨V,hV1,hV2⟩,-,hb⟩;have HNX:=aH (NxM.row hV1 hV2);have HBA:=aH (HB9.o.trans (hb.mono HB9.o.size));have HGa:=aH (HGa.o.below hb);have HOa:=aH (HOa.o.under hb HOa.o.lt);have HGb:=aH (HGb.o.below hb);have HOb:=aH (HOb.o.under hb HOb.o.lt);have HGc:=aH (HGc.o.below hb);have HOc:=aH (HOc.o.under hb HOc.o.lt);clear hb hV1 hV2 g0 g1 g2 g3 g4 gl HNa;have g0:wA.cell? ⟨Ba,0,none⟩=some (.slice a.mo nmsa a.mc):=HOa.o.cell 0;have g1:wA.cell? ⟨Ba,1,none⟩=some (.slice a.no 23 a.nc):=HOa.o.cell 1;have g2:wA.cell? ⟨Ba,2,none⟩=some (.slice a.ho nha a.hc):=HOa.o.cell 2;have g3:wA.cell? ⟨Ba,3,none⟩=some (.slice a.wo nwa a.wc):=HOa.o.cell 3;have g4:wA.cell? ⟨Ba,4,none⟩=some (.int .i64 sta):=HOa.o.cell 4;have gl:=HOa.o.lt;have h0:wA.cell? ⟨Bb,0,none⟩=some (.slice b.mo nmsb b.mc):=HOb.o.cell 0;have h1:wA.cell? ⟨Bb,1,none⟩=some (.slice b.no 7 b.nc):=HOb.o.cell 1;have h2:wA.cell? ⟨Bb,2,none⟩=some (.slice b.ho nhb b.hc):=HOb.o.cell 2;have h3:wA.cell? ⟨Bb,3,none⟩=some (.slice b.wo nwb b.wc):=HOb.o.cell 3;have h4:wA.cell? ⟨Bb,4,none⟩=some (.int .i64 stb):=HOb.o.cell 4;have hl:=HOb.o.lt;have i0:wA.cell? ⟨Bc,0,none⟩=some (.slice c.mo nmsc c.mc):=HOc.o.cell 0;have i1:wA.cell? ⟨Bc,1,none⟩=some (.slice c.no 7 c.nc):=HOc.o.cell 1;have i2:wA.cell? ⟨Bc,2,none⟩=some (.slice c.ho nhc c.hc):=HOc.o.cell 2;have i3:wA.cell? ⟨Bc,3,none⟩=some (.slice c.wo nwc c.wc):=HOc.o.cell 3;have i4:wA.cell? ⟨Bc,4,none⟩=some (.int .i64 stc):=HOc.o.cell 4;have il:=HOc.o.lt;go_upto_region 7 with fail;refine wp_region_heldTz (fun Wx=>Below wA.heap.size wA Wx) 53 (by kernel_rfl) ?_;have HS:=aH (show Below wA.heap.size wA (World.drew wA) from (Below.refl _ _).drew);have HKA:=aH (And.intro gl (And.intro g0 (And.intro g1 (And.intro g2 (And.intro g3 g4)))));have HKB:=aH (And.intro hl (And.intro h0 (And.intro h1 (And.intro h2 (And.intro h3 h4)))));have HKC:=aH (And.intro il (And.intro i0 (And.intro i1 (And.intro i2 (And.intro i3 i4)))));clear gl g0 g1 g2 g3 g4 hl h0 h1 h2 h3 h4 il i0 i1 i2 i3 i4;refine heldTz.takeD 0 [2,4,5,6,7,8,9,10,11,12,13,14,15,16,17,18,19,20,21,22,23,24,25,26,27,28,29,30,31,32,33,34,35,36,37,38,39,40,41,42,43,44,45,46,47,48,49,50,51,52,53] rfl (v:=?_) (Or.inl ⟨by rfl,?_⟩) HS.o ?_;rotate_left;· intro W hW;obtain ⟨al,a0,a1,a2,a3,a4⟩:=HKA.o;have a0:=keepc a0 hW;have a1:=keepc a1 hW;have a2:=keepc a2 hW;have a3:=keepc a3 hW;have a4:=keepc a4 hW;have al:=aL al hW.size;go_simp;try with_reducible rfl
 go_simp;refine heldTz.pure 1 rfl (v:=?_) (Or.inl ⟨by rfl,?_⟩) HS.o ?_;rotate_left;· intro W _;go_simp;try with_reducible rfl
 go_simp;refine heldTz.two (i:=2) (k:=3) (si:=43) (sk:=44) (Ri:=Rl [0,10,11]) (Rk:=Rl [0,10,11]) rfl rfl rfl rfl (by decide) (by decide) (by kernel_rfl) (by kernel_rfl) (by kernel_rfl) HS.o ?_ ?_ (fun q w1 w2=>Rl.keep) (fun q w1 w2=>Rl.keep) ?_
 ·
  as_aux_lemma =>
   rintro a' (rfl | ⟨x,rfl⟩) W hI;all_goals (refine onward_call (f:=11) (vs:=#[.agg #[.slice a.mo nmsa a.mc,.slice a.no 23 a.nc,.slice a.ho nha a.hc,.slice a.wo nwa a.wc,.int .i64 sta],.slice (some ⟨q,0,none⟩) 23 23,.int .i64 9]) (by kernel_rfl) (by go_simp) ((HCa.o a 9 (some ⟨q,0,none⟩) 23 W (HGa.o.below hI) (HNX.o.below hI)).mono (by rintro e w' ⟨v,he,hi,hb⟩;rw [mini_c9] at hi;exact ⟨v,he,hb,hI.trans (hb.mono hI.size),⟨_,hi⟩⟩)))
 ·
  as_aux_lemma =>
   rintro a' (rfl | ⟨x,rfl⟩) W hI;all_goals (refine onward_value (v:=.slice (some ⟨W.heap.size,0,none⟩) 3 3) (w':=W.alloc (.cells #[.int .i64 0,.int .i64 10,.int .i64 11] 3)) (by kernel_rfl) (by go_simp) (bA _) (hI.trans (((Below.refl W.heap.size W).alloc (Nat.le_refl _) _).mono hI.size)) ⟨_,IntsAt.new W [0,10,11]⟩)
 intro x1 x2 v1 hS ⟨C1,hv⟩ ⟨C2,hx⟩;have HS:=aH hS;have HI1:=aH hv;have HI2:=aH hx;clear hS hv hx;go_simp;refine heldTz.one (i:=4) (by kernel_rfl) (op_call (f:=10) (vs:=#[x1,x2]) rfl (by kernel_rfl) (by go_simp) ((intsat_any x1 x2 [0,10,11] C1 C2 (by decide) v1 HI1.o HI2.o).mono ?_));rintro e v2 ⟨he,hb⟩;refine ⟨_,he,.inr (.inr (HS.o.trans (hb.mono HS.o.size))),?_⟩;have HS:=aH (HS.o.trans (hb.mono HS.o.size));clear hb HI1 HI2;go_simp;refine heldTz.one (i:=5) (by kernel_rfl) (op_value (v:=.bool true) (w':=v2) rfl (by kernel_rfl) (by go_simp;try rfl) ?_);refine ⟨.inr (.inr HS.o),?_⟩;go_simp;refine heldTz.takeD 6 [8,10,11,12,13,14,15,16,17,18,19,20,21,22,23,24,25,26,27,28,29,30,31,32,33,34,35,36,37,38,39,40,41,42,43,44,45,46,47,48,49,50,51,52,53] rfl (v:=?_) (Or.inl ⟨by rfl,?_⟩) HS.o ?_;rotate_left;· intro W hW;obtain ⟨al,a0,a1,a2,a3,a4⟩:=HKA.o;have a0:=keepc a0 hW;have a1:=keepc a1 hW;have a2:=keepc a2 hW;have a3:=keepc a3 hW;have a4:=keepc a4 hW;have al:=aL al hW.size;go_simp;try with_reducible rfl
 go_simp;refine heldTz.pure 7 rfl (v:=?_) (Or.inl ⟨by rfl,?_⟩) HS.o ?_;rotate_left;· intro W _;go_simp;try with_reducible rfl
 go_simp;refine heldTz.two (i:=8) (k:=9) (si:=49) (sk:=50) (Ri:=Rl [12]) (Rk:=Rl [12]) rfl rfl rfl rfl (by decide) (by decide) (by kernel_rfl) (by kernel_rfl) (by kernel_rfl) HS.o ?_ ?_ (fun q w1 w2=>Rl.keep) (fun q w1 w2=>Rl.keep) ?_
 ·
  as_aux_lemma =>
   rintro a' (rfl | ⟨x,rfl⟩) W hI;all_goals (refine onward_call (f:=11) (vs:=#[.agg #[.slice a.mo nmsa a.mc,.slice a.no 23 a.nc,.slice a.ho nha a.hc,.slice a.wo nwa a.wc,.int .i64 sta],.slice (some ⟨q,0,none⟩) 23 23,.int .i64 11]) (by kernel_rfl) (by go_simp) ((HCa.o a 11 (some ⟨q,0,none⟩) 23 W (HGa.o.below hI) (HNX.o.below hI)).mono (by rintro e w' ⟨v,he,hi,hb⟩;rw [mini_c11] at hi;exact ⟨v,he,hb,hI.trans (hb.mono hI.size),⟨_,hi⟩⟩)))
 ·
  as_aux_lemma =>
   rintro a' (rfl | ⟨x,rfl⟩) W hI;all_goals (refine onward_value (v:=.slice (some ⟨W.heap.size,0,none⟩) 1 1) (w':=W.alloc (.cells #[.int .i64 12] 3)) (by kernel_rfl) (by go_simp) (bA _) (hI.trans (((Below.refl W.heap.size W).alloc (Nat.le_refl _) _).mono hI.size)) ⟨_,IntsAt.new W [12]⟩)
 intro x1 x2 v3 hS ⟨C1,hv⟩ ⟨C2,hx⟩;have HS:=aH hS;have HI1:=aH hv;have HI2:=aH hx;clear hS hv hx;go_simp;refine heldTz.one (i:=10) (by kernel_rfl) (op_call (f:=10) (vs:=#[x1,x2]) rfl (by kernel_rfl) (by go_simp) ((intsat_any x1 x2 [12] C1 C2 (by decide) v3 HI1.o HI2.o).mono ?_));rintro e v4 ⟨he,hb⟩;refine ⟨_,he,.inr (.inr (HS.o.trans (hb.mono HS.o.size))),?_⟩;have HS:=aH (HS.o.trans (hb.mono HS.o.size));clear hb HI1 HI2;go_simp;refine heldTz.one (i:=11) (by kernel_rfl) (op_value (v:=.bool true) (w':=v4) rfl (by kernel_rfl) (by go_simp;try rfl) ?_);refine ⟨.inr (.inr HS.o),?_⟩;go_simp;refine heldTz.one (i:=12) (by kernel_rfl) (op_value (v:=.bool true) (w':=v4) rfl (by kernel_rfl) (by go_simp;try rfl) ?_);refine ⟨.inr (.inr HS.o),?_⟩;go_simp;refine heldTz.takeD 13 [15,17,18,19,20,21,22,23,24,25,26,27,28,29,30,31,32,33,34,35,36,37,38,39,40,41,42,43,44,45,46,47,48,49,50,51,52,53] rfl (v:=?_) (Or.inl ⟨by rfl,?_⟩) HS.o ?_;rotate_left;· intro W hW;obtain ⟨al,a0,a1,a2,a3,a4⟩:=HKA.o;have a0:=keepc a0 hW;have a1:=keepc a1 hW;have a2:=keepc a2 hW;have a3:=keepc a3 hW;have a4:=keepc a4 hW;have al:=aL al hW.size;go_simp;try with_reducible rfl
 go_simp;refine heldTz.pure 14 rfl (v:=?_) (Or.inl ⟨by rfl,?_⟩) HS.o ?_;rotate_left;· intro W _;go_simp;try with_reducible rfl
 go_simp;refine heldTz.two (i:=15) (k:=16) (si:=56) (sk:=57) (Ri:=Rl [17,19]) (Rk:=Rl [17,19]) rfl rfl rfl rfl (by decide) (by decide) (by kernel_rfl) (by kernel_rfl) (by kernel_rfl) HS.o ?_ ?_ (fun q w1 w2=>Rl.keep) (fun q w1 w2=>Rl.keep) ?_
 ·
  as_aux_lemma =>
   rintro a' (rfl | ⟨x,rfl⟩) W hI;all_goals (refine onward_call (f:=11) (vs:=#[.agg #[.slice a.mo nmsa a.mc,.slice a.no 23 a.nc,.slice a.ho nha a.hc,.slice a.wo nwa a.wc,.int .i64 sta],.slice (some ⟨q,0,none⟩) 23 23,.int .i64 16]) (by kernel_rfl) (by go_simp) ((HCa.o a 16 (some ⟨q,0,none⟩) 23 W (HGa.o.below hI) (HNX.o.below hI)).mono (by rintro e w' ⟨v,he,hi,hb⟩;rw [mini_c16] at hi;exact ⟨v,he,hb,hI.trans (hb.mono hI.size),⟨_,hi⟩⟩)))
 ·
  as_aux_lemma =>
   rintro a' (rfl | ⟨x,rfl⟩) W hI;all_goals (refine onward_value (v:=.slice (some ⟨W.heap.size,0,none⟩) 2 2) (w':=W.alloc (.cells #[.int .i64 17,.int .i64 19] 3)) (by kernel_rfl) (by go_simp) (bA _) (hI.trans (((Below.refl W.heap.size W).alloc (Nat.le_refl _) _).mono hI.size)) ⟨_,IntsAt.new W [17,19]⟩)
 intro x1 x2 v5 hS ⟨C1,hv⟩ ⟨C2,hx⟩;have HS:=aH hS;have HI1:=aH hv;have HI2:=aH hx;clear hS hv hx;go_simp;refine heldTz.one (i:=17) (by kernel_rfl) (op_call (f:=10) (vs:=#[x1,x2]) rfl (by kernel_rfl) (by go_simp) ((intsat_any x1 x2 [17,19] C1 C2 (by decide) v5 HI1.o HI2.o).mono ?_));rintro e v6 ⟨he,hb⟩;refine ⟨_,he,.inr (.inr (HS.o.trans (hb.mono HS.o.size))),?_⟩;have HS:=aH (HS.o.trans (hb.mono HS.o.size));clear hb HI1 HI2;go_simp;refine heldTz.one (i:=18) (by kernel_rfl) (op_value (v:=.bool true) (w':=v6) rfl (by kernel_rfl) (by go_simp;try rfl) ?_);refine ⟨.inr (.inr HS.o),?_⟩;go_simp;refine heldTz.one (i:=19) (by kernel_rfl) (op_value (v:=.bool true) (w':=v6) rfl (by kernel_rfl) (by go_simp;try rfl) ?_);refine ⟨.inr (.inr HS.o),?_⟩;go_simp;refine heldTz.takeD 20 [22,24,25,26,27,28,29,30,31,32,33,34,35,36,37,38,39,40,41,42,43,44,45,46,47,48,49,50,51,52,53] rfl (v:=?_) (Or.inl ⟨by rfl,?_⟩) HS.o ?_;rotate_left;· intro W hW;obtain ⟨al,a0,a1,a2,a3,a4⟩:=HKA.o;have a0:=keepc a0 hW;have a1:=keepc a1 hW;have a2:=keepc a2 hW;have a3:=keepc a3 hW;have a4:=keepc a4 hW;have al:=aL al hW.size;go_simp;try with_reducible rfl
 go_simp;refine heldTz.pure 21 rfl (v:=?_) (Or.inl ⟨by rfl,?_⟩) HS.o ?_;rotate_left;· intro W _;go_simp;try with_reducible rfl
 go_simp;refine heldTz.two (i:=22) (k:=23) (si:=63) (sk:=64) (Ri:=Rl [11]) (Rk:=Rl [11]) rfl rfl rfl rfl (by decide) (by decide) (by kernel_rfl) (by kernel_rfl) (by kernel_rfl) HS.o ?_ ?_ (fun q w1 w2=>Rl.keep) (fun q w1 w2=>Rl.keep) ?_
 ·
  as_aux_lemma =>
   rintro a' (rfl | ⟨x,rfl⟩) W hI;all_goals (refine onward_call (f:=11) (vs:=#[.agg #[.slice a.mo nmsa a.mc,.slice a.no 23 a.nc,.slice a.ho nha a.hc,.slice a.wo nwa a.wc,.int .i64 sta],.slice (some ⟨q,0,none⟩) 23 23,.int .i64 10]) (by kernel_rfl) (by go_simp) ((HCa.o a 10 (some ⟨q,0,none⟩) 23 W (HGa.o.below hI) (HNX.o.below hI)).mono (by rintro e w' ⟨v,he,hi,hb⟩;rw [mini_c10] at hi;exact ⟨v,he,hb,hI.trans (hb.mono hI.size),⟨_,hi⟩⟩)))
 ·
  as_aux_lemma =>
   rintro a' (rfl | ⟨x,rfl⟩) W hI;all_goals (refine onward_value (v:=.slice (some ⟨W.heap.size,0,none⟩) 1 1) (w':=W.alloc (.cells #[.int .i64 11] 3)) (by kernel_rfl) (by go_simp) (bA _) (hI.trans (((Below.refl W.heap.size W).alloc (Nat.le_refl _) _).mono hI.size)) ⟨_,IntsAt.new W [11]⟩)
 intro x1 x2 v7 hS ⟨C1,hv⟩ ⟨C2,hx⟩;have HS:=aH hS;have HI1:=aH hv;have HI2:=aH hx;clear hS hv hx;go_simp;refine heldTz.one (i:=24) (by kernel_rfl) (op_call (f:=10) (vs:=#[x1,x2]) rfl (by kernel_rfl) (by go_simp) ((intsat_any x1 x2 [11] C1 C2 (by decide) v7 HI1.o HI2.o).mono ?_));rintro e v8 ⟨he,hb⟩;refine ⟨_,he,.inr (.inr (HS.o.trans (hb.mono HS.o.size))),?_⟩;have HS:=aH (HS.o.trans (hb.mono HS.o.size));clear hb HI1 HI2;go_simp;refine heldTz.one (i:=25) (by kernel_rfl) (op_value (v:=.bool true) (w':=v8) rfl (by kernel_rfl) (by go_simp;try rfl) ?_);refine ⟨.inr (.inr HS.o),?_⟩;go_simp;refine heldTz.one (i:=26) (by kernel_rfl) (op_value (v:=.bool true) (w':=v8) rfl (by kernel_rfl) (by go_simp;try rfl) ?_);refine ⟨.inr (.inr HS.o),?_⟩;go_simp;refine heldTz.takeD 27 [29,30,31,32,33,34,35,36,37,38,39,40,41,42,43,44,45,46,47,48,49,50,51,52,53] rfl (v:=?_) (Or.inl ⟨by rfl,?_⟩) HS.o ?_;rotate_left;· intro W hW;obtain ⟨al,a0,a1,a2,a3,a4⟩:=HKA.o;have a0:=keepc a0 hW;have a1:=keepc a1 hW;have a2:=keepc a2 hW;have a3:=keepc a3 hW;have a4:=keepc a4 hW;have al:=aL al hW.size;go_simp;try with_reducible rfl
 go_simp;refine heldTz.pure 28 rfl (v:=?_) (Or.inl ⟨by rfl,?_⟩) HS.o ?_;rotate_left;· intro W _;go_simp;try with_reducible rfl
 go_simp;refine heldTz.one (i:=29) (by kernel_rfl) (op_call (f:=11) (vs:=#[.agg #[.slice a.mo nmsa a.mc,.slice a.no 23 a.nc,.slice a.ho nha a.hc,.slice a.wo nwa a.wc,.int .i64 sta],.slice (some ⟨q,0,none⟩) 23 23,.int .i64 99]) rfl (by kernel_rfl) (by go_simp) ((HCa.o a 99 (some ⟨q,0,none⟩) 23 v8 (HGa.o.below HS.o) (HNX.o.below HS.o)).mono ?_));rintro e v9 ⟨x1,he,hi,hb⟩;rw [mini_c99] at hi;obtain ⟨ao,cap,rfl,-⟩:=hi;refine ⟨_,he,.inr (.inr (HS.o.trans (hb.mono HS.o.size))),?_⟩;have HS:=aH (HS.o.trans (hb.mono HS.o.size));clear hb;simp only [List.length_nil];go_simp;refine heldTz.one (i:=30) (by kernel_rfl) (op_value (v:=.int .i64 0) (w':=v9) rfl (by kernel_rfl) (by go_simp;try rfl) ?_);refine ⟨.inr (.inr HS.o),?_⟩;go_simp;refine heldTz.one (i:=31) (by kernel_rfl) (op_value (v:=.bool true) (w':=v9) rfl (by kernel_rfl) (by go_simp;try rfl) ?_);refine ⟨.inr (.inr HS.o),?_⟩;go_simp;refine heldTz.one (i:=32) (by kernel_rfl) (op_value (v:=.bool true) (w':=v9) rfl (by kernel_rfl) (by go_simp;try rfl) ?_);refine ⟨.inr (.inr HS.o),?_⟩;go_simp;refine heldTz.one (i:=33) (by kernel_rfl) (op_value (v:=.bool true) (w':=v9) rfl (by kernel_rfl) (by go_simp;try rfl) ?_);refine ⟨.inr (.inr HS.o),?_⟩;go_simp;refine heldTz.takeD 34 [36,37,38,39,40,41,42,43,44,45,46,47,48,49,50,51,52,53] rfl (v:=?_) (Or.inl ⟨by rfl,?_⟩) HS.o ?_;rotate_left;· intro W hW;obtain ⟨al,a0,a1,a2,a3,a4⟩:=HKA.o;have a0:=keepc a0 hW;have a1:=keepc a1 hW;have a2:=keepc a2 hW;have a3:=keepc a3 hW;have a4:=keepc a4 hW;have al:=aL al hW.size;go_simp;try with_reducible rfl
 go_simp;refine heldTz.pure 35 rfl (v:=?_) (Or.inl ⟨by rfl,?_⟩) HS.o ?_;rotate_left;· intro W _;go_simp;try with_reducible rfl
 go_simp;have HYQ:=aH (HYa.o a (some ⟨q,0,none⟩) 23 v9 (HGa.o.below HS.o) (HNX.o.below HS.o));rw [mini_cy] at HYQ;refine heldTz.one (i:=36) (by kernel_rfl) (op_call (f:=13) (vs:=#[.agg #[.slice a.mo nmsa a.mc,.slice a.no 23 a.nc,.slice a.ho nha a.hc,.slice a.wo nwa a.wc,.int .i64 sta],.slice (some ⟨q,0,none⟩) 23 23]) rfl (by kernel_rfl) (by go_simp) (HYQ.o.mono ?_));rintro e v10 ⟨he,hb⟩;refine ⟨_,he,.inr (.inr (HS.o.trans (hb.mono HS.o.size))),?_⟩;have HS:=aH (HS.o.trans (hb.mono HS.o.size));clear hb;go_simp;refine heldTz.one (i:=37) (by kernel_rfl) (op_value (v:=.bool true) (w':=v10) rfl (by kernel_rfl) (by go_simp;try rfl) ?_);refine ⟨.inr (.inr HS.o),?_⟩;go_simp;refine heldTz.one (i:=38) (by kernel_rfl) (op_value (v:=.bool true) (w':=v10) rfl (by kernel_rfl) (by go_simp;try rfl) ?_);refine ⟨.inr (.inr HS.o),?_⟩;go_simp;refine heldTz.one (i:=39) (by kernel_rfl) (op_value (v:=.bool true) (w':=v10) rfl (by kernel_rfl) (by go_simp;try rfl) ?_);refine ⟨.inr (.inr HS.o),?_⟩;go_simp;refine heldTz.takeD 40 [43,44,45,46,47,48,49,50,51,52,53] rfl (v:=?_) (Or.inl ⟨by rfl,?_⟩) HS.o ?_;rotate_left;· intro W hW;obtain ⟨al,a0,a1,a2,a3,a4⟩:=HKB.o;have a0:=keepc a0 hW;have a1:=keepc a1 hW;have a2:=keepc a2 hW;have a3:=keepc a3 hW;have a4:=keepc a4 hW;have al:=aL al hW.size;go_simp;try with_reducible rfl
 go_simp;refine heldTz.takeD 41 [42,43,44,45,46,47,48,49,50,51,52,53] rfl (v:=?_) (Or.inl ⟨by rfl,?_⟩) HS.o ?_;rotate_left;· intro W hW;obtain ⟨al,a0,a1,a2,a3,a4⟩:=HKB.o;have a0:=keepc a0 hW;have a1:=keepc a1 hW;have a2:=keepc a2 hW;have a3:=keepc a3 hW;have a4:=keepc a4 hW;have al:=aL al hW.size;go_simp;try with_reducible rfl
 go_simp;refine heldTz.one (i:=42) (by kernel_rfl) (op_call (f:=9) (vs:=#[.agg #[.slice b.mo nmsb b.mc,.slice b.no 7 b.nc,.slice b.ho nhb b.hc,.slice b.wo nwb b.wc,.int .i64 stb]]) rfl (by kernel_rfl) (by go_simp) ((HNb.o b v10 (HGb.o.below HS.o)).mono ?_));rintro e v11 ⟨qb,he,⟨V,hV1,hV2⟩,-,hb⟩;have HNY:=aH (NxM.row hV1 hV2);refine ⟨_,he,.inr (.inr (HS.o.trans (hb.mono HS.o.size))),?_⟩;have HS:=aH (HS.o.trans (hb.mono HS.o.size));clear hb hV1 hV2;go_simp;have HYQ:=aH (HYb.o b (some ⟨qb,0,none⟩) 7 v11 (HGb.o.below HS.o) HNY.o);rw [h_cy] at HYQ;refine heldTz.one (i:=43) (by kernel_rfl) (op_call (f:=13) (vs:=#[.agg #[.slice b.mo nmsb b.mc,.slice b.no 7 b.nc,.slice b.ho nhb b.hc,.slice b.wo nwb b.wc,.int .i64 stb],.slice (some ⟨qb,0,none⟩) 7 7]) rfl (by kernel_rfl) (by go_simp) ((HYQ.o).mono ?_));rintro e v12 ⟨he,hb⟩;refine ⟨_,he,.inr (.inr (HS.o.trans (hb.mono HS.o.size))),?_⟩;have HS:=aH (HS.o.trans (hb.mono HS.o.size));clear hb;go_simp;refine heldTz.one (i:=44) (by kernel_rfl) (op_value (v:=.bool true) (w':=v12) rfl (by kernel_rfl) (by go_simp;try rfl) ?_);refine ⟨.inr (.inr HS.o),?_⟩;go_simp;refine heldTz.one (i:=45) (by kernel_rfl) (op_value (v:=.bool true) (w':=v12) rfl (by kernel_rfl) (by go_simp;try rfl) ?_);refine ⟨.inr (.inr HS.o),?_⟩;go_simp;refine heldTz.one (i:=46) (by kernel_rfl) (op_value (v:=.bool true) (w':=v12) rfl (by kernel_rfl) (by go_simp;try rfl) ?_);refine ⟨.inr (.inr HS.o),?_⟩;go_simp;refine heldTz.takeD 47 [50,51,52,53] rfl (v:=?_) (Or.inl ⟨by rfl,?_⟩) HS.o ?_;rotate_left;· intro W hW;obtain ⟨al,a0,a1,a2,a3,a4⟩:=HKC.o;have a0:=keepc a0 hW;have a1:=keepc a1 hW;have a2:=keepc a2 hW;have a3:=keepc a3 hW;have a4:=keepc a4 hW;have al:=aL al hW.size;go_simp;try with_reducible rfl
 go_simp;refine heldTz.takeD 48 [49,50,51,52,53] rfl (v:=?_) (Or.inl ⟨by rfl,?_⟩) HS.o ?_;rotate_left;· intro W hW;obtain ⟨al,a0,a1,a2,a3,a4⟩:=HKC.o;have a0:=keepc a0 hW;have a1:=keepc a1 hW;have a2:=keepc a2 hW;have a3:=keepc a3 hW;have a4:=keepc a4 hW;have al:=aL al hW.size;go_simp;try with_reducible rfl
 go_simp;refine heldTz.one (i:=49) (by kernel_rfl) (op_call (f:=9) (vs:=#[.agg #[.slice c.mo nmsc c.mc,.slice c.no 7 c.nc,.slice c.ho nhc c.hc,.slice c.wo nwc c.wc,.int .i64 stc]]) rfl (by kernel_rfl) (by go_simp) ((HNc.o c v12 (HGc.o.below HS.o)).mono ?_));rintro e v13 ⟨qc,he,⟨V,hV1,hV2⟩,-,hb⟩;have HNY:=aH (NxM.row hV1 hV2);refine ⟨_,he,.inr (.inr (HS.o.trans (hb.mono HS.o.size))),?_⟩;have HS:=aH (HS.o.trans (hb.mono HS.o.size));clear hb hV1 hV2;go_simp;have HYQ:=aH (HYc.o c (some ⟨qc,0,none⟩) 7 v13 (HGc.o.below HS.o) HNY.o);rw [i_cy] at HYQ;refine heldTz.one (i:=50) (by kernel_rfl) (op_call (f:=13) (vs:=#[.agg #[.slice c.mo nmsc c.mc,.slice c.no 7 c.nc,.slice c.ho nhc c.hc,.slice c.wo nwc c.wc,.int .i64 stc],.slice (some ⟨qc,0,none⟩) 7 7]) rfl (by kernel_rfl) (by go_simp) ((HYQ.o).mono ?_));rintro e v14 ⟨he,hb⟩;refine ⟨_,he,.inr (.inr (HS.o.trans (hb.mono HS.o.size))),?_⟩;have HS:=aH (HS.o.trans (hb.mono HS.o.size));clear hb;go_simp;refine heldTz.one (i:=51) (by kernel_rfl) (op_value (v:=.bool true) (w':=v14) rfl (by kernel_rfl) (by go_simp;try rfl) ?_);refine ⟨.inr (.inr HS.o),?_⟩;go_simp;refine heldTz.one (i:=52) (by kernel_rfl) (op_value (v:=.bool true) (w':=v14) rfl (by kernel_rfl) (by go_simp;try rfl) ?_);refine ⟨.inr (.inr HS.o),?_⟩;go_simp;refine heldTz.one (i:=53) (by kernel_rfl) (op_value (v:=.bool true) (w':=v14) rfl (by kernel_rfl) (by go_simp;try rfl) ?_);refine ⟨.inr (.inr HS.o),?_⟩;go_simp;refine heldTz.done (by kernel_rfl) ?_ _;have HE:=aH (HBA.o.trans (HS.o.mono HBA.o.size));go_simp;try go_wp2
 go_ret;exact ⟨rfl,HE.o⟩
theorem fstA_mem {NU:Nat->Bool} {op:Int} {ks:List Nat} {k:Nat}:(k:Int) ∈ fstA NU op ks ↔ k ∈ (if op=4 then frontL NU ks else ks):=by
 unfold fstA;rw [orL_mem];constructor
 ·
  rintro (h | h)
  · cases h
  · obtain ⟨j,hj,e⟩:=List.mem_map.1 h;have e:j=k:=(by omega);exact e ▸ hj
 · exact fun h=>.inr (List.mem_map.2 ⟨k,h,rfl⟩)
theorem Ar.none {x:Nj} (h:Ar x) (h0:x.ks.length=0):x.op ≠ 13:=by have hk:=h.kids;intro e;rw [e,h0] at hk;exact absurd hk (by decide)
theorem Ar.ref {x:Nj} (h:Ar x) (h1:x.op=11):x.ks=[]:=by have hk:=h.kids;rw [h1] at hk;unfold kidsB at hk;rw [if_pos (by decide)] at hk;exact List.eq_nil_of_length_eq_zero (beq_iff_eq.1 hk)
theorem fstA_nil (NU:Nat->Bool) (op:Int):fstA NU op []=[]:=by unfold fstA;split <;> rfl
theorem calL_at {gr:Gj} {T:Nx} {nl n:Nat} {x:Nj} (hx:gr.ns[n]?=some x):calL gr T nl n=if x.op=11 then putL (fstA (nulG gr) x.op x.ks) (bodyG gr n:Int) else if x.op=13 then besL gr T nl n x.mo (fstA (nulG gr) x.op x.ks) else fstA (nulG gr) x.op x.ks:=by unfold calL;rw [hx]
theorem cal_none {gr:Gj} {T:Nx} {nl n:Nat} {x:Nj} (hx:gr.ns[n]?=some x) (har:Ar x) (h0:x.ks.length=0) (h1:x.op ≠ 11):calL gr T nl n=[]:=by rw [calL_at hx,if_neg h1,if_neg (har.none h0),List.eq_nil_of_length_eq_zero h0,fstA_nil]
theorem cal_ref {gr:Gj} {T:Nx} {nl n:Nat} {x:Nj} (hx:gr.ns[n]?=some x) (har:Ar x) (h1:x.op=11):calL gr T nl n=[(bodyG gr n:Int)]:=by rw [calL_at hx,if_pos h1,har.ref h1,fstA_nil];rfl
theorem watA_sub {gr:Gj} {mo:Nat} {L:List Int} {y:Int} (h:y ∈ L):y ∈ watA gr mo L:=by
 unfold watA;split
 ·
  split
  · exact (putL_mem _ _ _).2 (.inr h)
  · exact h
 · exact h
theorem besL_sub {gr:Gj} {T:Nx} {nl n mo:Nat} {L:List Int} {y:Int} (h:y ∈ L):y ∈ besL gr T nl n mo L:=by
 unfold besL;refine watA_sub ?_;split
 · exact (orL_mem _ _ _).2 (.inl h)
 · exact h
theorem cal_fst {gr:Gj} {T:Nx} {nl n:Nat} {x:Nj} (hx:gr.ns[n]?=some x) {y:Int} (h:y ∈ fstA (nulG gr) x.op x.ks):y ∈ calL gr T nl n:=by
 rw [calL_at hx];split
 · exact (putL_mem _ _ _).2 (.inr h)
 split
 · exact besL_sub h
 · exact h
theorem cal_has {gr:Gj} {T:Nx} {nl n:Nat} {x:Nj} (hx:gr.ns[n]?=some x) {i k:Nat} (hk:x.ks[i]?=some k) (h:x.op ≠ 4\/i=0\/i=1/\∃ k0,x.ks[0]?=some k0/\nulG gr k0=true):(k:Int) ∈ calL gr T nl n:=by
 refine cal_fst hx (fstA_mem.2 ?_);by_cases h4:x.op=4
 ·
  rw [if_pos h4];rcases h with h | rfl | ⟨rfl,k0,h0,hn⟩
  · exact absurd h4 h
  ·
   cases hks:x.ks with
   | nil=>rw [hks] at hk;simp at hk
   | cons z r =>
    rw [hks] at hk;simp at hk;subst hk;unfold frontL;split <;> simp
  ·
   cases hks:x.ks with
   | nil=>rw [hks] at hk;simp at hk
   | cons z r =>
    rw [hks] at hk h0;simp at hk h0;subst h0;unfold frontL;rw [if_pos hn]
    cases r with
    | nil=>simp at hk
    | cons u r =>
     simp at hk;subst hk;refine List.mem_cons_of_mem _ ?_;unfold frontL;split <;> simp
 · rw [if_neg h4];exact aM hk
theorem ks_nodup:∀ {N:List Nj} {n:Nat} {x:Nj},(kidsOf N).Nodup->N[n]?=some x->x.ks.Nodup
 | [],n,x,_,h=>by simp at h
 | y :: r,0,x,hN,h=>by simp at h;subst h;rw [kidsOf_cons] at hN;exact (List.nodup_append.1 hN).1
 | y :: r,n + 1,x,hN,h=>by rw [kidsOf_cons] at hN;exact ks_nodup (List.nodup_append.1 hN).2.1 (by simpa using h)
theorem cal_not {gr:Gj} (htr:TrG gr.ns gr.hs) {T:Nx} {nl n:Nat} {x:Nj} (hx:gr.ns[n]?=some x) (h4:x.op=4) {k k0:Nat} (h0:x.ks[0]?=some k0) (hk:x.ks[1]?=some k) (hn:nulG gr k0=false):(k:Int) ∉ calL gr T nl n:=by
 rw [calL_at hx,if_neg (by omega),if_neg (by omega),fstA_mem,if_pos h4];have hnd:=ks_nodup (List.nodup_append.1 htr.1).2.1 hx
 cases hks:x.ks with
 | nil=>rw [hks] at hk;simp at hk
 | cons z r =>
  rw [hks] at hk h0 hnd;simp at hk h0;subst h0;unfold frontL;rw [hn,if_neg (by decide),List.mem_singleton];intro e;exact (List.nodup_cons.1 hnd).1 (e ▸ aM hk)
theorem calI_nat {gr:Gj} {T:Nx} {nl n:Nat} (h:n < gr.ns.length):calI gr T nl (n:Int)=calL gr T nl n:=by unfold calI;rw [if_pos ⟨by omega,by omega⟩,Int.toNat_natCast]
theorem prs16_walk (l:List ByteArray) (ao:Option Addr) (cap:Nat) (s:ByteArray) (w:World) (hl:HasN w ao l):Calls Try.prog 5 #[.slice ao l.length cap,.string s] w fun e w'=>e=.returned (.bool true)/\Below w.heap.size w w':=by
 have HJD:=aH (joined16_any l ao cap s w hl);obtain ⟨R,hR⟩:∃ R,jndO l s=R:=⟨_,rfl⟩;have HR:=aH hR;rw [hR] at HJD;obtain ⟨nl,hnl⟩:∃ n,l.length=n:=⟨_,rfl⟩;rw [hnl] at HJD;rw [hnl];clear hl hR hnl;go_enter Try.func5,Try.ntmps5;go_wp2_with fail;refine HJD.o.mono ?_;rintro e w2 ⟨hE,hb2⟩;have HB2:=aH hb2;clear hb2 HJD
 cases R with
 | none =>
  have hE':e=.returned (.tuple #[.agg #[.slice none 0 0,.slice none 0 0,.slice none 0 0,.slice none 0 0,.int .i64 0],.bool false]):=hE;subst hE';have hbl:Below w2.heap.size w2 (w2.alloc (.cells #[.slice none 0 0,.slice none 0 0,.slice none 0 0,.slice none 0 0,.int .i64 0] 27)):=bA _;have HB3:=aH (HB2.o.trans (hbl.mono HB2.o.size));clear hbl hE;go_upto_region 2 with fail;generalize w2.alloc (.cells #[.slice none 0 0,.slice none 0 0,.slice none 0 0,.slice none 0 0,.int .i64 0] 27)=w3 at *;have HAW:=aH (awake16_any w3);go_wp2_with fail;refine HAW.o.mono ?_;rintro e w4 ⟨he,hb4⟩;subst he;have HB4:=aH (HB3.o.trans (hb4.mono HB3.o.size));clear hb4;go_wp2;go_ret;exact ⟨rfl,HB4.o⟩
 | some gr =>
  obtain ⟨a,he,hG⟩:∃ a,e=.returned (.tuple #[grv gr a,.bool true])/\HasG w2 gr a:=hE;subst he;have hg:Good gr:=jnd_good HR.o;have HGD:=aH hg;have har:=jnd_ar HR.o;have HAR:=aH har;have htr:=jnd_tr HR.o;have HTR:=aH htr;have HEN:=aH (nextG_end hg har);have hbl:Below w2.heap.size w2 (w2.alloc (.cells #[.slice a.mo gr.ms.length a.mc,.slice a.no gr.ns.length a.nc,.slice a.ho gr.hs.length a.hc,.slice a.wo gr.ws.length a.wc,.int .i64 gr.st] 27)):=bA _;have HB3:=aH (HB2.o.trans (hbl.mono HB2.o.size));have HG3:=aH (hG.below hbl);have HO3:=aH (Own.fresh w2 27 [.slice a.mo gr.ms.length a.mc,.slice a.no gr.ns.length a.nc,.slice a.ho gr.hs.length a.hc,.slice a.wo gr.ws.length a.wc,.int .i64 gr.st]);have hwa:=jnd_wa HR.o;have HN:=aH (fun W (h:HasG W gr a)=>rshore_any gr a hg har W h);have HL:=aH (fun W (h:HasG W gr a)=>snull_any gr a hg W h)
  have HCL:=aH (fun (n:Nat) (hn:n < gr.ns.length) no nc W (h:HasG W gr a) (h2:NxM W no gr.ns.length (nextG gr))=>show Calls Try.prog 11 #[grv gr a,.slice no gr.ns.length nc,.int .i64 (n:Int)] W (fun e w'=>∃ v,e=.returned v/\IntsAt w' W.heap.size v (calL gr (nextG gr) gr.ns.length n)/\Below W.heap.size W w') from by
   rw [<- calI_nat (T:=nextG gr) (nl:=gr.ns.length) hn]
   exact calls_any gr a hg hwa (n:Int) (nextG gr) gr.ns.length no nc (fun k _=>next_ok hg har k) W h h2)
  have HLL:=aH (fun (n:Nat)=>(calL_rg (T:=nextG gr) (nl:=gr.ns.length) hg hwa (fun k _=>(next_ok hg har k).1) n).len);have HM1:=aH (fun n x h1 h3 h4=>cal_none (gr:=gr) (T:=nextG gr) (nl:=gr.ns.length) (n:=n) (x:=x) h1 (har x (aM h1)) h3 h4);have HM2:=aH (fun n x h1 h3=>cal_ref (gr:=gr) (T:=nextG gr) (nl:=gr.ns.length) (n:=n) (x:=x) h1 (har x (aM h1)) h3);have HM3:=aH (fun n x (h1:gr.ns[n]?=some x) h3=>(har x (aM h1)).ref h3);have HM4:=aH (fun n x i k h1 h2 h3=>cal_has (gr:=gr) (T:=nextG gr) (nl:=gr.ns.length) (n:=n) (x:=x) (i:=i) (k:=k) h1 h2 h3);have HM5:=aH (fun n x k k0 h1 h2 h3 h4 h5=>cal_not htr (T:=nextG gr) (nl:=gr.ns.length) (n:=n) (x:=x) (k:=k) (k0:=k0) h1 h2 h3 h4 h5);unfold RxE at HN;unfold BoE at HL;unfold grv;unfold grv at HN HL HCL;have hn160:=hg.len;obtain ⟨nn,hnn⟩:∃ z,gr.ns.length=z:=⟨_,rfl⟩;obtain ⟨nh,hnh⟩:∃ z,gr.hs.length=z:=⟨_,rfl⟩;obtain ⟨nms,hnms⟩:∃ z,gr.ms.length=z:=⟨_,rfl⟩;obtain ⟨nw,hnw⟩:∃ z,gr.ws.length=z:=⟨_,rfl⟩;have HNN:=aH (And.intro hnn hnh);simp only [hnn,hnh,hnms,hnw] at HB3 HG3 HO3 HN HL HCL HLL HM1 HM2 HM4 HM5 hbl;rw [hnn] at hn160;rw [hnn,hnh,hnms,hnw];clear hnn hnh hnms hnw hG hg hbl har htr hwa HTR HEN;go_upto_region 2 with fail;obtain ⟨B,hB⟩:∃ B,w2.heap.size=B:=⟨_,rfl⟩;rw [hB] at HO3;generalize w2.alloc (.cells #[.slice a.mo nms a.mc,.slice a.no nn a.nc,.slice a.ho nh a.hc,.slice a.wo nw a.wc,.int .i64 gr.st] 27)=w3 at *;try rw [hB]
  clear hB HB2
  have HC:=aH (show ∀ W,Below w3.heap.size w3 W->W.cell? ⟨B,0,none⟩=some (.slice a.mo nms a.mc)/\W.cell? ⟨B,1,none⟩=some (.slice a.no nn a.nc)/\W.cell? ⟨B,2,none⟩=some (.slice a.ho nh a.hc)/\W.cell? ⟨B,3,none⟩=some (.slice a.wo nw a.wc)/\W.cell? ⟨B,4,none⟩=some (.int .i64 gr.st)/\B < W.heap.size from fun W h=>by
   have q:=HO3.o.under h HO3.o.lt
   exact ⟨q.cell 0,q.cell 1,q.cell 2,q.cell 3,q.cell 4,q.lt⟩)
  obtain ⟨g0,g1,g2,g3,g4,gl⟩:=HC.o w3 (Below.refl _ _);go_wp2_with fail;refine (HN.o w3 HG3.o).mono ?_;rintro e w5 ⟨q,rfl,⟨V,hV1,hV2⟩,hgs,hb5⟩;have HV1:=aH hV1;have HV2:=aH hV2;have HB5:=aH hb5;clear hV1 hV2 hgs hb5 HN g0 g1 g2 g3 g4 gl;obtain ⟨k0,k1,k2,k3,k4,kl⟩:=HC.o w5 HB5.o;go_wp2_with fail;refine (HL.o w5 (HG3.o.below HB5.o)).mono ?_;rintro e w7 ⟨d,rfl,hO,hgs,hb7⟩;have HB7:=aH (HB5.o.trans (hb7.mono HB5.o.size));have HD:=aH (fun W (h:Below w7.heap.size w7 W) (k:Nat) (hk:k < nn)=>show W.cell? ⟨d,k,none⟩=some (.bool (nulG gr k))/\d < W.heap.size from ⟨((hO.under h hO.lt).cell k).trans (rowB_at _ nn k hk),(hO.under h hO.lt).lt⟩);have HNX:=aH ((NxM.row HV1.o HV2.o).below hb7);have HC7:=aH (fun W (h:Below w7.heap.size w7 W)=>HC.o W (HB7.o.trans (h.mono HB7.o.size)));have HG7:=aH (fun W (h:Below w7.heap.size w7 W)=>HG3.o.below (HB7.o.trans (h.mono HB7.o.size)));have HR7:=aH (Below.refl w7.heap.size w7);clear hO hgs hb7 HL k0 k1 k2 k3 k4 kl HV1 HV2 HB5;obtain ⟨k0,k1,k2,k3,k4,kl⟩:=HC7.o w7 HR7.o;go_wp2_with fail;clear k0 k1 k2 k3 k4 kl
  go_loopw [9] (fun v9 wr=>∃ n:Nat,v9=.int .i64 (n:Int)/\(n:Int)<=nn/\aQ (Below w7.heap.size w7 wr)) (fun v9 _=>nn - (intOf v9).toNat)
  case atStart=>exact ⟨0,rfl,by omega,HR7⟩
  case round =>
   obtain ⟨n,rfl,hn,HBn⟩:=hrel;obtain ⟨k0,k1,k2,k3,k4,kl⟩:=HC7.o wr HBn.o;by_cases hnn:(n:Int) < nn
   ·
    have hn1:decide ((n:Int) < (nn:Int))=true:=aT hnn;have hn2:decide (n < nn)=true:=aT (by omega);have hn3:n < nn:=(by omega);have hw1:IntKind.i64.wrap ((n:Int) + 1)=(n:Int) + 1:=wI;obtain ⟨x,hx⟩:∃ x,gr.ns[n]?=some x:=⟨_,aG (by have:=HNN.o.1;omega)⟩;have HX:=aH hx;have HKID:=aH (HGD.o.kid x (aM hx));have HREF:=aH (HGD.o.ref x (aM hx));obtain ⟨b,off,ko,kc,hno,hb,-,c0,c1,c2,c3,c4,c5,c6,c7,c8,c9,hkk⟩:=(HG7.o wr HBn.o).1 n x hx;obtain ⟨nk,hnk⟩:∃ z,x.ks.length=z:=⟨_,rfl⟩;have HNK:=aH hnk;have hnk9:nk<=90001:=(by rw [<- hnk];exact HGD.o.kl x (aM hx));obtain ⟨op,hop⟩:∃ z,x.op=z:=⟨_,rfl⟩;have HOP:=aH hop;rw [hnk] at c6;rw [hop] at c0;rw [hno] at k1;have hbl:Below wr.heap.size wr (wr.alloc (.cells #[.int .i64 op,.string x.tx,.int .u64 x.s0,.int .u64 x.s1,.int .u64 x.s2,.int .u64 x.s3,.slice ko nk kc,.int .i64 x.tg,.int .i64 (x.mo:Int),.int .i64 x.ru] 44)):=bA _;have HB4:=aH (HBn.o.trans (hbl.mono HBn.o.size));have HK4:=aH (hkk.below hbl);have HN4:=aH (Own.fresh wr 44 [.int .i64 op,.string x.tx,.int .u64 x.s0,.int .u64 x.s1,.int .u64 x.s2,.int .u64 x.s3,.slice ko nk kc,.int .i64 x.tg,.int .i64 (x.mo:Int),.int .i64 x.ru]);clear hx hkk hbl hnk hop;go_upto_region 10 with fail;obtain ⟨B4,hB4⟩:∃ z,wr.heap.size=z:=⟨_,rfl⟩;rw [hB4] at HN4;generalize wr.alloc (.cells #[.int .i64 op,.string x.tx,.int .u64 x.s0,.int .u64 x.s1,.int .u64 x.s2,.int .u64 x.s3,.slice ko nk kc,.int .i64 x.tg,.int .i64 (x.mo:Int),.int .i64 x.ru] 44)=w4 at *;try rw [hB4]
    clear c0 c1 c2 c3 c4 c5 c6 c7 c8 c9 hb hno k0 k1 k2 k3 k4 kl hB4;obtain ⟨k0,k1,k2,k3,k4,kl⟩:=HC7.o w4 HB4.o;go_wp2_with fail;refine (HCL.o n (by have:=HNN.o.1;omega) (some ⟨q,0,none⟩) nn w4 (HG7.o w4 HB4.o) (HNX.o.below HB4.o)).mono ?_;rintro e w5 ⟨vL,rfl,hI,hb5⟩;have HL5:=aH (HLL.o n);obtain ⟨L,hL⟩:∃ z,calL gr (nextG gr) nn n=z:=⟨_,rfl⟩;have HLQ:=aH hL;rw [hL] at hI HL5;have HI0:=aH hI;obtain ⟨lo,lc,rfl,-,-⟩:=hI;obtain ⟨ll,hll⟩:∃ z,L.length=z:=⟨_,rfl⟩;have HLN:=aH hll;rw [hll] at HI0 HL5;rw [hll];have HB5:=aH (HB4.o.trans (hb5.mono HB4.o.size));have HN5:=aH (HN4.o.under hb5 HN4.o.lt);have HK5:=aH (HK4.o.below hb5);have HLM:=HL5.o;clear hb5 hL hll HN4 HK4 k0 k1 k2 k3 k4 kl HB4;go_upto_region 11 with fail
    go_cut [76] (fun v76 wx=>v76=.bool false/\aQ (Below w5.heap.size w5 wx))
    case first =>
     have y0:w5.cell? ⟨B4,0,none⟩=some (.int .i64 op):=HN5.o.cell 0;have y4:w5.cell? ⟨B4,7,none⟩=some (.int .i64 x.tg):=HN5.o.cell 7;have y6:w5.cell? ⟨B4,6,none⟩=some (.slice ko nk kc):=HN5.o.cell 6;have yl:=HN5.o.lt;by_cases h11:op=11
     ·
      subst h11;obtain ⟨tt,hh0,htt,hhe,hbo⟩:=HREF.o HOP.o;obtain ⟨b2,off2,hho,hb2,-,d0,d1,d2⟩:=(HG7.o w5 HB5.o).2.1 tt hh0 hhe;obtain ⟨k0,k1,k2,k3,k4,kl⟩:=HC7.o w5 HB5.o;rw [hho] at k2;rw [htt] at y4;have htn:tt < nh:=(by have:=(aS.1 hhe).1;have:=HNN.o.2;omega);have ht1:decide ((tt:Int) < (nh:Int))=true:=aT (by omega);have ht2:decide (tt < nh)=true:=aT htn;have hbd0:bodyG gr n=hh0.bo:=by
       unfold bodyG;rw [HX.o]
       show (if x.op=11 then (match gr.hs[x.tg.toNat]? with
        | some h=>h.bo
        | none=>0) else n)=hh0.bo
       rw [if_pos HOP.o,htt,Int.toNat_natCast,hhe]
      obtain ⟨q1,hq⟩:∃ q1,hh0.bo=q1:=⟨_,rfl⟩;rw [hq] at hbd0 d2;have hLL:=HM2.o n x HX.o HOP.o;rw [HLQ.o,hbd0] at hLL
      have HI1:=aH (show IntsAt w5 w4.heap.size (.slice lo ll lc) [(q1:Int)] from by
       have h:=HI0.o;rw [hLL] at h
       exact h)
      have hnk0:nk=0:=(by rw [<- HNK.o,HM3.o n x HX.o HOP.o];rfl);subst hnk0;have HQI:=aH (fun W (h:Below w5.heap.size w5 W) u (hu:IntsAt W w5.heap.size u [(q1:Int)])=>intsat_any (.slice lo ll lc) u [(q1:Int)] w4.heap.size w5.heap.size (by simp) W (HI1.o.below h) hu);have HW5:=aH (show Below w5.heap.size w5 (w5.alloc (.cells #[.int .i64 (q1:Int)] 3)) from bA _);clear hhe hho htt hbd0 hbo hq d0 d1 k0 k1 k3 k4 hLL HI1;go_wp2_with fail;refine (HQI.o _ HW5.o _ (IntsAt.new w5 [(q1:Int)])).mono ?_;rintro e w6 ⟨he,hb6⟩;subst he;have HB6:=aH (HW5.o.trans (hb6.mono HW5.o.size));clear hb6 HW5 HQI;go_wp2_with fail
      go_meet
      exact ⟨rfl,HB6⟩
     ·
      have h11a:(op == 11)=false:=aN.2 h11;have h11b:decide (op=11)=false:=aF h11;have h11c:decide (¬ op=11)=true:=aT h11;by_cases hz:nk=0
      ·
       have hz1:((nk:Int) == 0)=true:=beq_iff_eq.2 (by omega);have hz2:decide ((nk:Int)=0)=true:=aT (by omega);have hz3:decide (nk=0)=true:=aT hz;have hz4:(nk == 0)=true:=beq_iff_eq.2 hz;have hlz:ll=0:=(by rw [<- HLN.o,<- HLQ.o,HM1.o n x HX.o (by rw [HNK.o];exact hz) (by rw [HOP.o];exact h11)];rfl);have hl1:decide ((0:Int) < (ll:Int))=false:=aF (by omega);have hl2:decide (0 < ll)=false:=aF (by omega);clear hz hlz;go_wp2_with fail
       go_meet
       exact ⟨rfl,aH (Below.refl _ _)⟩
      ·
       have hz1:((nk:Int) == 0)=false:=aN.2 (by omega);have hz2:decide ((nk:Int)=0)=false:=aF (by omega);have hz3:decide (nk=0)=false:=aF hz;have hz4:(nk == 0)=false:=aN.2 hz;clear hz;go_wp2_with fail
       go_meet
       exact ⟨rfl,aH (Below.refl _ _)⟩
    case rest =>
    obtain ⟨rfl,HBC⟩:=hcut;obtain ⟨w6,hw6⟩:∃ z,z=wc:=⟨_,rfl⟩;subst hw6;have HB6:=aH (HB5.o.trans (HBC.o.mono HB5.o.size));have HN6:=aH (HN5.o.under HBC.o HN5.o.lt);have HK6:=aH (HK5.o.below HBC.o);have HI6:=aH (HI0.o.below HBC.o);have HR6:=aH (Below.refl w6.heap.size w6);clear HBC HN5 HK5 HI0 HB5;go_wp2_with fail
    go_loopw [12] (fun v12 wr=>∃ i:Nat,v12=.int .i64 (i:Int)/\(i:Int)<=nk/\aQ (Below w6.heap.size w6 wr)) (fun v12 _=>nk - (intOf v12).toNat)
    case atStart=>exact ⟨0,rfl,by omega,HR6⟩
    case round =>
     obtain ⟨i,rfl,hi,HBi⟩:=hrel;obtain ⟨wi,hwi⟩:∃ z,z=wr:=⟨_,rfl⟩;subst hwi;have HNi:=aH (HN6.o.under HBi.o HN6.o.lt);have y6:wi.cell? ⟨B4,6,none⟩=some (.slice ko nk kc):=HNi.o.cell 6;have yl:=HNi.o.lt;by_cases hin:(i:Int) < nk
     ·
      have hi1:decide ((i:Int) < (nk:Int))=true:=aT hin;have hi2:decide (i < nk)=true:=aT (by omega);have hi3:i < nk:=(by omega);have hw2:IntKind.i64.wrap ((i:Int) + 1)=(i:Int) + 1:=wI;obtain ⟨k,hk⟩:∃ q,x.ks[i]?=some q:=⟨_,aG (by have:=HNK.o;omega)⟩;have HKK:=aH hk;obtain ⟨k00,hk0⟩:∃ q,x.ks[0]?=some q:=⟨_,aG (by have:=HNK.o;omega)⟩;have HK0:=aH hk0;have hkn:k00 < nn:=(by have:=HKID.o k00 (aM hk0);have:=HNN.o.1;omega);have HKN:=aH hkn;obtain ⟨b2,off2,hko,-,-,q0⟩:=HK6.o i k hk;obtain ⟨b3,off3,hko3,-,-,qq⟩:=HK6.o 0 k00 hk0;obtain ⟨rfl,rfl⟩:b2=b3/\off2=off3:=(by rw [hko] at hko3;injection hko3 with h1;injection h1 with h1 h2;exact ⟨h1,h2⟩);rw [Nat.add_zero] at qq;have hb2:b2 < w6.heap.size:=World.block_lt_of_cell? w6 _ q0;have HKC:=aH (fun W (h:Below w6.heap.size w6 W)=>And.intro (keepc q0 h) (And.intro (keepc qq h) (aL hb2 h.size)));subst hko;clear hk hk0 hkn hko3 q0 qq hb2;go_wp2_with fail
      go_loopw [13,14] (fun v13 v14 wr=>∃ (j:Nat) (bb:Bool),aQ (bb=decide ((k:Int) ∈ L.take j))/\v13=.bool bb/\v14=.int .i64 (j:Int)/\(j:Int)<=ll/\aQ (Below w6.heap.size w6 wr)) (fun _ v14 _=>ll - (intOf v14).toNat)
      case atStart=>exact ⟨0,false,aH (by simp),rfl,rfl,by omega,HBi⟩
      case round =>
       obtain ⟨j,bb,HBB,rfl,rfl,hj,HBj⟩:=hrel;obtain ⟨wj,hwj⟩:∃ z,z=wr:=⟨_,rfl⟩;subst hwj;have HNj:=aH (HN6.o.under HBj.o HN6.o.lt);have y0:wj.cell? ⟨B4,0,none⟩=some (.int .i64 op):=HNj.o.cell 0;have y6:wj.cell? ⟨B4,6,none⟩=some (.slice (some ⟨b2,off2,none⟩) nk kc):=HNj.o.cell 6;have yl:=HNj.o.lt;obtain ⟨q0,qq,hb2⟩:=HKC.o wj HBj.o;by_cases hjl:(j:Int) < ll
       ·
        have hj1:decide ((j:Int) < (ll:Int))=true:=aT hjl;have hj2:decide (j < ll)=true:=aT (by omega);have hw3:IntKind.i64.wrap ((j:Int) + 1)=(j:Int) + 1:=wI;obtain ⟨y,hy⟩:∃ y,L[j]?=some y:=⟨_,aG (by have:=HLN.o;omega)⟩
        have HTK:=aH (show decide ((k:Int) ∈ L.take (j + 1))=(bb || decide (y=(k:Int))) from by
         rw [HBB.o,List.take_add_one,hy,Option.toList_some,<- Bool.decide_or];refine decide_eq_decide.2 ?_;rw [List.mem_append,List.mem_singleton]
         exact or_congr Iff.rfl eq_comm)
        obtain ⟨g,off,hlo,hgl,l0⟩:∃ g off,lo=some ⟨g,off,none⟩/\g < wj.heap.size/\wj.cell? ⟨g,off + j,none⟩=some (.int .i64 y):=(by obtain ⟨ao1,c1,e1,-,hf⟩:=HI6.o.below HBj.o;injection e1 with e1 e2 e3;obtain ⟨g,off,e,h1,-,h3⟩:=hf j (by have:=HLN.o;omega);refine ⟨g,off,e1.trans e,h1,?_⟩;rw [h3,List.getD_eq_getElem?_getD,hy];rfl);subst hlo;clear hy y0;go_upto_region 20 with fail
        cases bb with
        | true =>
         have HT1:=aH (show true=decide ((k:Int) ∈ L.take (j + 1)) from by rw [HTK.o];rfl);go_quiet (fail);have HBz:=aH (HBj.o.trans ((below_drewN (Below.refl wj.heap.size wj) nq).mono HBj.o.size));go_wp2
         go_roundw
         case rel=>exact ⟨j + 1,true,HT1,rfl,by go_num,by omega,HBz⟩
         case measure=>simp [intOf];omega
        | false =>
         by_cases hyk:y=(k:Int)
         ·
          have hyk1:(y == (k:Int))=true:=beq_iff_eq.2 hyk;have hyk2:decide (y=(k:Int))=true:=aT hyk;have HT1:=aH (show true=decide ((k:Int) ∈ L.take (j + 1)) from by rw [HTK.o,hyk2];rfl);clear hyk;go_quiet (fail);have HBz:=aH (HBj.o.trans ((below_drewN (Below.refl wj.heap.size wj) nq).mono HBj.o.size));go_wp2
          go_roundw
          case rel=>exact ⟨j + 1,true,HT1,rfl,by go_num,by omega,HBz⟩
          case measure=>simp [intOf];omega
         ·
          have hyk1:(y == (k:Int))=false:=aN.2 hyk;have hyk2:decide (y=(k:Int))=false:=aF hyk;have HT1:=aH (show false=decide ((k:Int) ∈ L.take (j + 1)) from by rw [HTK.o,hyk2];rfl);clear hyk;go_quiet (fail);have HBz:=aH (HBj.o.trans ((below_drewN (Below.refl wj.heap.size wj) nq).mono HBj.o.size));go_wp2
          go_roundw
          case rel=>exact ⟨j + 1,false,HT1,rfl,by go_num,by omega,HBz⟩
          case measure=>simp [intOf];omega
       ·
        have hj1:decide ((j:Int) < (ll:Int))=false:=aF hjl;have hj2:decide (j < ll)=false:=aF (by omega);have HBF:=aH (show bb=decide ((k:Int) ∈ L) from by rw [HBB.o,List.take_of_length_le (by have:=HLN.o;omega)]);have HDB:=aH (show wj.cell? ⟨d,k00,none⟩=some (.bool (nulG gr k00))/\d < wj.heap.size from HD.o wj (HB6.o.trans (HBj.o.mono HB6.o.size)) k00 HKN.o);clear hjl;by_cases h4:op=4
        ·
         subst h4;by_cases h0:i=0
         ·
          have HBT:=aH (HBF.o.trans (aT (by rw [<- HLQ.o];exact HM4.o n x i k HX.o HKK.o (.inr (.inl h0)))));have hq0a:((i:Int) == 0)=true:=beq_iff_eq.2 (by omega);have hq0b:decide ((i:Int)=0)=true:=aT (by omega);have hq0c:decide (i=0)=true:=aT (by omega);have hq0d:(i == 0)=true:=beq_iff_eq.2 (by omega);have hq1a:((i:Int) == 1)=false:=aN.2 (by omega);have hq1b:decide ((i:Int)=1)=false:=aF (by omega);have hq1c:decide (i=1)=false:=aF (by omega);have hq1d:(i == 1)=false:=aN.2 (by omega);obtain rfl:=HBT.o;clear h0;clear HBF HBB;go_wp2
          go_roundw
          case rel=>exact ⟨i + 1,by go_num,by omega,HBj⟩
          case measure=>simp [intOf];omega
         ·
          have hq0a:((i:Int) == 0)=false:=aN.2 (by omega);have hq0b:decide ((i:Int)=0)=false:=aF (by omega);have hq0c:decide (i=0)=false:=aF (by omega);have hq0d:(i == 0)=false:=aN.2 (by omega);by_cases h1:i=1
          ·
           have hq1a:((i:Int) == 1)=true:=beq_iff_eq.2 (by omega);have hq1b:decide ((i:Int)=1)=true:=aT (by omega);have hq1c:decide (i=1)=true:=aT (by omega);have hq1d:(i == 1)=true:=beq_iff_eq.2 (by omega)
           cases hnu:nulG gr k00 with
           | true =>
            have HBT:=aH (HBF.o.trans (aT (by rw [<- HLQ.o];exact HM4.o n x i k HX.o HKK.o (.inr (.inr ⟨h1,k00,HK0.o,hnu⟩)))));obtain ⟨db,dl⟩:=HDB.o;rw [hnu] at db;have hz1:decide ((0:Int) < (nk:Int))=true:=aT (by omega);have hz2:decide (0 < nk)=true:=aT (by omega);have hz3:decide ((k00:Int) < (nn:Int))=true:=aT (by have:=HKN.o;omega);have hz4:decide (k00 < nn)=true:=aT HKN.o;clear hnu;obtain rfl:=HBT.o;clear h0 h1;clear HBF HBB;go_wp2
            go_roundw
            case rel=>exact ⟨i + 1,by go_num,by omega,HBj⟩
            case measure=>simp [intOf];omega
           | false =>
            have HBT:=aH (HBF.o.trans (aF (by rw [<- HLQ.o];exact HM5.o n x k k00 HX.o HOP.o HK0.o (by rw [<- h1];exact HKK.o) hnu)));obtain ⟨db,dl⟩:=HDB.o;rw [hnu] at db;have hz1:decide ((0:Int) < (nk:Int))=true:=aT (by omega);have hz2:decide (0 < nk)=true:=aT (by omega);have hz3:decide ((k00:Int) < (nn:Int))=true:=aT (by have:=HKN.o;omega);have hz4:decide (k00 < nn)=true:=aT HKN.o;clear hnu;obtain rfl:=HBT.o;clear h0 h1;clear HBF HBB;go_wp2
            go_roundw
            case rel=>exact ⟨i + 1,by go_num,by omega,HBj⟩
            case measure=>simp [intOf];omega
          ·
           have hq1a:((i:Int) == 1)=false:=aN.2 (by omega);have hq1b:decide ((i:Int)=1)=false:=aF (by omega);have hq1c:decide (i=1)=false:=aF (by omega);have hq1d:(i == 1)=false:=aN.2 (by omega);clear h0 h1
           cases bb with
           | true =>
            clear HBF HBB;go_wp2
            go_roundw
            case rel=>exact ⟨i + 1,by go_num,by omega,HBj⟩
            case measure=>simp [intOf];omega
           | false =>
            clear HBF HBB;go_wp2
            go_roundw
            case rel=>exact ⟨i + 1,by go_num,by omega,HBj⟩
            case measure=>simp [intOf];omega
        ·
         have HBT:=aH (HBF.o.trans (aT (by rw [<- HLQ.o];exact HM4.o n x i k HX.o HKK.o (.inl (by rw [HOP.o];exact h4)))));have h4a:(op == 4)=false:=aN.2 h4;have h4b:decide (op=4)=false:=aF h4;have h4c:decide (¬ op=4)=true:=aT h4;obtain rfl:=HBT.o;clear HBF HBB;go_wp2
         go_roundw
         case rel=>exact ⟨i + 1,by go_num,by omega,HBj⟩
         case measure=>simp [intOf];omega
     ·
      have hi1:decide ((i:Int) < (nk:Int))=false:=aF hin;have hi2:decide (i < nk)=false:=aF (by omega);have HBz:=aH (HB6.o.trans (HBi.o.mono HB6.o.size));go_wp2
      go_roundw
      case rel=>exact ⟨n + 1,by go_num,by omega,HBz⟩
      case measure=>simp [intOf];omega
   · have hn1:decide ((n:Int) < (nn:Int))=false:=aF hnn;have hn2:decide (n < nn)=false:=aF (by omega);have HAW:=aH (awake16_any wr);go_wp2_with fail;refine HAW.o.mono ?_;rintro e w9 ⟨he,hb9⟩;subst he;have HBZ:=aH (HB3.o.trans ((HB7.o.trans ((HBn.o.trans (hb9.mono HBn.o.size)).mono HB7.o.size)).mono HB3.o.size));clear hb9;go_wp2;go_ret;exact ⟨rfl,HBZ.o⟩
end Go.Proofs.Ythddifjhoniacaa
