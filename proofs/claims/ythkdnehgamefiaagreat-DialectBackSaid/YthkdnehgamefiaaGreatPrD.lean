import Derived.Test.YthkdnehgamefiaaGreatPx
namespace Go.Proofs.YthkdnehgamefiaaGreat
set_option linter.unusedVariables false
set_option maxRecDepth 1000000
open Go.RowKit Go.Sort
theorem Eh:exv ex0 none 0=.agg #[.int .i64 0,.string ⟨#[]⟩,.int .u64 0,.int .u64 0,.int .u64 0,.int .u64 0,.slice none 0 0]:=rfl
def dO (D:Nat) (g:Nat) (lo:Option Addr) (lc:Nat) (L:List Tok) (op:Int) (r:Rs) (X:Ex) (ko:Option Addr) (b:Bool) (w':World):Prop:=match r with
 | .ok (x,m)=>b=true/\Rq w' g lo lc L m op none/\x=X/\∃ n,dD w' D n ko X.kids
 | .error f=>b=false/\f.1 ≠ 0/\∃ k q,Rq w' g lo lc L k q (some f)
def Ai (w:World) (g:Nat) (lo:Option Addr) (lc:Nat) (L:List Tok) (op:Int) (r:Rs) (e:Ending) (w':World):Prop :=
 But (fun j=>j=g) w w'/\∃ X ko kc b,e=.returned (.tuple #[exv X ko kc,.bool b])/\dO w.heap.size g lo lc L op r X ko b w'
def Vm (L:List Tok) (k:Nat):Rs:=if (tkA L k).kd=1 then yX L k else jW L 2 k
theorem B6Q {L:List Tok} {k:Nat} (h:Pg L k=none):Vm L k=jW L 2 k:=by
 unfold Pg at h;unfold Vm yX;split at h
 · cases h
 ·
  rename_i g;by_cases h1:(tkA L k).kd=1
  · rw [if_pos h1];rw [if_neg (fun q=>g (by rw [h1,q];rfl))]
  · rw [if_neg h1]
theorem Yb {L:List Tok} {k:Nat} {v:ByteArray} (h:Pg L k=some v):(tkA L k).kd=1/\(tkA L k).tx=v/\bN v=true:=by
 unfold Pg at h;split at h
 · rename_i g;rw [Bool.and_eq_true,beq_iff_eq] at g;injection h with h;exact ⟨g.1,h,by rw [<- h];exact g.2⟩
 · cases h
theorem B2f {L:List Tok} {k:Nat} {v:ByteArray} (h:Pg L k=some v):Vm L k=if isS L (k + 1) (⟨#[58,58]⟩:ByteArray).data.toList=true then (match Pg L (k + 2) with | some u=>.ok (lF 11 (v ++ (⟨#[58,58]⟩ ++ u)),k + 3) | none=>jW L 2 (k + 2)) else .ok (lF 11 v,k + 1):=by
 obtain ⟨h1,h2,h3⟩:=Yb h;unfold Vm yX;rw [if_pos h1,h2,if_pos h3];show (if isS L (k + 1) [58,58]=true then _ else _)=(if isS L (k + 1) [58,58]=true then _ else _);split
 ·
  unfold Pg;split
  · rw [ByteArray.append_assoc]
  · rfl
 · rfl
set_option maxRecDepth 1000000 in
set_option maxHeartbeats 1600000 in
theorem B8t (HW:oJ) (g:Nat) (lo:Option Addr) (lc:Nat) (L:List Tok) (k:Nat) (op:Int) (hn:(L.length:Int)<=90000) (hNB:∀ j,(tkA L j).kd ≠ 0->j + 1 < L.length) (hk:k < L.length) (htx:∀ t ∈ L,t.tx.size<=1000000) (w:World) (h:Rq w g lo lc L k op none) :
  Calls Tryz.prog 196 #[.pointer (some ⟨g,0,none⟩)] w fun e w'=>Ai w g lo lc L op (Vm L k) e w':=by
 have HNM:=aH (fun j (hj:j < L.length) W (hW:Rq W g lo lc L j op none)=>A6L HW g lo lc L j op none (by omega) hj htx W hW);have HST:=aH (fun j (hj:j < L.length) W (hW:Rq W g lo lc L j op none)=>Vv 2 g lo lc L j op none (by omega) hj W hW);have HTK:=aH (fun j (hj:j < L.length) W (hW:Rq W g lo lc L j op none)=>Hz ⟨#[58,58]⟩ g lo lc L j op none (by omega) hj W hW);have HNO:=aH (fun (h:Pg L k=none)=>B6Q h);have HYE:=aH (fun v (h:Pg L k=some v)=>B2f h);have HBN:=aH hNB;have HKK:=aH hk;clear hNB htx hk hn HW;have HH:=aH h;have hbl:Below w.heap.size w (w.alloc (.cells #[.int .i64 0,.string ⟨#[]⟩,.int .u64 0,.int .u64 0,.int .u64 0,.int .u64 0,.slice none 0 0] 32)):=bA _;have HQ:=aH (h.below hbl);have HA:=aH (Own.fresh w 32 [.int .i64 0,.string ⟨#[]⟩,.int .u64 0,.int .u64 0,.int .u64 0,.int .u64 0,.slice none 0 0]);have HU:=aH (But.of_below (S:=fun j=>j=g) hbl);have hlt:=h.1.lt;obtain ⟨N,hN⟩:∃ N,w.heap.size=N:=⟨_,rfl⟩;have HNN:=aH hN;have HG:=aH (show g < N by omega);rw [hN] at HA;clear h hbl hlt;go_enter Tryz.func196,Tryz.ntmps196;go_upto_region 1 with fail;generalize World.alloc w _=w1 at *;try rw [hN]
 clear hN;go_wp2_with fail;refine (HNM.o k HKK.o _ HQ.o).mono ?_;rintro e w2 ⟨hb,he⟩;have HA2:=aH (HA.o.but hb (by have:=HG.o;omega));have HU2:=aH (HU.o.trans hb (fun _ _ h=>h));clear hb HA HU HQ;obtain ⟨r1,hr1⟩:∃ r,Pg L k=r:=⟨_,rfl⟩;rw [hr1] at he
 cases r1 with
 | none =>
  obtain ⟨rfl,hq⟩:=he;have HQ2:=aH hq;have HE:=aH (HNO.o hr1);clear hq hr1;go_wp2_with fail;refine (HST.o k HKK.o _ HQ2.o).mono ?_;rintro e w3 ⟨rfl,hb,hq⟩;have HA3:=aH (HA2.o.but hb (by have:=HG.o;omega));have HU3:=aH (HU2.o.trans hb (fun _ _ h=>h));have HQ3:=aH hq;clear hb hq HA2 HU2 HQ2;rw [Eh];obtain ⟨z0,z1,z2,z3,z4,z5,z6,y0,y1,y2,y3,y4,y5,y6⟩:=HA3.o.seven2;have zl:=HA3.o.lt;go_wp2;clear z0 z1 z2 z3 z4 z5 z6 y0 y1 y2 y3 y4 y5 y6 zl;rw [aU];have hf:=fun k q F (hR:Rq w3 g lo lc L k q F)=>Rq.fin (N:=N) HH.o (Nat.le_of_eq HNN.o) HU3.o hR (.int .i64 0) (.string ⟨#[]⟩) (.int .u64 0) (.int .u64 0) (.int .u64 0) (.int .u64 0) (.slice none 0 0);have HF:=(fZ (p7 HA3.o))
  skip
  obtain ⟨hU,hR⟩:=hf _ _ _ HQ3.o;clear hf;generalize bI w3 N _ _ _ _ _ _ _=w9 at *;obtain ⟨z0,z1,z2,z3,z4,z5,z6⟩:=HF.seven;refine bodyPost_ret (by simp [results,Tryz.results196,go_sem,z0,z1,z2,z3,z4,z5,z6];rfl) rfl ?_;rw [HE.o];exact ⟨hU,ex0,none,0,false,rfl,rfl,(by show (2:Int) ≠ 0;decide),_,_,hR⟩
 | some v =>
  obtain ⟨rfl,hq⟩:=he;have HQ2:=aH hq;have HE:=aH (HYE.o v hr1);have hv:=Yb hr1;have HK1:=aH (HBN.o k (by rw [hv.1];decide));have HV:=aH (Ij hv.2.2);have hv0:(v.size:Int)<=12:=by have:=HV.o;omega
  clear hq hr1 hv;go_wp2_with fail;refine (HTK.o (k + 1) HK1.o _ HQ2.o).mono ?_;rintro e w3 ⟨rfl,hb,hq⟩;have HA3:=aH (HA2.o.but hb (by have:=HG.o;omega));have HU3:=aH (HU2.o.trans hb (fun _ _ h=>h));clear hb HA2 HU2 HQ2;obtain ⟨z,hz⟩:∃ z,isS L (k + 1) (⟨#[58,58]⟩:ByteArray).data.toList=z:=⟨_,rfl⟩;rw [hz] at hq HE ⊢;have HQ3:=aH hq;clear hq
  cases z with
  | false =>
   clear hz;obtain ⟨z0,z1,z2,z3,z4,z5,z6,y0,y1,y2,y3,y4,y5,y6⟩:=HA3.o.seven2;have zl:=HA3.o.lt;go_wp2;clear z0 z1 z2 z3 z4 z5 z6 y0 y1 y2 y3 y4 y5 y6 zl;rw [aU];have hf:=fun k q F (hR:Rq w3 g lo lc L k q F)=>Rq.fin (N:=N) HH.o (Nat.le_of_eq HNN.o) HU3.o hR (.int .i64 11) (.string v) (.int .u64 0) (.int .u64 0) (.int .u64 0) (.int .u64 0) (.slice none 0 0);have HF:=(p7 HA3.o (.int .i64 11) (.string v) (.int .u64 0) (.int .u64 0) (.int .u64 0) (.int .u64 0) (.slice none 0 0))
   skip
   obtain ⟨hU,hR⟩:=hf _ _ _ HQ3.o;clear hf;generalize bI w3 N _ _ _ _ _ _ _=w9 at *;obtain ⟨z0,z1,z2,z3,z4,z5,z6⟩:=HF.seven;refine bodyPost_ret (by simp [results,Tryz.results196,go_sem,z0,z1,z2,z3,z4,z5,z6];rfl) rfl ?_;rw [HE.o];exact ⟨hU,lF 11 v,none,0,true,rfl,rfl,hR,rfl,0,dD.nil _ _ _⟩
  | true =>
   have HK2:=aH (HBN.o (k + 1) (by unfold isS at hz;rw [Bool.and_eq_true,beq_iff_eq] at hz;rw [hz.1];decide));clear hz;go_wp2_with fail;refine (HNM.o (k + 2) HK2.o _ HQ3.o).mono ?_;rintro e w4 ⟨hb,he⟩;have HA4:=aH (HA3.o.but hb (by have:=HG.o;omega));have HU4:=aH (HU3.o.trans hb (fun _ _ h=>h));clear hb HA3 HU3 HQ3;obtain ⟨r2,hr2⟩:∃ r,Pg L (k + 2)=r:=⟨_,rfl⟩;rw [hr2] at he HE
   cases r2 with
   | none =>
    obtain ⟨rfl,hq⟩:=he;have HQ4:=aH hq;clear hq hr2;go_wp2_with fail;refine (HST.o (k + 2) HK2.o _ HQ4.o).mono ?_;rintro e w5 ⟨rfl,hb,hq⟩;have HA5:=aH (HA4.o.but hb (by have:=HG.o;omega));have HU5:=aH (HU4.o.trans hb (fun _ _ h=>h));have HQ5:=aH hq;clear hb hq HA4 HU4 HQ4;rw [Eh];obtain ⟨z0,z1,z2,z3,z4,z5,z6,y0,y1,y2,y3,y4,y5,y6⟩:=HA5.o.seven2;have zl:=HA5.o.lt;go_wp2;clear z0 z1 z2 z3 z4 z5 z6 y0 y1 y2 y3 y4 y5 y6 zl;rw [aU];have hf:=fun k q F (hR:Rq w5 g lo lc L k q F)=>Rq.fin (N:=N) HH.o (Nat.le_of_eq HNN.o) HU5.o hR (.int .i64 0) (.string ⟨#[]⟩) (.int .u64 0) (.int .u64 0) (.int .u64 0) (.int .u64 0) (.slice none 0 0);have HF:=(fZ (p7 HA5.o))
    skip
    obtain ⟨hU,hR⟩:=hf _ _ _ HQ5.o;clear hf;generalize bI w5 N _ _ _ _ _ _ _=w9 at *;obtain ⟨z0,z1,z2,z3,z4,z5,z6⟩:=HF.seven;refine bodyPost_ret (by simp [results,Tryz.results196,go_sem,z0,z1,z2,z3,z4,z5,z6];rfl) rfl ?_;rw [HE.o];exact ⟨hU,ex0,none,0,false,rfl,rfl,(by show (2:Int) ≠ 0;decide),_,_,hR⟩
   | some u =>
    obtain ⟨rfl,hq⟩:=he;have HQ4:=aH hq;have hu0:(u.size:Int)<=12:=(by have:=Ij (Yb hr2).2.2;omega);clear hq hr2;have hu1:((⟨#[58,58]⟩ ++ u:ByteArray).size:Int)<=14:=(by rw [ByteArray.size_append];have e:(⟨#[58,58]⟩:ByteArray).size=2:=rfl;omega);obtain ⟨z0,z1,z2,z3,z4,z5,z6,y0,y1,y2,y3,y4,y5,y6⟩:=HA4.o.seven2;have zl:=HA4.o.lt;go_wp2;clear z0 z1 z2 z3 z4 z5 z6 y0 y1 y2 y3 y4 y5 y6 zl;rw [aU];have hf:=fun k q F (hR:Rq w4 g lo lc L k q F)=>Rq.fin (N:=N) HH.o (Nat.le_of_eq HNN.o) HU4.o hR (.int .i64 11) (.string (v ++ (⟨#[58,58]⟩ ++ u))) (.int .u64 0) (.int .u64 0) (.int .u64 0) (.int .u64 0) (.slice none 0 0);have HF:=(p7 HA4.o (.int .i64 11) (.string (v ++ (⟨#[58,58]⟩ ++ u))) (.int .u64 0) (.int .u64 0) (.int .u64 0) (.int .u64 0) (.slice none 0 0))
    skip
    obtain ⟨hU,hR⟩:=hf _ _ _ HQ4.o;clear hf;generalize bI w4 N _ _ _ _ _ _ _=w9 at *;obtain ⟨z0,z1,z2,z3,z4,z5,z6⟩:=HF.seven;refine bodyPost_ret (by simp [results,Tryz.results196,go_sem,z0,z1,z2,z3,z4,z5,z6];rfl) rfl ?_;rw [HE.o];exact ⟨hU,lF 11 (v ++ (⟨#[58,58]⟩ ++ u)),none,0,true,rfl,rfl,hR,rfl,0,dD.nil _ _ _⟩
end Go.Proofs.YthkdnehgamefiaaGreat
