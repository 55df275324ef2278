import Derived.Test.YthkdnehgamefiaaGreatDx
namespace Go.Proofs.YthkdnehgamefiaaGreat
set_option linter.unusedVariables false
set_option maxHeartbeats 6400000
set_option maxRecDepth 1000000
set_option maxRecDepth 1000000
open Go.RowKit Go.Sort
theorem impL_step (L:List Tok) (nm:ByteArray) (f:Nat) (im:List ByteArray) (k:Nat):yD L nm (f + 1) im k=if wdB L k 1 [105,109,112,111,114,116]=true then (match impP L nm im k with
  | .error e=>.error e
  | .ok (x,k2)=>yD L nm f (im ++ [x]) k2) else .ok (im,k):=by
 conv=>lhs;unfold yD
 by_cases h0:wdB L k 1 [105,109,112,111,114,116]=true
 ·
  rw [if_pos h0,if_pos h0];unfold impP;by_cases h4:im.length=4
  · rw [if_pos h4,if_pos h4]
  ·
   rw [if_neg h4,if_neg h4,nmeO_p]
   cases Pg L (k + 1) with
   | none=>rfl
   | some x =>
    simp only [];have e:hasB (nm :: im) x=(x.toList == nm.toList || hasB im x):=(by unfold hasB;rw [List.any_cons,BEq.comm]);rw [e];by_cases hh:(x.toList == nm.toList || hasB im x)=true
    · rw [if_pos hh,if_pos hh]
    ·
     rw [if_neg hh,if_neg hh];simp only [];rw [sgnO_p];by_cases hs:wdB L (k + 1 + 1) 4 [59]=true
     · rw [if_pos hs,if_pos hs]
     · rw [if_neg hs,if_neg hs]
 · rw [if_neg h0,if_neg h0]
theorem impP_ok {L:List Tok} {nm:ByteArray} {im:List ByteArray} {k k2:Nat} {x:ByteArray} (h:impP L nm im k=.ok (x,k2)):im.length ≠ 4/\k2=k + 3/\wdB L (k + 2) 4 [59]=true:=by
 unfold impP at h;by_cases h4:im.length=4
 · rw [if_pos h4] at h;cases h
 ·
  rw [if_neg h4] at h
  cases hn:Pg L (k + 1) with
  | none=>rw [hn] at h;cases h
  | some y =>
   rw [hn] at h;simp only [] at h;by_cases hh:(y.toList == nm.toList || hasB im y)=true
   · rw [if_pos hh] at h;cases h
   ·
    rw [if_neg hh] at h;by_cases hs:wdB L (k + 2) 4 [59]=true
    · rw [if_pos hs] at h;injection h with h;injection h with h1 h2;exact ⟨h4,h2.symm,hs⟩
    · rw [if_neg hs] at h;cases h
def IsE (g:Nat) (lo:Option Addr) (lc:Nat) (L:List Tok) (z:Mz) (r:Except Ft2 (List ByteArray × Nat)) (e:Ending) (w':World):Prop:=match r with
 | .ok (im,k)=>e=.returned (.bool true)/\k < L.length/\∃ io ic,Dq w' g lo lc L k ⟨{ z.m with im:=im },io,ic,z.ko,z.kc,z.ro,z.rc⟩ none/\Dmz w' (g + 1) ⟨{ z.m with im:=im },io,ic,z.ko,z.kc,z.ro,z.rc⟩
 | .error f=>Flt w' g lo lc L f e
def rulP (L:List Tok) (R:List (ByteArray × Ex)) (k:Nat):Except Ft2 ((ByteArray × Ex) × Nat):=match Pg L k with
 | none=>.error (gH L 2 k)
 | some x=>if hasB (R.map (·.1)) x=true then .error (gH L 4 k) else if R.length=24 then .error (gH L 3 k) else match uW L (k + 1) with
  | .error e=>.error e
  | .ok (y,m)=>.ok ((x,y),m)
def RlE (g:Nat) (lo:Option Addr) (lc:Nat) (L:List Tok) (z:Mz) (r:Except Ft2 ((ByteArray × Ex) × Nat)) (e:Ending) (w':World):Prop:=match r with
 | .ok (x,k)=>e=.returned (.bool true)/\∃ ro rc,Dq w' g lo lc L k ⟨{ z.m with ru:=z.m.ru ++ [x] },z.io,z.ic,z.ko,z.kc,ro,rc⟩ none/\Dmz w' (g + 1) ⟨{ z.m with ru:=z.m.ru ++ [x] },z.io,z.ic,z.ko,z.kc,ro,rc⟩
 | .error f=>Flt w' g lo lc L f e
@[go_sem 2000] theorem rbuild1 (t:ByteArray) (w:World):(Instr.build 51 #[(0,.string t)]).run Tryz.prog w=.ok (.agg #[.string t,.int .i64 0,.string ⟨#[]⟩,.int .u64 0,.int .u64 0,.int .u64 0,.int .u64 0,.slice none 0 0]) w:=run_build w _ _ _ (by kernel_rfl)
theorem Dq.ru {w:World} {g:Nat} {lo:Option Addr} {lc:Nat} {L:List Tok} {k n:Nat} {z:Mz} {F:Option Ft2} (h:Dq w g lo lc L k z F) (x:ByteArray × Ex) (ro:Option Addr) (rc:Nat) (hn:z.m.ru.length=n):Dq (w.setCell ⟨g,12,none⟩ (.slice ro (n + 1) rc)) g lo lc L k ⟨{ z.m with ru:=z.m.ru ++ [x] },z.io,z.ic,z.ko,z.kc,ro,rc⟩ F:=by
 subst hn;refine ⟨?_,h.2.1.but h.2.2 (But.put _ _ _ _),h.2.2⟩;have q:=h.1.put 12 (.slice ro (z.m.ru.length + 1) rc);have e:dprow (.slice lo L.length lc) (k:Int) ⟨{ z.m with ru:=z.m.ru ++ [x] },z.io,z.ic,z.ko,z.kc,ro,rc⟩ F=(dprow (.slice lo L.length lc) (k:Int) z F).set 12 (.slice ro (z.m.ru.length + 1) rc):=by simp [dprow]
 rw [e];exact q
theorem dp_imports (HW:oJ) (g:Nat) (lo:Option Addr) (lc:Nat) (L:List Tok) (k:Nat) (z:Mz) (hn:(L.length:Int)<=90000) (hk:k < L.length) (htx:∀ t ∈ L,t.tx.size<=1000000) (HNB:∀ j,(tkA L j).kd ≠ 0->j + 1 < L.length) (F:Nat) (hF:L.length < F + k) (h4:z.m.im.length<=4) (hlo:∀ a,lo=some a->a.block < g) (w:World) (h:Dq w g lo lc L k z none) (hm:Dmz w (g + 1) z) :
  Calls Tryz.prog 39 #[.pointer (some ⟨g,0,none⟩)] w fun e w'=>IsE g lo lc L z (yD L z.m.nm F z.m.im k) e w'/\But (fun j=>g<=j) w w':=by
 have HC:=aH (fun j (hj:j < L.length) z' W (hW:Dq W g lo lc L j z' none)=>dp_comes 1 ⟨#[105,109,112,111,114,116]⟩ g lo lc L j z' none (by omega) hj W hW);have HO:=aH (fun j (hj:j + 1 < L.length) z' (h4':z'.m.im.length<=4) W (hW:Dq W g lo lc L j z' none) (hM:Dmz W (g + 1) z')=>dp_oneImport HW g lo lc L j z' hn hj htx HNB h4' hlo W hW hM);have HNB':=aH HNB;obtain ⟨RES,hres⟩:∃ r,yD L z.m.nm F z.m.im k=r:=⟨_,rfl⟩;have HR0:=aH (show RES=yD L z.m.nm F z.m.im k from hres.symm);have HF0:=aH hF;have HK0:=aH hk;have H40:=aH h4;have HQ0:=aH h;have HM0:=aH hm;have HU0:=aH (But.refl (fun j=>g<=j) w);rw [hres];clear hres h hm hk htx hn HNB hlo hF h4;go_enter Tryz.func39,Tryz.ntmps39;go_wp2_with fail
 go_loopw [] (fun wr=>∃ (j f:Nat) (im:List ByteArray) (io:Option Addr) (ic:Nat),aQ (RES=yD L z.m.nm f im j)/\aQ (L.length < f + j)/\aQ (j < L.length)/\aQ (im.length<=4)/\aQ (Dq wr g lo lc L j ⟨{ z.m with im:=im },io,ic,z.ko,z.kc,z.ro,z.rc⟩ none)/\aQ (Dmz wr (g + 1) ⟨{ z.m with im:=im },io,ic,z.ko,z.kc,z.ro,z.rc⟩)/\aQ (But (fun j=>g<=j) w wr))
  (fun wr=>L.length - (intOf ((wr.cell? ⟨g,1,none⟩).getD (.bool false))).toNat)
 case atStart=>exact ⟨k,F,z.m.im,z.io,z.ic,HR0,HF0,HK0,H40,HQ0,HM0,HU0⟩
 case round =>
  obtain ⟨j,f,im,io,ic,HR,HF,HJ,H4,HQ,HM,HU⟩:=hrel;clear HR0 HF0 HK0 H40 HQ0 HM0 HU0;obtain ⟨f,rfl⟩:∃ q,f=q + 1:=⟨f - 1,by have h1:=HF.o;have h2:=HJ.o;omega⟩;go_wp2_with fail;refine (HC.o j HJ.o _ _ HQ.o).mono ?_;rintro e w1 ⟨rfl,hb1⟩;have HQ1:=aH (HQ.o.below hb1);have HM1:=aH (HM.o.below hb1);have HU1:=aH (HU.o.trans (But.of_below (S:=fun j=>g<=j) hb1) (fun _ _ h=>h));clear hb1 HM HU
  cases hwd:wdB L j 1 (⟨#[105,109,112,111,114,116]⟩:ByteArray).data.toList
  case false =>
   have HE:=aH (show RES=.ok (im,j) from by rw [HR.o,impL_step,show wdB L j 1 [105,109,112,111,114,116]=false from hwd];rfl);go_wp2;go_ret;exact ⟨by rw [HE.o];exact ⟨rfl,HJ.o,io,ic,HQ1.o,HM1.o⟩,HU1.o⟩
  case true =>
   have HJ1:=aH (show j + 1 < L.length from HNB'.o j (by rw [wdB_kd hwd];decide))
   have HS:=aH (show RES=(match impP L z.m.nm im j with
    | .error e=>.error e
    | .ok (x,k2)=>yD L z.m.nm f (im ++ [x]) k2) from by rw [HR.o,impL_step,show wdB L j 1 [105,109,112,111,114,116]=true from hwd];rfl)
   go_wp2_with fail;refine (HO.o j HJ1.o ⟨{ z.m with im:=im },io,ic,z.ko,z.kc,z.ro,z.rc⟩ H4.o _ HQ1.o HM1.o).mono ?_;rintro e w2 ⟨hi,hu⟩;have HU2:=aH (HU1.o.trans hu (fun _ _ h=>h));clear hu;have hi:ImE g lo lc L ⟨{ z.m with im:=im },io,ic,z.ko,z.kc,z.ro,z.rc⟩ (impP L z.m.nm im j) e w2:=hi
   cases hp:impP L z.m.nm im j with
   | error fl =>
    rw [hp] at hi;obtain ⟨he,h0,k',z',hk',hq⟩:=hi;subst he;have HE:=aH (show RES=.error fl from by rw [HS.o,hp]);have HFL:=aH (And.intro h0 (And.intro hk' hq));clear h0 hk' hq;go_wp2;go_ret;exact ⟨by rw [HE.o];exact ⟨rfl,HFL.o.1,k',z',HFL.o.2.1,HFL.o.2.2⟩,HU2.o⟩
   | ok p =>
    obtain ⟨x,k2⟩:=p;rw [hp] at hi;obtain ⟨he,io',ic',hq,hm⟩:=hi;subst he;obtain ⟨hn4,hk2,hsc⟩:=impP_ok hp;subst hk2;have HJ3:=aH (show j + 3 < L.length from HNB'.o (j + 2) (by rw [wdB_kd hsc];decide));have HE:=aH (show RES=yD L z.m.nm f (im ++ [x]) (j + 3) from by rw [HS.o,hp]);have HF3:=aH (show L.length < f + (j + 3) from by have:=HF.o;omega);have H43:=aH (show (im ++ [x]).length<=4 from by rw [List.length_append];have:=H4.o;simp;omega);have HQ3:=aH (show Dq w2 g lo lc L (j + 3) ⟨{ z.m with im:=im ++ [x] },io',ic',z.ko,z.kc,z.ro,z.rc⟩ none from hq);have HM3:=aH (show Dmz w2 (g + 1) ⟨{ z.m with im:=im ++ [x] },io',ic',z.ko,z.kc,z.ro,z.rc⟩ from hm);clear hq hm hn4 hsc hwd;go_wp2
    go_roundw
    case rel=>exact ⟨j + 3,f,im ++ [x],io',ic',HE,HF3,HJ3,H43,HQ3,HM3,HU2⟩
    case measure =>
     have e1:w2.cell? ⟨g,1,none⟩=some (.int .i64 ((j + 3:Nat):Int)):=HQ3.o.1.cell 1;have e0:wr.cell? ⟨g,1,none⟩=some (.int .i64 (j:Int)):=HQ.o.1.cell 1;rw [e1,e0];simp [intOf];have:=HJ3.o;omega
theorem dp_oneRule (HW:oJ) (g:Nat) (lo:Option Addr) (lc:Nat) (L:List Tok) (k:Nat) (z:Mz) (hn:(L.length:Int)<=90000) (hk:k < L.length) (htx:∀ t ∈ L,t.tx.size<=1000000) (HNB:∀ j,(tkA L j).kd ≠ 0->j + 1 < L.length) (h24:z.m.ru.length<=24) (hlo:∀ a,lo=some a->a.block < g) (w:World) (h:Dq w g lo lc L k z none) (hm:Dmz w (g + 1) z) :
  Calls Tryz.prog 73 #[.pointer (some ⟨g,0,none⟩)] w fun e w'=>RlE g lo lc L z (rulP L z.m.ru k) e w'/\But (fun j=>g<=j) w w':=by
 have HM0:=aH hm;have HLO:=aH hlo;have HK0:=aH hk;have HNB':=aH HNB;have HU0:=aH (But.refl (fun j=>g<=j) w);have HF:=aH (fun c z' W (hW:Dq W g lo lc L k z' none)=>dp_stop c g lo lc L k z' none (by omega) hk W hW);have HN:=aH (dp_name HW g lo lc L k z (by omega) hk htx w h);have HB:=aH (fun (h1:k + 1 < L.length) z' r nm (hrg:r ≠ g) (hlr:∀ a,lo=some a->a.block ≠ r) W (hW:Dq W g lo lc L (k + 1) z' none) hr=>dp_bodyr HW g lo lc L (k + 1) z' r nm hrg hlr hn h1 htx HNB W hW hr)
 have HSP:=aH (show rulP L z.m.ru k=(match Pg L k with
  | none=>.error (gH L 2 k)
  | some x=>if hasB (z.m.ru.map (·.1)) x=true then .error (gH L 4 k) else if z.m.ru.length=24 then .error (gH L 3 k) else match uW L (k + 1) with
   | .error e=>.error e
   | .ok (y,m)=>.ok ((x,y),m)) from rfl)
 generalize rulP L z.m.ru k=RES at *;have HHS:=aH (fun x n W (hW:sN W (g + 1) n z.ro z.m.ru)=>dhas_any z.m.ru (g + 1) n z.ro z.rc x (by omega) W hW);have HRU:=aH (fun x ro rc W (hW:Dq W g lo lc L 0 z none)=>hW.ru x ro rc (n:=z.m.ru.length) rfl);obtain ⟨n,hni⟩:∃ n,z.m.ru.length=n:=⟨_,rfl⟩;have HNI:=aH hni;rw [hni] at HSP HHS h24;have hw1:IntKind.i64.wrap ((k:Int) + 1)=(k:Int) + 1:=by rw [IntKind.wrap_i64];have:=hn;omega
 clear h hm hk htx HNB hlo hni HRU;go_enter Tryz.func73,Tryz.ntmps73;go_wp2_with fail;refine HN.o.mono ?_;rintro e w1 ⟨hm,hu⟩;have HU1:=aH (HU0.o.trans (hu.mono (T:=fun j=>g<=j) (fun j _ e=>by omega)) (fun _ _ h=>h));have HM1:=aH (HM0.o.keep hu (fun b hb=>.inl (by omega)));clear hu HU0 HM0 HN
 cases hnm:Pg L k with
 | none =>
  rw [hnm] at hm;obtain ⟨he,hq⟩:=hm;subst he;have HE:=aH (show RES=.error (gH L 2 k) from by rw [HSP.o,hnm]);have HQ:=aH hq;clear hq;go_wp2;go_ret;exact ⟨by rw [HE.o];exact ⟨rfl,(show (2:Int) ≠ 0 by decide),_,_,HK0.o,HQ.o⟩,HU1.o⟩
 | some x =>
  rw [hnm] at hm;obtain ⟨he,hq⟩:=hm;subst he
  have HS1:=aH (show RES=if hasB (z.m.ru.map (·.1)) x=true then .error (gH L 4 k) else if n=24 then .error (gH L 3 k) else match uW L (k + 1) with
   | .error e=>.error e
   | .ok (y,m)=>.ok ((x,y),m) from by rw [HSP.o,hnm])
  have HL1:=aH (show k + 1 < L.length from HNB'.o k (by rw [nmeP_kd hnm];decide));have HQ1:=aH hq;obtain ⟨nh,hhk,hhr⟩:=HM1.o.done.2.2.2;have HHX:=aH (HHS.o x nh w1 hhr);have c12:w1.cell? ⟨g,12,none⟩=some (.slice z.ro z.m.ru.length z.rc):=hq.1.cell 12;rw [HNI.o] at c12;have cg:=hq.1.lt;obtain ⟨zh,hzh⟩:∃ b,hasB (z.m.ru.map (·.1)) x=b:=⟨_,rfl⟩;rw [hzh] at HHX HS1;clear hq hnm hhk hhr HSP HHS hzh;go_wp2_with fail;refine HHX.o.mono ?_;rintro e w2 ⟨rfl,hb2⟩;have HQ2:=aH (HQ1.o.below hb2);have HM2:=aH (HM1.o.below hb2);have HU2:=aH (HU1.o.trans (But.of_below (S:=fun j=>g<=j) hb2) (fun _ _ h=>h));clear hb2 HQ1 HM1 HU1 HHX c12 cg
  cases zh with
  | true =>
   have HE:=aH (show RES=.error (gH L 4 k) from by rw [HS1.o];rfl);go_wp2_with fail;refine (HF.o 4 _ _ HQ2.o).mono ?_;rintro e w9 ⟨rfl,hu,hq⟩;have HU9:=aH (HU2.o.trans (hu.mono (T:=fun j=>g<=j) (fun j _ e=>by omega)) (fun _ _ h=>h));have HQ9:=aH hq;clear hu hq;go_wp2;go_ret;exact ⟨by rw [HE.o];exact ⟨rfl,(show (4:Int) ≠ 0 by decide),_,_,HK0.o,HQ9.o⟩,HU9.o⟩
  | false =>
   have HS2:=aH (show RES=if n=24 then .error (gH L 3 k) else match uW L (k + 1) with
     | .error e=>.error e
     | .ok (y,m)=>.ok ((x,y),m) from by rw [HS1.o];rfl)
   have c12:w2.cell? ⟨g,12,none⟩=some (.slice z.ro z.m.ru.length z.rc):=HQ2.o.1.cell 12;rw [HNI.o] at c12;have cg:=HQ2.o.1.lt;by_cases h44:n=24
   case pos =>
    have HE:=aH (show RES=.error (gH L 3 k) from by rw [HS2.o,if_pos h44]);subst h44;go_wp2_with fail;refine (HF.o 3 _ _ HQ2.o).mono ?_;rintro e w9 ⟨rfl,hu,hq⟩;have HU9:=aH (HU2.o.trans (hu.mono (T:=fun j=>g<=j) (fun j _ e=>by omega)) (fun _ _ h=>h));have HQ9:=aH hq;clear hu hq;go_wp2;go_ret;exact ⟨by rw [HE.o];exact ⟨rfl,(show (3:Int) ≠ 0 by decide),_,_,HK0.o,HQ9.o⟩,HU9.o⟩
   have h44i:((n:Int) == 24)=false:=aN.2 (by omega);have h44d:decide ((n:Int)=24)=false:=aF (by omega)
   have HS3:=aH (show RES=(match uW L (k + 1) with
      | .error e=>.error e
      | .ok (y,m)=>.ok ((x,y),m)) from by rw [HS2.o,if_neg h44])
   have HQ3:=aH (HQ2.o.at (k + 1) (.int .i64 ((k:Int) + 1)) (by simp));have hbt:=(But.refl (fun j=>j=g) w2).setCell (p:=⟨g,1,none⟩) (fun _=>rfl) (.int .i64 ((k:Int) + 1));have HU3:=aH (HU2.o.trans (hbt.mono (T:=fun j=>g<=j) (fun j _ e=>by omega)) (fun _ _ h=>h));have HM3:=aH (HM2.o.keep hbt (fun b hb=>.inl (by omega)));have c1:w2.cell? ⟨g,1,none⟩=some (.int .i64 (k:Int)):=HQ2.o.1.cell 1;have f1:w2.frozen? ⟨g,1,none⟩=false:=HQ2.o.1.thaw 1;clear hbt HQ2 HM2 HU2 HS1 HS2;go_upto_region 9 with fail;clear c1 f1 c12 cg;generalize World.setCell w2 _ _=w3 at *;have hbl:Below w3.heap.size w3 (w3.alloc (.cells #[.string x,.int .i64 0,.string ⟨#[]⟩,.int .u64 0,.int .u64 0,.int .u64 0,.int .u64 0,.slice none 0 0] 51)):=bA _;have HOR:=aH (Own.fresh w3 51 [.string x,.int .i64 0,.string ⟨#[]⟩,.int .u64 0,.int .u64 0,.int .u64 0,.int .u64 0,.slice none 0 0]);have HQ4:=aH (HQ3.o.below hbl);have HU4:=aH (HU3.o.trans (But.of_below (S:=fun j=>g<=j) hbl) (fun _ _ h=>h));have HBL:=aH hbl;have HG3:=aH HQ3.o.1.lt;clear hbl;go_upto_region 10 with fail;obtain ⟨w4,hw4⟩:∃ z,w3.alloc (.cells #[.string x,.int .i64 0,.string ⟨#[]⟩,.int .u64 0,.int .u64 0,.int .u64 0,.int .u64 0,.slice none 0 0] 51)=z:=⟨_,rfl⟩;have HSZ:=aH (show w4.heap.size=w3.heap.size + 1 from by rw [<- hw4];simp);rw [hw4] at HOR HQ4 HU4 HBL ⊢;clear hw4;obtain ⟨r,hr⟩:∃ r,w3.heap.size=r:=⟨_,rfl⟩;have HRR:=aH hr;rw [hr] at HOR HG3 HSZ;try rw [hr]
   clear hr;have HRG:=aH (show r ≠ g from by have:=HG3.o;omega);have HLR:=aH (show ∀ a,lo=some a->a.block ≠ r from fun a ha=>by have:=HLO.o a ha;have:=HG3.o;omega);have rl:=HOR.o.lt;go_wp2_with fail;refine (HB.o HL1.o _ r x HRG.o HLR.o w4 HQ4.o HOR.o).mono ?_;rintro e w5 ⟨hb,hu⟩;have HU5:=aH (HU4.o.trans (hu.mono (T:=fun j=>g<=j) (fun j _ e=>by have:=HG3.o;rcases e with e | e <;> omega)) (fun _ _ h=>h));have HUB:=aH hu;have hb:BoR w4.heap.size g r x lo lc L z (uW L (k + 1)) e w5:=hb;clear hu rl HB
   cases hbo:uW L (k + 1) with
   | error f =>
    rw [hbo] at hb;obtain ⟨he,h0,k',z',hk',hq⟩:=hb;subst he;have HE:=aH (show RES=.error f from by rw [HS3.o,hbo]);have HFL:=aH (And.intro h0 (And.intro hk' hq));clear h0 hk' hq;go_wp2;go_ret;exact ⟨by rw [HE.o];exact ⟨rfl,HFL.o.1,k',z',HFL.o.2.1,HFL.o.2.2⟩,HU5.o⟩
   | ok p =>
    obtain ⟨y,m⟩:=p;rw [hbo] at hb;obtain ⟨he,ko,kc,nE,hq,hor,hE⟩:=hb;subst he;have HE:=aH (show RES=.ok ((x,y),m) from by rw [HS3.o,hbo]);obtain ⟨S1,S2,R,Z,nz,d1,d2,d3,d4,d5,d6,d8,d9⟩:=HM3.o;have HD:=aH (And.intro d1 (And.intro d2 (And.intro d3 (And.intro d4 (And.intro d5 (And.intro d8 d9))))));have HZN:=aH (show Z.length=n from by rw [<- HNI.o,<- d4,List.length_map]);have HD6:=aH d6;have HQ5:=aH hq;have HOR5:=aH hor;have HE5:=aH hE;have c12:w5.cell? ⟨g,12,none⟩=some (.slice z.ro z.m.ru.length z.rc):=hq.1.cell 12;rw [HNI.o] at c12;have cg:=hq.1.lt;have r0:w5.cell? ⟨r,0,none⟩=some (.string x):=hor.cell 0;have r1:w5.cell? ⟨r,1,none⟩=some (.int .i64 y.op):=hor.cell 1;have r2:w5.cell? ⟨r,2,none⟩=some (.string y.text):=hor.cell 2;have r3:w5.cell? ⟨r,3,none⟩=some (.int .u64 y.s0):=hor.cell 3;have r4:w5.cell? ⟨r,4,none⟩=some (.int .u64 y.s1):=hor.cell 4;have r5:w5.cell? ⟨r,5,none⟩=some (.int .u64 y.s2):=hor.cell 5;have r6:w5.cell? ⟨r,6,none⟩=some (.int .u64 y.s3):=hor.cell 6;have r7:w5.cell? ⟨r,7,none⟩=some (.slice ko y.kids.length kc):=hor.cell 7;have rl:=hor.lt;have HHY:=aH (show But (fun j=>j=g\/j=r) w3 w5 from (But.of_below HBL.o).trans HUB.o (fun _ _ h=>h));clear hq hor hE d1 d2 d3 d4 d5 d6 d8 d9 hbo;obtain ⟨nk,hnk⟩:∃ q,y.kids.length=q:=⟨_,rfl⟩;have HNK:=aH hnk;rw [hnk] at r7;clear hnk;go_upto_region 12 with fail;have HC:=aH (And.intro c12 (And.intro cg (And.intro rl (And.intro r0 (And.intro r1 (And.intro r2 (And.intro r3 (And.intro r4 (And.intro r5 (And.intro r6 r7))))))))));clear c12 cg rl r0 r1 r2 r3 r4 r5 r6 r7;refine bX (fun Wx=>Below w5.heap.size w5 Wx) 8 (by kernel_rfl) ?_;have HS:=aH (show Below w5.heap.size w5 (World.drew w5) from (Below.refl _ _).drew);refine tC 0 rfl HS.o ?_;go_simp;refine tC 1 rfl HS.o ?_;go_simp;refine tC 2 rfl HS.o ?_;go_simp;refine tC 3 rfl HS.o ?_;go_simp;refine tC 4 rfl HS.o ?_;go_simp;refine aI.takeD 5 [8] rfl (v:=?_) (Or.inl ⟨by rfl,?_⟩) HS.o ?_;rotate_left;· intro W hW;obtain ⟨c12,cg,rl,r0,r1,r2,r3,r4,r5,r6,r7⟩:=HC.o;have c12:=aC c12 hW;have cg:=aL cg hW.size;have rl:=aL rl hW.size;have r0:=aC r0 hW;have r1:=aC r1 hW;have r2:=aC r2 hW;have r3:=aC r3 hW;have r4:=aC r4 hW;have r5:=aC r5 hW;have r6:=aC r6 hW;have r7:=aC r7 hW;go_simp;try with_reducible rfl
    go_simp;refine aI.takeD 6 [7,8] rfl (v:=?_) (Or.inl ⟨by rfl,?_⟩) HS.o ?_;rotate_left;· intro W hW;obtain ⟨c12,cg,rl,r0,r1,r2,r3,r4,r5,r6,r7⟩:=HC.o;have c12:=aC c12 hW;have cg:=aL cg hW.size;have rl:=aL rl hW.size;have r0:=aC r0 hW;have r1:=aC r1 hW;have r2:=aC r2 hW;have r3:=aC r3 hW;have r4:=aC r4 hW;have r5:=aC r5 hW;have r6:=aC r6 hW;have r7:=aC r7 hW;go_simp;try with_reducible rfl
    go_simp;have HYO:=aH (Own.fresh (World.drew w5) 51 [.string x,.int .i64 y.op,.string y.text,.int .u64 y.s0,.int .u64 y.s1,.int .u64 y.s2,.int .u64 y.s3,.slice ko nk kc]);have hbl:Below (World.drew w5).heap.size (World.drew w5) ((World.drew w5).alloc (.cells #[.string x,.int .i64 y.op,.string y.text,.int .u64 y.s0,.int .u64 y.s1,.int .u64 y.s2,.int .u64 y.s3,.slice ko nk kc] 51)):=bA _;refine aI.one (i:=7) (by kernel_rfl) (aY (v:=.slice (some ⟨(World.drew w5).heap.size,0,none⟩) 1 1) (w':=(World.drew w5).alloc (.cells #[.string x,.int .i64 y.op,.string y.text,.int .u64 y.s0,.int .u64 y.s1,.int .u64 y.s2,.int .u64 y.s3,.slice ko nk kc] 51)) rfl (by kernel_rfl) (by go_simp;try rfl) ?_);refine ⟨.inr (.inr (HS.o.trans (hbl.mono HS.o.size))),?_⟩;have HS:=aH (HS.o.trans (hbl.mono HS.o.size));obtain ⟨Y,hY⟩:∃ Y,(World.drew w5).heap.size=Y:=⟨_,rfl⟩;rw [hY] at HYO;try rw [hY]
    generalize (World.drew w5).alloc (.cells #[.string x,.int .i64 y.op,.string y.text,.int .u64 y.s0,.int .u64 y.s1,.int .u64 y.s2,.int .u64 y.s3,.slice ko nk kc] 51)=w6 at *;clear hbl hY;go_simp;have HHY6:=aH (HHY.o.then_below HS.o);have HUQ:=aH (show ∀ b,S2 b->¬ (b=g\/b=r) from fun b hs hu=>by have h1:=HD.o.1 b (.inr (.inl hs));have h2:=HRR.o;omega)
    have HW6:=aH (show Win S2 51 8 w6 (.slice z.ro n z.rc) n (Z.flatMap Fs) from by
     have q:=HD6.o.keep HHY6.o (fun b _ hs=>HUQ.o b hs);rw [HNI.o,HZN.o] at q
     exact q)
    obtain ⟨i0,hi,hz0,hz1,hz2⟩:=cZ PV;have IP:=aH (And.intro hi (And.intro hz0 (And.intro hz1 hz2)));have HN24:=aH (show n<=24 from h24);clear hi hz0 hz1 hz2;refine aI.one (i:=8) (by kernel_rfl) (Bh rfl (by kernel_rfl) _ _ 33 33 rfl S2 51 i0 _ 8 96 Tryz.underlying33 IP.o.1 IP.o.2.1 IP.o.2.2.1 IP.o.2.2.2 rfl (by decide) (.slice z.ro n z.rc) n (Z.flatMap Fs) rfl HW6.o (.slice (some ⟨Y,0,none⟩) 1 1) 1 [.string x,.int .i64 y.op,.string y.text,.int .u64 y.s0,.int .u64 y.s1,.int .u64 y.s2,.int .u64 y.s3,.slice ko nk kc] rfl (Src.ofSlice _ Tryz.underlying33 ⟨Y,0,none⟩ 1 1 [.string x,.int .i64 y.op,.string y.text,.int .u64 y.s0,.int .u64 y.s1,.int .u64 y.s2,.int .u64 y.s3,.slice ko nk kc] rfl (fun j u h=>by rw [Addr.add_lit,Nat.zero_add,HYO.o.cell j];exact h) (by intro u hu;simp at hu;rcases hu with rfl | rfl | rfl | rfl | rfl | rfl | rfl | rfl <;> rfl)) (by have:=HN24.o;unfold maxLen;omega) (by have:=HN24.o;omega) ?_);intro v7 w7 hw7 hb7;have hgw:g + 1<=w3.heap.size:=by have h1:=HG3.o;have h2:=HRR.o;omega
    obtain ⟨ro',rc',hv,hm7⟩:=Dmz.rule (nm:=x) (x:=y) (ko:=ko) (kc:=kc) (n':=nE) (v':=v7) hgw HD.o.1 HD.o.2.1 HD.o.2.2.1 HD.o.2.2.2.1 HD.o.2.2.2.2.1 HD.o.2.2.2.2.2.1 HD.o.2.2.2.2.2.2 HHY6.o (fun b hb=>by have h2:=HRR.o;omega)
     (dD.but (S:=fun _=>False) (But.of_below HS.o) (fun _ h=>h.elim) (dD.low (by have h1:=HSZ.o;have h2:=HRR.o;omega) HE5.o)) (by rw [HZN.o];show Win _ _ _ _ _ _ (Z.flatMap Fs ++ [.string x,.int .i64 y.op,.string y.text,.int .u64 y.s0,.int .u64 y.s1,.int .u64 y.s2,.int .u64 y.s3,.slice ko y.kids.length kc]);rw [HNK.o];exact hw7) hb7
    rw [HNI.o] at hv;subst hv;have hs2:∀ b,S2 b->g + 1<=b:=fun b hb=>(HD.o.1 b (.inr (.inl hb))).1;have hb57:But (fun j=>g + 1<=j) w5 w7:=(But.of_below (S:=fun j=>g + 1<=j) HS.o).trans (hb7.mono (fun b _ hb=>hs2 b hb)) (fun _ _ h=>h);have HQ7:=aH (HQ5.o.but hb57 (by omega) (fun a ha=>by have:=HLO.o a ha;omega));have HU7:=aH (HU5.o.trans (hb57.mono (T:=fun j=>g<=j) (fun j _ h=>by omega)) (fun _ _ h=>h));have HQ8:=aH (HQ7.o.ru (x,y) ro' rc' HNI.o);have hbt:=(But.refl (fun j=>j=g) w7).setCell (p:=⟨g,12,none⟩) (fun _=>rfl) (.slice ro' (n + 1) rc');have HU8:=aH (HU7.o.trans (hbt.mono (T:=fun j=>g<=j) (fun j _ e=>by omega)) (fun _ _ h=>h));have HM8:=aH (hm7.keep hbt (fun b hb=>.inl (by omega)));have c12:w7.cell? ⟨g,12,none⟩=some (.slice z.ro z.m.ru.length z.rc):=HQ7.o.1.cell 12;rw [HNI.o] at c12;have f12:w7.frozen? ⟨g,12,none⟩=false:=HQ7.o.1.thaw 12;have cg:=HQ7.o.1.lt;refine ⟨.inl rfl,?_⟩;clear hw7 hb7 hm7 hs2 hb57 hbt hgw;go_simp;refine aI.one (i:=9) (by kernel_rfl) (aY (v:=.pointer (some ⟨g,0,none⟩)) (w':=w7) rfl (by kernel_rfl) (by go_simp;try rfl) ⟨.inr (.inl (by kernel_rfl)),?_⟩);go_simp;refine aI.one (i:=10) (by kernel_rfl) (aY (v:=.pointer (some ⟨g,2,none⟩)) (w':=w7) rfl (by kernel_rfl) (by go_simp;try rfl) ⟨.inr (.inl (by kernel_rfl)),?_⟩);go_simp;refine aI.one (i:=11) (by kernel_rfl) (aY (v:=.pointer (some ⟨g,12,none⟩)) (w':=w7) rfl (by kernel_rfl) (by go_simp;try rfl) ⟨.inr (.inl (by kernel_rfl)),?_⟩);go_simp;refine aI.one (i:=12) (by kernel_rfl) (eX (w':=w7.setCell ⟨g,12,none⟩ (.slice ro' (n + 1) rc')) rfl (by kernel_rfl) 33 (.tmp 55) (.tmp 52) rfl _ _ rfl rfl (by go_simp;try rfl) ⟨.inr (.inl (by kernel_rfl)),?_⟩);refine aI.done (by kernel_rfl) ?_ _;clear c12 f12 cg;generalize World.setCell w7 _ _=w8 at *;go_simp;go_wp2;go_ret;exact ⟨by rw [HE.o];exact ⟨rfl,ro',rc',HQ8.o,HM8.o⟩,HU8.o⟩
theorem rulL_step (L:List Tok) (f:Nat) (R:List (ByteArray × Ex)) (k:Nat):uE L (f + 1) R k=if (tkA L k).kd=0 then .ok R else (match rulP L R k with
  | .error e=>.error e
  | .ok (x,k2)=>uE L f (R ++ [x]) k2):=by
 conv=>lhs;unfold uE
 by_cases h0:(tkA L k).kd=0
 · rw [if_pos h0,if_pos h0]
 ·
  rw [if_neg h0,if_neg h0,nmeO_p];unfold rulP
  cases Pg L k with
  | none=>rfl
  | some x =>
   simp only [];by_cases hh:hasB (R.map (·.1)) x=true
   · rw [if_pos hh,if_pos hh]
   ·
    rw [if_neg hh,if_neg hh];simp only [];by_cases h4:R.length=24
    · rw [if_pos h4,if_pos h4]
    ·
     rw [if_neg h4,if_neg h4]
     cases uW L (k + 1) with
     | error e=>rfl
     | ok p=>rfl
theorem rulP_ok {L:List Tok} {R:List (ByteArray × Ex)} {k k2 NN:Nat} {x:ByteArray × Ex} (HN:∀ k,(tkA L k).kd ≠ 0->k < NN) (h:rulP L R k=.ok (x,k2)):R.length ≠ 24/\k < k2/\k2<=NN:=by
 unfold rulP at h
 cases hn:Pg L k with
 | none=>rw [hn] at h;cases h
 | some y =>
  rw [hn] at h;simp only [] at h;by_cases hh:hasB (R.map (·.1)) y=true
  · rw [if_pos hh] at h;cases h
  ·
   rw [if_neg hh] at h;by_cases h4:R.length=24
   · rw [if_pos h4] at h;cases h
   ·
    rw [if_neg h4] at h
    cases hb:uW L (k + 1) with
    | error e=>rw [hb] at h;cases h
    | ok p =>
     obtain ⟨y2,m⟩:=p;rw [hb] at h;injection h with h;injection h with h1 h2;have q:=A5H HN hb;subst h2;exact ⟨h4,by omega,q.2⟩
def RsE (g:Nat) (lo:Option Addr) (lc:Nat) (L:List Tok) (z:Mz) (r:Except Ft2 (List (ByteArray × Ex))) (e:Ending) (w':World):Prop:=match r with
 | .ok R=>e=.returned (.bool true)/\∃ k ro rc,Dq w' g lo lc L k ⟨{ z.m with ru:=R },z.io,z.ic,z.ko,z.kc,ro,rc⟩ none/\Dmz w' (g + 1) ⟨{ z.m with ru:=R },z.io,z.ic,z.ko,z.kc,ro,rc⟩
 | .error f=>Flt w' g lo lc L f e
theorem dp_rules (HW:oJ) (g:Nat) (lo:Option Addr) (lc:Nat) (L:List Tok) (k:Nat) (z:Mz) (hn:(L.length:Int)<=90000) (hk:k < L.length) (htx:∀ t ∈ L,t.tx.size<=1000000) (HNB:∀ j,(tkA L j).kd ≠ 0->j + 1 < L.length) (F:Nat) (hF:L.length < F + k) (h4:z.m.ru.length<=24) (hlo:∀ a,lo=some a->a.block < g) (w:World) (h:Dq w g lo lc L k z none) (hm:Dmz w (g + 1) z) :
  Calls Tryz.prog 41 #[.pointer (some ⟨g,0,none⟩)] w fun e w'=>RsE g lo lc L z (uE L F z.m.ru k) e w'/\But (fun j=>g<=j) w w':=by
 have HO:=aH (fun j (hj:j < L.length) z' (h4':z'.m.ru.length<=24) W (hW:Dq W g lo lc L j z' none) (hM:Dmz W (g + 1) z')=>dp_oneRule HW g lo lc L j z' hn hj htx HNB h4' hlo W hW hM);have HBE:=aH (fun j R x k2 (e:rulP L R j=.ok (x,k2))=>rulP_ok (NN:=L.length - 1) (fun j hj=>by have:=HNB j hj;omega) e);have HNB':=aH HNB;obtain ⟨RES,hres⟩:∃ r,uE L F z.m.ru k=r:=⟨_,rfl⟩;have HR0:=aH (show RES=uE L F z.m.ru k from hres.symm);have HF0:=aH hF;have HK0:=aH hk;have H40:=aH h4;have HQ0:=aH h;have HM0:=aH hm;have HU0:=aH (But.refl (fun j=>g<=j) w);obtain ⟨n,hnn⟩:∃ n,L.length=n:=⟨_,rfl⟩;have HNN:=aH hnn;rw [hres];rw [hnn] at hn;clear hres h hm hk htx HNB hlo hF h4 hnn;go_enter Tryz.func41,Tryz.ntmps41;go_wp2_with fail
 go_loopw [] (fun wr=>∃ (j f:Nat) (R:List (ByteArray × Ex)) (ro:Option Addr) (rc:Nat),aQ (RES=uE L f R j)/\aQ (L.length < f + j)/\aQ (j < L.length)/\aQ (R.length<=24)/\aQ (Dq wr g lo lc L j ⟨{ z.m with ru:=R },z.io,z.ic,z.ko,z.kc,ro,rc⟩ none)/\aQ (Dmz wr (g + 1) ⟨{ z.m with ru:=R },z.io,z.ic,z.ko,z.kc,ro,rc⟩)/\aQ (But (fun j=>g<=j) w wr))
  (fun wr=>L.length - (intOf ((wr.cell? ⟨g,1,none⟩).getD (.bool false))).toNat)
 case atStart=>exact ⟨k,F,z.m.ru,z.ro,z.rc,HR0,HF0,HK0,H40,HQ0,HM0,HU0⟩
 case round =>
  obtain ⟨j,f,R,ro,rc,HR,HF,HJ,H4,HQ,HM,HU⟩:=hrel;clear HR0 HF0 HK0 H40 HQ0 HM0 HU0;obtain ⟨f,rfl⟩:∃ q,f=q + 1:=⟨f - 1,by have h1:=HF.o;have h2:=HJ.o;omega⟩;obtain ⟨t,ht⟩:∃ t,L[j]?=some t:=⟨_,aG HJ.o⟩;obtain ⟨b,off,hlo,hb,a0,a1,a2,a3,a4,a5,a6⟩:=HQ.o.2.1 j t ht;have HTK:=aH (show (tkA L j).kd=t.kd from by rw [jH ht]);have HLO2:=aH hlo;have c0:wr.cell? ⟨g,0,none⟩=some (.slice lo L.length lc):=HQ.o.1.cell 0;have c1:wr.cell? ⟨g,1,none⟩=some (.int .i64 (j:Int)):=HQ.o.1.cell 1;have cg:=HQ.o.1.lt;rw [hlo,HNN.o] at c0;have hj1:(j:Int) < n:=by have h1:=HJ.o;have h2:=HNN.o;omega
  clear hlo ht a1 a2 a3 a4 a5 a6;obtain ⟨b0,hb0⟩:∃ q,decide ((t.kd:Int)=0)=q:=⟨_,rfl⟩;have hb1:((t.kd:Int) == 0)=b0:=by rw [<- hb0];rfl
  have hb2:((t.kd:Int) != 0)=!b0:=by rw [<- hb0];rfl
  have HB0:=aH (show b0=decide (t.kd=0) from by rw [<- hb0];exact decide_eq_decide.2 (by omega));clear hb0;go_wp2_with fail;go_quiet (fail);have hq9:Below wr.heap.size wr (wr.drewN nq):=below_drewN (Below.refl _ _) nq;have HQ1:=aH (HQ.o.below hq9);have HM1:=aH (HM.o.below hq9);have HU1:=aH (HU.o.trans (But.of_below (S:=fun j=>g<=j) hq9) (fun _ _ h=>h));clear hq9 c0 c1 cg a0 hb HM HU hj1;obtain ⟨w1,hw1⟩:∃ z,wr.drewN nq=z:=⟨_,rfl⟩;rw [hw1] at HQ1 HM1 HU1 ⊢;clear hw1
  cases b0 with
  | true =>
   have HE:=aH (show RES=.ok R from by rw [HR.o,rulL_step,HTK.o,if_pos (of_decide_eq_true HB0.o.symm)]);go_wp2;go_ret;exact ⟨by rw [HE.o];exact ⟨rfl,j,ro,rc,HQ1.o,HM1.o⟩,HU1.o⟩
  | false =>
   have HS:=aH (show RES=(match rulP L R j with
    | .error e=>.error e
    | .ok (x,k2)=>uE L f (R ++ [x]) k2) from by rw [HR.o,rulL_step,HTK.o,if_neg (of_decide_eq_false HB0.o.symm)])
   go_wp2_with fail;refine (HO.o j HJ.o ⟨{ z.m with ru:=R },z.io,z.ic,z.ko,z.kc,ro,rc⟩ H4.o _ HQ1.o HM1.o).mono ?_;rintro e w2 ⟨hi,hu⟩;have HU2:=aH (HU1.o.trans hu (fun _ _ h=>h));clear hu;have hi:RlE g lo lc L ⟨{ z.m with ru:=R },z.io,z.ic,z.ko,z.kc,ro,rc⟩ (rulP L R j) e w2:=hi
   cases hp:rulP L R j with
   | error fl =>
    rw [hp] at hi;obtain ⟨he,h0,k',z',hk',hq⟩:=hi;subst he;have HE:=aH (show RES=.error fl from by rw [HS.o,hp]);have HFL:=aH (And.intro h0 (And.intro hk' hq));clear h0 hk' hq;go_wp2;go_ret;exact ⟨by rw [HE.o];exact ⟨rfl,HFL.o.1,k',z',HFL.o.2.1,HFL.o.2.2⟩,HU2.o⟩
   | ok p =>
    obtain ⟨x,k2⟩:=p;rw [hp] at hi;obtain ⟨he,ro',rc',hq,hm⟩:=hi;subst he;obtain ⟨hn4,hk2,hkn⟩:=HBE.o j R x k2 hp;have HJ3:=aH (show k2 < L.length from by have:=HJ.o;omega);have HKJ:=aH hk2;have HE:=aH (show RES=uE L f (R ++ [x]) k2 from by rw [HS.o,hp]);have HF3:=aH (show L.length < f + k2 from by have:=HF.o;omega);have H43:=aH (show (R ++ [x]).length<=24 from by rw [List.length_append];have:=H4.o;simp;omega);have HQ3:=aH (show Dq w2 g lo lc L k2 ⟨{ z.m with ru:=R ++ [x] },z.io,z.ic,z.ko,z.kc,ro',rc'⟩ none from hq);have HM3:=aH (show Dmz w2 (g + 1) ⟨{ z.m with ru:=R ++ [x] },z.io,z.ic,z.ko,z.kc,ro',rc'⟩ from hm);clear hq hm hn4 hk2 hkn;go_wp2
    go_roundw
    case rel=>exact ⟨k2,f,R ++ [x],ro',rc',HE,HF3,HJ3,H43,HQ3,HM3,HU2⟩
    case measure =>
     have e1:w2.cell? ⟨g,1,none⟩=some (.int .i64 (k2:Int)):=HQ3.o.1.cell 1;have e0:wr.cell? ⟨g,1,none⟩=some (.int .i64 (j:Int)):=HQ.o.1.cell 1;rw [e1,e0];simp [intOf];have h1:=HJ3.o;have h2:=HKJ.o;omega
end Go.Proofs.YthkdnehgamefiaaGreat
