import Derived.Test.YthkdnehgamefiaaGreatJpC
import Derived.Test.YthkdnehgamefiaaGreatJz
namespace Go.Proofs.YthkdnehgamefiaaGreat
set_option linter.unusedVariables false
set_option maxHeartbeats 3200000
set_option maxRecDepth 1000000
open Go.RowKit Go.Sort
def mnO (ML:List Md) (s:ByteArray):Rv :=
 if splitB s=false\/(iA s).toList=[] then uD ML 0 s
 else if cB ML (iA s) < 0 then (0,0,false)
 else (cB ML (iA s),xM ML (cB ML (iA s)) (iN s),decide (0<=xM ML (cB ML (iA s)) (iN s)))
theorem mnO_start (ML:List Md) (F:List Nat) (s:ByteArray):yZ ML F s=(match mnO ML s with
  | (m,r,true)=>some ((F.getD m.toNat 0:Nat) + r)
  | (_,_,false)=>none):=by
 unfold yZ mnO
 cases hs:splitB s with
 | false =>
  rw [if_neg (by simp),if_pos (.inl rfl)];unfold uD;rw [if_neg (fun h=>by rw [hs] at h;simp at h)]
 | true =>
  rw [if_pos rfl];by_cases hm:(iA s).toList=[]
  ·
   rw [if_pos hm,if_pos (.inr hm)];rcases uD ML 0 s with ⟨a,b,c⟩
   cases c <;> rfl
  ·
   have hn:¬ (true=false\/(iA s).toList=[]):=fun h=>by
    rcases h with h | h
    · cases h
    · exact hm h
   rw [if_neg hm,if_neg hn];by_cases hf:0<=cB ML (iA s)
   ·
    have hn:¬ cB ML (iA s) < 0:=(by omega);rw [if_pos hf,if_neg hn];by_cases hr:0<=xM ML (cB ML (iA s)) (iN s)
    · rw [if_pos hr,aT hr]
    · rw [if_neg hr,aF hr]
   · have hn:cB ML (iA s) < 0:=(by omega);rw [if_neg hf,if_pos hn]
theorem mnO_bd {ML:List Md} (h24:∀ m ∈ ML,m.ru.length<=24) {s:ByteArray} {m r:Int} (h:mnO ML s=(m,r,true)):∃ mm:Nat,m=(mm:Int)/\mm < ML.length/\0<=r/\r<=24:=by
 unfold mnO at h;split at h
 · obtain ⟨mm,md,e,h1,-,h2,h3⟩:=DJ h;exact ⟨mm,e,(aS.1 h1).1,h2,by have:=h24 md (aM h1);omega⟩
 ·
  split at h
  · simp at h
  ·
   next hf =>
   simp only [Prod.mk.injEq,decide_eq_true_eq] at h;obtain ⟨h1,h2,h3⟩:=h;have hb:=zL (fun m:Md=>m.nm.toList == (iA s).toList) 0 ML;have hq:cB ML (iA s) < ML.length:=by
    rcases hb with hb | hb
    · have hb:cB ML (iA s)=-1:=hb;omega
    · have hb:cB ML (iA s) < ((0:Nat):Int) + ML.length:=hb.2;omega
   obtain ⟨mm,hmm⟩:∃ k:Nat,cB ML (iA s)=(k:Int):=⟨(cB ML (iA s)).toNat,by omega⟩;rw [hmm] at hq h1 h2 h3;obtain ⟨md,hmd⟩:∃ md,ML[mm]?=some md:=⟨_,aG (by omega)⟩;have e:=rW (iN s) (show ML[((mm:Nat):Int).toNat]?=some md by rw [Int.toNat_natCast];exact hmd);rw [e] at h2 h3;have hrb:=A2A md (iN s);have:=h24 md (aM hmd);exact ⟨mm,h1.symm,by omega,by omega,by omega⟩
theorem meaning_any (ML:List Md) (mo:Option Addr) (mc:Nat) (D0:Nat) (h24:∀ m ∈ ML,m.ru.length<=24) (hfew:Few ML) (h5:ML.length<=8) (s:ByteArray) (hs:s.size<=1000000) (w:World) (hM:fK w D0 mo ML) (hmx:Mx w) :
  Calls Tryz.prog 54 #[.slice mo ML.length mc,.string s] w fun e w'=>e=.returned (rvV (mnO ML s))/\Below w.heap.size w w':=by
 have HSP:=aH (Gc s hs w hmx);have HFI:=aH (fun (x:ByteArray) W (hW:fK W D0 mo ML)=>uX ML D0 mo mc x (by omega) W hW);have HRV:=aH (fun (W:World) (h:Below w.heap.size w W)=>mK ML D0 mo mc 0 s hs hfew W (hM.below h) (hmx.below h));have HMS:=aH (fun (W:World) (h:Below w.heap.size w W)=>hM.below h);have H24:=aH h24;obtain ⟨nm,hnm⟩:∃ n,ML.length=n:=⟨_,rfl⟩;have HNM:=aH hnm;obtain ⟨RES,hRES⟩:∃ r,mnO ML s=r:=⟨_,rfl⟩;obtain ⟨sb,hsb⟩:∃ z,splitB s=z:=⟨_,rfl⟩;obtain ⟨sm,hsm⟩:∃ z,iA s=z:=⟨_,rfl⟩;obtain ⟨sr,hsr⟩:∃ z,iN s=z:=⟨_,rfl⟩
 have HST:=aH (show RES=if sb=false\/sm.toList=[] then uD ML 0 s
   else if cB ML sm < 0 then (0,0,false)
   else (cB ML sm,xM ML (cB ML sm) sr,decide (0<=xM ML (cB ML sm) sr)) from by rw [<- hRES,<- hsb,<- hsm,<- hsr];rfl)
 rw [hsb,hsm,hsr] at HSP;rw [hnm] at HFI HRV h5;rw [hRES,hnm];clear hM hmx h24 hfew hRES hsb hsm hsr hnm;obtain ⟨ze,hze⟩:∃ z,(sm.toList == ([]:List UInt8))=z:=⟨_,rfl⟩;have hze2:sm.toList.isEmpty=ze:=by rw [<- hze];generalize sm.toList=l;cases l <;> rfl
 go_enter Tryz.func54,Tryz.ntmps54;go_wp2_with fail;refine HSP.o.mono ?_;rintro e w1 ⟨rfl,hb1⟩;have HB1:=aH hb1;clear hb1 HSP;by_cases hq:sb=false\/sm.toList=[]
 ·
  have HE:=aH (HST.o.trans (if_pos hq));obtain ⟨⟨rm,rr,rb⟩,hr⟩:∃ r,uD ML 0 s=r:=⟨_,rfl⟩;have HRC:=aH (HRV.o w1 HB1.o);rw [hr] at HRC HE;unfold rvV at HRC;clear hr;have HTAIL:True:=trivial
  cases sb with
  | false =>
   go_wp2_with fail;refine HRC.o.mono ?_;rintro e w2 ⟨rfl,hb2⟩;have HB2:=aH (HB1.o.trans (hb2.mono HB1.o.size));clear hb2;go_wp2
   go_ret3
   rw [HE.o];exact ⟨rfl,HB2.o⟩
  | true =>
   obtain rfl:ze=true:=by
    rcases hq with h | h
    · cases h
    · rw [<- hze,h];rfl
   clear hq;go_wp2_with fail;refine HRC.o.mono ?_;rintro e w2 ⟨rfl,hb2⟩;have HB2:=aH (HB1.o.trans (hb2.mono HB1.o.size));clear hb2;go_wp2
   go_ret3
   rw [HE.o];exact ⟨rfl,HB2.o⟩
 ·
  have HE:=aH (HST.o.trans (if_neg hq))
  obtain rfl:sb=true:=by cases sb with
   | true=>rfl
   | false=>exact absurd (.inl rfl) hq
  obtain rfl:ze=false:=by
   cases ze with
   | false=>rfl
   | true=>exact absurd (.inr (by simpa using hze)) hq
  clear hq;obtain ⟨q,hq⟩:∃ z,cB ML sm=z:=⟨_,rfl⟩;have HFC:=aH (HFI.o sm w1 (HMS.o w1 HB1.o));have hqn:q < nm:=by
   have hb:=zL (fun m:Md=>m.nm.toList == sm.toList) 0 ML;rcases hb with h | h
   · have h:cB ML sm=-1:=h;omega
   · have h2:cB ML sm < ((0:Nat):Int) + ML.length:=h.2;have:=HNM.o;omega
  rw [hq] at HFC HE;clear hq;go_wp2_with fail;refine HFC.o.mono ?_;rintro e w2 ⟨rfl,hb2⟩;have HB2:=aH (HB1.o.trans (hb2.mono HB1.o.size));clear hb2;by_cases hq0:q < 0
  ·
   have hq1:decide (q < 0)=true:=aT hq0;have HV:=aH (HE.o.trans (if_pos hq0));go_wp2
   go_ret3
   rw [HV.o];exact ⟨rfl,HB2.o⟩
  ·
   have hq1:decide (q < 0)=false:=aF hq0;obtain ⟨mm,rfl⟩:∃ k:Nat,q=(k:Int):=⟨q.toNat,by omega⟩;have hmmn:mm < nm:=(by omega);obtain ⟨m,hm⟩:∃ m,ML[mm]?=some m:=⟨_,aG (by have:=HNM.o;omega)⟩;obtain ⟨nn,hMr⟩:=HMS.o w2 HB2.o;obtain ⟨mb,moff,io,ic,ko,kc,ro,rc,hmo,hmb,-,d0,d1,d2,d3,d4,d5,d6,d7,d8,d9,dA,-,-,hru⟩:=hMr mm m hm;have h24m:=H24.o m (aM hm);have HRC:=aH (vM m D0 nn io ic ko kc ro rc sr (by omega) w2 hru);obtain ⟨rr,hrr⟩:∃ z,eU m sr=z:=⟨_,rfl⟩;rw [hrr] at HRC;have HV:=aH (show RES=((mm:Int),rr,decide (0<=rr)) from by rw [HE.o,if_neg hq0,rW sr (by rw [Int.toNat_natCast];exact hm),hrr]);have hmi9:decide ((mm:Int) < (nm:Int))=true:=aT (by omega);have hmin9:decide (mm < nm)=true:=aT (by omega);subst hmo;clear hm hMr hru hrr;go_wp2_with fail;refine HRC.o.mono ?_;rintro e w3 ⟨rfl,hb3⟩;have HB3:=aH (HB2.o.trans (hb3.mono HB2.o.size));clear hb3 d0 d1 d2 d3 d4 d5 d6 d7 d8 d9 dA hmb HRC;go_wp2
   go_ret3
   rw [HV.o];exact ⟨rfl,HB3.o⟩
def StP (w0 w':World) (g:Nat) (ct:Nat->Nat) (rows:Rw) (v:Nat->Value) (lv:Value) (e:Ending):Option Int->Prop
 | some st=>e=.returned (.bool true)/\Wp w0 w' g ct rows v lv st none
 | none=>e=.returned (.bool false)/\Wp w0 w' g ct rows v lv 0 (some (5,-1,-1))
theorem pstart_any (ML:List Md) (FL:List Nat) (mo:Option Addr) (mc:Nat) (w0:World) (D0:Nat) (hM:fK w0 D0 mo ML) (hmx:Mx w0) (h24:∀ m ∈ ML,m.ru.length<=24) (h5:ML.length<=8) (hfew:Few ML) (hFL:FL.length=ML.length) (hFb:∀ x ∈ FL,x<=1000000000) (s:ByteArray) (hs:s.size<=1000000) (g:Nat) (w:World) (ct:Nat->Nat) (rows:Rw) (v:Nat->Value) (h:Wp w0 w g ct rows v (.slice mo ML.length mc) 0 none) (hr5:rows 5=(FL.length,lD FL)) :
  Calls Tryz.prog 25 #[.pointer (some ⟨g,0,none⟩),.string s] w fun e w'=>StP w0 w' g ct rows v (.slice mo ML.length mc) e (yZ ML FL s)/\But (fun j=>j=g) w w':=by
 have HMN:=aH (fun (W:World) (h:Below w0.heap.size w0 W)=>meaning_any ML mo mc D0 h24 hfew h5 s hs W (hM.below h) (hmx.below h));have HFB:=aH hFb;have HR5:=aH hr5;obtain ⟨nm,hnm⟩:∃ n,ML.length=n:=⟨_,rfl⟩;have HFL:=aH (show FL.length=nm from hFL.trans hnm);obtain ⟨RES,hRES⟩:∃ r,yZ ML FL s=r:=⟨_,rfl⟩;obtain ⟨⟨rm,rr,rb⟩,hr⟩:∃ r,mnO ML s=r:=⟨_,rfl⟩
 have HST:=aH (show RES=(match (rm,rr,rb) with
   | (m,r,true)=>some ((FL.getD m.toNat 0:Nat) + r)
   | (_,_,false)=>none) from by rw [<- hRES,mnO_start,hr];cases rb <;> rfl)
 have HBD:=aH (fun (e:rb=true)=>mnO_bd h24 (show mnO ML s=(rm,rr,true) from by rw [hr,e]));have HRC:=aH (HMN.o w h.bl);rw [hr] at HRC;unfold rvV at HRC;have HW:=aH h;have ho:Own w g 68 [.slice mo ML.length mc,v 5,v 1,v 2,v 3,v 4,.int .i64 0,.int .i64 0,.int .i64 0,.int .i64 0,.int .i64 0]:=h.own;have c0:=ho.cell 0;have hgl:=ho.lt;rw [hnm] at HRC HW c0 HBD;rw [hRES,hnm];clear hM hmx h24 hFb hr5 hfew hFL hRES hr h hnm ho;go_enter Tryz.func25,Tryz.ntmps25;go_wp2_with fail;refine HRC.o.mono ?_;rintro e w2 ⟨rfl,hb2⟩;have HB2:=aH hb2;have HW2:=aH (HW.o.below hb2);clear hb2 c0 hgl HRC HW
 cases rb with
 | false =>
  have HE:=aH (show RES=none from HST.o);go_wp2_with fail;refine (pstop_any 5 (-1) (-1) (by decide) HW2.o).mono ?_;rintro e w9 ⟨rfl,hW9,hb9⟩;have HW9:=aH hW9;have HB9:=aH hb9;clear hW9 hb9;go_wp2;go_ret;rw [HE.o];exact ⟨⟨rfl,HW9.o⟩,(But.of_below HB2.o).trans HB9.o (fun b _ h=>h)⟩
 | true =>
  obtain ⟨mm,hmm,hmmn,hr0,hr24⟩:=HBD.o rfl;subst hmm;have HV:=aH (show RES=some ((FL.getD mm 0:Nat) + rr) from HST.o);obtain ⟨fx,hfx⟩:∃ x,FL[mm]?=some x:=⟨_,aG (by have:=HFL.o;omega)⟩;have hfb:fx<=1000000000:=HFB.o fx (aM hfx);have HE:=aH (show RES=some ((fx:Int) + rr) from by rw [HV.o,List.getD_eq_getElem?_getD,hfx];rfl)
  have HWF:=aH (show Win (fun b=>ct b=5) 3 1 w2 (v 5) FL.length (lD FL) from by
   have q:=HW2.o.win 5 (by omega) (by omega)
   rw [HR5.o] at q;exact q)
  obtain ⟨fo,fc,hv5,-,-,-⟩:=HWF.o.form;have hkf:=HWF.o;rw [hv5] at hkf;obtain ⟨fb,foff,hfo,hfl,-,f0⟩:=Tq hkf mm fx hfx;have ho:Own w2 g 68 [.slice mo nm mc,v 5,v 1,v 2,v 3,v 4,.int .i64 0,.int .i64 0,.int .i64 0,.int .i64 0,.int .i64 0]:=HW2.o.own;have c1:w2.cell? ⟨g,1,none⟩=some (.slice (some ⟨fb,foff,none⟩) nm fc):=by have q:=ho.cell 1;rw [q,<- hfo,<- HFL.o];exact congrArg some hv5
  have c6:w2.cell? ⟨g,6,none⟩=some (.int .i64 0):=ho.cell 6;have t6:w2.frozen? ⟨g,6,none⟩=false:=ho.thaw 6;have hgl:=ho.lt;have hwr:IntKind.i64.wrap ((fx:Int) + rr)=(fx:Int) + rr:=wI;have hmi:decide ((mm:Int) < (nm:Int))=true:=aT (by omega);have hmin:decide (mm < nm)=true:=aT (by omega);have HW9:=aH (show Wp w0 (w2.setCell ⟨g,6,none⟩ (.int .i64 ((fx:Int) + rr))) g ct rows v (.slice mo nm mc) ((fx:Int) + rr) none from HW2.o.turn (But.put w2 g 6 _) (ho.put 6 _) (fun f e=>by cases e));clear hfx hkf hfo ho hv5 HWF;go_wp2;go_ret;rw [HE.o];exact ⟨⟨rfl,HW9.o⟩,(But.of_below HB2.o).trans (But.put w2 g 6 _) (fun b _ h=>h)⟩
end Go.Proofs.YthkdnehgamefiaaGreat
