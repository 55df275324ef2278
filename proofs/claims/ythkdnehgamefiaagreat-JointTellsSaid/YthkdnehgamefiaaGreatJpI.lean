import Derived.Test.YthkdnehgamefiaaGreatJpC
import Derived.Test.YthkdnehgamefiaaGreatJz
import Derived.Test.YthkdnehgamefiaaGreatDrB
namespace Go.Proofs.YthkdnehgamefiaaGreat
set_option linter.unusedVariables false
set_option maxHeartbeats 6400000
set_option maxRecDepth 1000000
open Go.RowKit Go.Sort
theorem hd1_some (ML:List Md) (f:Ft3):∀ (l:List Md) (i s:Nat),hd1 ML l i s (some f)=some f
 | [],i,s=>rfl
 | m :: r,i,s=>by rw [B0G];exact hd1_some ML f r (i + 1) _
theorem imF_some (ML:List Md) (i:Nat) (f:Ft3):∀ (l:List ByteArray),imF ML i l (some f)=some f
 | []=>rfl
 | x :: r=>by
  rw [B0P];split
  · exact imF_some ML i f r
  · exact imF_some ML i f r
theorem hd2_some (ML:List Md) (f:Ft3):∀ (l:List Md) (i:Nat),hd2 ML l i (some f)=some f
 | [],i=>rfl
 | m :: r,i=>by rw [B0H,imF_some];exact hd2_some ML f r (i + 1)
theorem idxF_le {α:Type} (p:α->Bool):∀ (l:List α) (b k:Nat) (x:α),l[k]?=some x->p x=true->sU p b l<=((b + k:Nat):Int)
 | [],b,k,x,h,_=>by simp at h
 | y :: r,b,0,x,h,hp=>by simp at h;subst h;simp [sU,hp]
 | y :: r,b,k + 1,x,h,hp=>by
  unfold sU;split
  · omega
  · have:=idxF_le p r (b + 1) k x (by simpa using h) hp;omega
theorem findN_le {ML:List Md} {k:Nat} {m:Md} (h:ML[k]?=some m):cB ML m.nm<=(k:Int):=by have:=idxF_le (fun x:Md=>x.nm.toList == m.nm.toList) ML 0 k m h (by simp);unfold cB;omega
def ChP (w0 w':World) (g:Nat) (ct:Nat->Nat) (rows:Rw) (v:Nat->Value) (lv:Value) (e:Ending):Option Ft3->Prop
 | none=>e=.returned (.bool true)/\Wp w0 w' g ct rows v lv 0 none
 | some f=>e=.returned (.bool false)/\Wp w0 w' g ct rows v lv 0 (some f)
theorem pmods_any (ML:List Md) (mo:Option Addr) (mc:Nat) (w0:World) (D0:Nat) (hM:fK w0 D0 mo ML) (hmx:Mx w0) (hok:∀ m ∈ ML,Okm m) (h5:ML.length<=8) (g:Nat) (w:World) (ct:Nat->Nat) (rows:Rw) (v:Nat->Value) (h:Wp w0 w g ct rows v (.slice mo ML.length mc) 0 none) :
  Calls Tryz.prog 22 #[.pointer (some ⟨g,0,none⟩)] w fun e w'=>ChP w0 w' g ct rows v (.slice mo ML.length mc) e (hd1 ML ML 0 0 none)/\But (fun j=>j=g) w w':=by
 have HFI:=aH (fun (s:ByteArray) W (hW:Below w0.heap.size w0 W)=>uX ML D0 mo mc s (by omega) W (hM.below hW));have HMS:=aH (fun (W:World) (h:Below w0.heap.size w0 W)=>And.intro (hM.below h) (hmx.below h));have HOK:=aH hok;have H0:=aH h;obtain ⟨R1,hR1⟩:∃ r,hd1 ML ML 0 0 none=r:=⟨_,rfl⟩;have HR1:=aH (show R1=hd1 ML (ML.drop 0) 0 0 none from by rw [List.drop_zero];exact hR1.symm);obtain ⟨nm,hnm⟩:∃ n,ML.length=n:=⟨_,rfl⟩;have HNM:=aH hnm;rw [hnm] at H0 HFI h5;rw [hR1,hnm];have ho:Own w g 68 [.slice mo nm mc,v 5,v 1,v 2,v 3,v 4,.int .i64 0,.int .i64 0,.int .i64 0,.int .i64 0,.int .i64 0]:=H0.o.own;have c0:=ho.cell 0;have hgl:=ho.lt;have HBB:=aH (Below.refl w.heap.size w);clear hM hmx hok h hR1 hnm ho;go_enter Tryz.func22,Tryz.ntmps22;go_wp2_with fail;clear c0 hgl
 go_loopw [3,11] (fun v3 v11 wr=>∃ (k s:Nat),v3=.int .i64 (s:Int)/\v11=.int .i64 (k:Int)/\(k:Int)<=nm/\aQ (s<=24)/\aQ (Wp w0 wr g ct rows v (.slice mo nm mc) 0 none)/\aQ (R1=hd1 ML (ML.drop k) k s none)/\aQ (Below w.heap.size w wr)) (fun _ v11 _=>nm - (intOf v11).toNat)
 case atStart=>exact ⟨0,0,rfl,rfl,by omega,aH (by omega),H0,HR1,HBB⟩
 case round =>
  obtain ⟨k,s,rfl,rfl,hk,HS,HW,HR,HB⟩:=hrel;clear H0 HR1 HBB;by_cases hkn:(k:Int) < nm
  ·
   have hkn1:decide ((k:Int) < nm)=true:=aT hkn;have hkn2:decide (k < nm)=true:=aT (by omega);obtain ⟨m,hm⟩:∃ m,ML[k]?=some m:=⟨_,aG (by have:=HNM.o;omega)⟩;have HFL:=aH (findN_le hm);obtain ⟨⟨nn,hMr⟩,hmx⟩:=HMS.o wr HW.o.bl;obtain ⟨mb,moff,io,ic,ko,kc,ro,rc,hmo,hmb,⟨-,hic,hrc⟩,d0,d1,d2,d3,d4,d5,d6,d7,d8,d9,dA,hnr,hke,hru⟩:=hMr k m hm;have HOM:=aH (HOK.o m (aM hm));have HRG:=aH (fun W (hW:Below wr.heap.size wr W)=>dright_any m D0 nn io ic ko kc ro rc HOM.o.1 HOM.o.2.1 HOM.o.2.2 hic hrc W (hnr.hasN.below hW) (aV.below hW (aV.fit HOM.o.1.wa.2 hke.hask)) (hru.but (But.of_below (S:=fun _=>False) hW) (fun _ h=>h.elim)) (hmx.below hW))
   have HRS:=aH (show R1=hd1 ML (ML.drop (k + 1)) (k + 1) (s + m.ru.length) (orF (hdE ML k m) (if 24 < s + m.ru.length then some (3,(k:Int),-1) else none)) from by
    obtain ⟨h1,h2⟩:=aS.1 hm
    rw [HR.o,List.drop_eq_getElem_cons h1,h2,B0G];rfl)
   have HRF:=aH (fun (f:Ft3) (h:hdE ML k m=some f)=>show R1=some f from by rw [HRS.o,h];exact hd1_some ML f _ _ _);subst hmo;have HBX:=aH (show Below wr.heap.size wr (wr.alloc (.cells #[.string m.nm,.slice io m.im.length ic,.bool m.wet,.int .i64 m.wa.op,.string m.wa.text,.int .u64 m.wa.s0,.int .u64 m.wa.s1,.int .u64 m.wa.s2,.int .u64 m.wa.s3,.slice ko m.wa.kids.length kc,.slice ro m.ru.length rc] 35)) from bA _);have HX1:=aH (Own.fresh wr 35 [.string m.nm,.slice io m.im.length ic,.bool m.wet,.int .i64 m.wa.op,.string m.wa.text,.int .u64 m.wa.s0,.int .u64 m.wa.s1,.int .u64 m.wa.s2,.int .u64 m.wa.s3,.slice ko m.wa.kids.length kc,.slice ro m.ru.length rc]);have HW1:=aH (HW.o.below HBX.o);have HB1:=aH (HB.o.trans (HBX.o.mono HB.o.size));have hw1:IntKind.i64.wrap ((k:Int) + 1)=(k:Int) + 1:=wI;have ho:Own wr g 68 [.slice (some ⟨mb,moff,none⟩) nm mc,v 5,v 1,v 2,v 3,v 4,.int .i64 0,.int .i64 0,.int .i64 0,.int .i64 0,.int .i64 0]:=HW.o.own;have h24:=HOM.o.2.2;clear hm hMr hic hrc hnr hke hru hmx HR ho;go_upto_region 5 with fail;clear d0 d1 d2 d3 d4 d5 d6 d7 d8 d9 dA hmb;obtain ⟨A,hA⟩:∃ A,wr.heap.size=A:=⟨_,rfl⟩;generalize hw2:wr.alloc (.cells #[.string m.nm,.slice io m.im.length ic,.bool m.wet,.int .i64 m.wa.op,.string m.wa.text,.int .u64 m.wa.s0,.int .u64 m.wa.s1,.int .u64 m.wa.s2,.int .u64 m.wa.s3,.slice ko m.wa.kids.length kc,.slice ro m.ru.length rc] 35)=w1 at *;clear hw2;rw [hA] at HX1;try rw [hA]
   clear hA;obtain ⟨x0,x1,x2,x3,x4,x5,x6,x7,x8,x9,xA⟩:=HX1.o.elev;have xl:=HX1.o.lt;obtain ⟨nr,hnr⟩:∃ z,m.ru.length=z:=⟨_,rfl⟩;have hs24:=HS.o;have hwr:IntKind.i64.wrap ((s:Int) + (nr:Int))=(s:Int) + (nr:Int):=wI;have HNR:=aH hnr;rw [hnr] at xA HRS h24;have HRC:=aH (HRG.o w1 HBX.o);rw [hnr] at HRC;clear hnr;by_cases h4k:4<=k
   · have h4a:decide ((4:Int)<=(k:Int))=true:=aT (by omega);have h4b:decide (4<=k)=true:=aT h4k;have HE:=aH (show R1=some (3,(k:Int),-1) from HRF.o _ (if_pos h4k));go_wp2_with fail;refine (pstop_any 3 (k:Int) (-1) (by decide) HW1.o).mono ?_;rintro e w9 ⟨rfl,hW9,hb9⟩;have HW9:=aH hW9;have HB9:=aH hb9;clear hW9 hb9;go_wp2;go_ret;rw [HE.o];exact ⟨⟨rfl,HW9.o⟩,(But.of_below HB1.o).trans HB9.o (fun b _ h=>h)⟩
   ·
    have h4a:decide ((4:Int)<=(k:Int))=false:=aF (by omega);have h4b:decide (4<=k)=false:=aF h4k;have HE1:=aH (show hdE ML k m=if Qx m=false then some (1,(k:Int),-1) else if cB ML m.nm=(k:Int) then none else some (4,(k:Int),-1) from if_neg h4k);obtain ⟨zr,hzr⟩:∃ z,Qx m=z:=⟨_,rfl⟩;rw [hzr] at HRC HE1;clear hzr;go_wp2_with fail;refine HRC.o.mono ?_;rintro e w2 ⟨rfl,hb2⟩;have HW2:=aH (HW1.o.below hb2);have HB2:=aH (HB1.o.trans (hb2.mono HB1.o.size));have HX2:=aH (HX1.o.under hb2 HX1.o.lt);clear hb2 x0 x1 x2 x3 x4 x5 x6 x7 x8 x9 xA xl HRC HRG HW1 HB1 HX1
    cases zr with
    | false =>
     have HE:=aH (show R1=some (1,(k:Int),-1) from HRF.o _ (by rw [HE1.o];rfl));go_wp2_with fail;refine (pstop_any 1 (k:Int) (-1) (by decide) HW2.o).mono ?_;rintro e w9 ⟨rfl,hW9,hb9⟩;have HW9:=aH hW9;have HB9:=aH hb9;clear hW9 hb9;go_wp2;go_ret;rw [HE.o];exact ⟨⟨rfl,HW9.o⟩,(But.of_below HB2.o).trans HB9.o (fun b _ h=>h)⟩
    | true =>
     have x0:w2.cell? ⟨A,0,none⟩=some (.string m.nm):=HX2.o.cell 0;have xl:=HX2.o.lt;have ho2:Own w2 g 68 [.slice (some ⟨mb,moff,none⟩) nm mc,v 5,v 1,v 2,v 3,v 4,.int .i64 0,.int .i64 0,.int .i64 0,.int .i64 0,.int .i64 0]:=HW2.o.own;have c0:w2.cell? ⟨g,0,none⟩=some (.slice (some ⟨mb,moff,none⟩) nm mc):=ho2.cell 0;have c0':=cell_regrown c0;have x0':=cell_regrown x0;have hgl:=ho2.lt;obtain ⟨q,hq⟩:∃ z,cB ML m.nm=z:=⟨_,rfl⟩;have hqk:=HFL.o
     have CF:=aH (fun (dq:Nat) (os:Array Obj)=>show Calls Tryz.prog 52 #[.slice (some ⟨mb,moff,none⟩) nm mc,.string m.nm] (grow (redrawn w2 dq) os) fun e w'=>e=.returned (.int .i64 q)/\Below (grow (redrawn w2 dq) os).heap.size (grow (redrawn w2 dq) os) w' from by
      have h:=HFI.o m.nm _ (HW2.o.bl.trans ((below_regrown w2 dq os).mono HW2.o.bl.size));rw [hq] at h
      exact h)
     rw [hq] at HE1 hqk;clear hq ho2;by_cases hlt:q < (k:Int)
     ·
      have hq1:decide (q < (k:Int))=true:=aT hlt;have HEH:=aH (show hdE ML k m=some (4,(k:Int),-1) from by rw [HE1.o,if_neg (by simp),if_neg (by omega)]);go_wp2_with fail;refine wp_region_quiet_below (by kernel_rfl) (by kernel_rfl) ?_
      repeat (go_big_quiet_step (first
       | (go_at_call 52;with_reducible exact Calls.regrown_of (CF.o _ _))))
      refine wpQuiet_nil ?_;intro _ hw';obtain ⟨⟨dq,osq⟩,hw''⟩:=hw';subst hw'';have HW3:=aH (HW2.o.below (below_regrown w2 dq osq));have HB3:=aH (HB2.o.trans ((below_regrown w2 dq osq).mono HB2.o.size));clear x0 x0' xl c0 c0' hgl CF HX2;generalize grow (redrawn w2 dq) osq=w3 at *;have HE:=aH (show R1=some (4,(k:Int),-1) from HRF.o _ HEH.o);go_wp2_with fail;refine (pstop_any 4 (k:Int) (-1) (by decide) HW3.o).mono ?_;rintro e w9 ⟨rfl,hW9,hb9⟩;have HW9:=aH hW9;have HB9:=aH hb9;clear hW9 hb9;go_wp2;go_ret;rw [HE.o];exact ⟨⟨rfl,HW9.o⟩,(But.of_below HB3.o).trans HB9.o (fun b _ h=>h)⟩
     ·
      have hq1:decide (q < (k:Int))=false:=aF hlt;have HEH:=aH (show hdE ML k m=none from by rw [HE1.o,if_neg (by simp),if_pos (by omega)]);have HRT:=aH (show R1=hd1 ML (ML.drop (k + 1)) (k + 1) (s + nr) (if 24 < s + nr then some (3,(k:Int),-1) else none) from by rw [HRS.o,HEH.o];rfl);go_wp2_with fail;refine wp_region_quiet_below (by kernel_rfl) (by kernel_rfl) ?_
      repeat (go_big_quiet_step (first
       | (go_at_call 52;with_reducible exact Calls.regrown_of (CF.o _ _))))
      refine wpQuiet_nil ?_;intro _ hw';obtain ⟨⟨dq,osq⟩,hw''⟩:=hw';subst hw'';have HW3:=aH (HW2.o.below (below_regrown w2 dq osq));have HB3:=aH (HB2.o.trans ((below_regrown w2 dq osq).mono HB2.o.size));clear x0 x0' xl c0 c0' hgl CF HX2;generalize grow (redrawn w2 dq) osq=w3 at *;by_cases hq24:24 < s + nr
      · have hq3:decide ((24:Int) < (s:Int) + (nr:Int))=true:=aT (by omega);have HE:=aH (show R1=some (3,(k:Int),-1) from by rw [HRT.o,if_pos hq24];exact hd1_some ML _ _ _ _);go_wp2_with fail;refine (pstop_any 3 (k:Int) (-1) (by decide) HW3.o).mono ?_;rintro e w9 ⟨rfl,hW9,hb9⟩;have HW9:=aH hW9;have HB9:=aH hb9;clear hW9 hb9;go_wp2;go_ret;rw [HE.o];exact ⟨⟨rfl,HW9.o⟩,(But.of_below HB3.o).trans HB9.o (fun b _ h=>h)⟩
      ·
       have hq3:decide ((24:Int) < (s:Int) + (nr:Int))=false:=aF (by omega);have HRN:=aH (HRT.o.trans (by rw [if_neg hq24]));go_wp2
       go_roundw
       case rel=>exact ⟨k + 1,s + nr,by go_num,by go_num,by omega,aH (by omega),HW3,HRN,HB3⟩
       case measure=>simp [intOf];omega
  · have hkn1:decide ((k:Int) < nm)=false:=aF hkn;have hkn2:decide (k < nm)=false:=aF (by omega);have HE:=aH (show R1=none from by rw [HR.o,List.drop_eq_nil_of_le (by have:=HNM.o;omega)];rfl);go_wp2;go_ret;rw [HE.o];exact ⟨⟨rfl,HW.o⟩,But.of_below HB.o⟩
theorem pimps_any (ML:List Md) (mo:Option Addr) (mc:Nat) (w0:World) (D0:Nat) (hM:fK w0 D0 mo ML) (hok:∀ m ∈ ML,Okm m) (h5:ML.length<=8) (g:Nat) (w:World) (ct:Nat->Nat) (rows:Rw) (v:Nat->Value) (h:Wp w0 w g ct rows v (.slice mo ML.length mc) 0 none) :
  Calls Tryz.prog 23 #[.pointer (some ⟨g,0,none⟩)] w fun e w'=>ChP w0 w' g ct rows v (.slice mo ML.length mc) e (hd2 ML ML 0 none)/\But (fun j=>j=g) w w':=by
 have HFI:=aH (fun (s:ByteArray) W (hW:Below w0.heap.size w0 W)=>uX ML D0 mo mc s (by omega) W (hM.below hW));have HMS:=aH (fun (W:World) (h:Below w0.heap.size w0 W)=>hM.below h);have HOK:=aH hok;have H0:=aH h;obtain ⟨R1,hR1⟩:∃ r,hd2 ML ML 0 none=r:=⟨_,rfl⟩;have HR1:=aH (show R1=hd2 ML (ML.drop 0) 0 none from by rw [List.drop_zero];exact hR1.symm);obtain ⟨nm,hnm⟩:∃ n,ML.length=n:=⟨_,rfl⟩;have HNM:=aH hnm;rw [hnm] at H0 HFI h5;rw [hR1,hnm];have ho:Own w g 68 [.slice mo nm mc,v 5,v 1,v 2,v 3,v 4,.int .i64 0,.int .i64 0,.int .i64 0,.int .i64 0,.int .i64 0]:=H0.o.own;have c0:=ho.cell 0;have hgl:=ho.lt;have HBB:=aH (Below.refl w.heap.size w);clear hM hok h hR1 hnm ho;go_enter Tryz.func23,Tryz.ntmps23;go_wp2_with fail;clear c0 hgl
 go_loopw [12] (fun v12 wr=>∃ k:Nat,v12=.int .i64 (k:Int)/\(k:Int)<=nm/\aQ (Wp w0 wr g ct rows v (.slice mo nm mc) 0 none)/\aQ (R1=hd2 ML (ML.drop k) k none)/\aQ (Below w.heap.size w wr)) (fun v12 _=>nm - (intOf v12).toNat)
 case atStart=>exact ⟨0,rfl,by omega,H0,HR1,HBB⟩
 case round =>
  obtain ⟨k,rfl,hk,HW,HR,HB⟩:=hrel;clear H0 HR1 HBB;by_cases hkn:(k:Int) < nm
  ·
   have hkn1:decide ((k:Int) < nm)=true:=aT hkn;have hkn2:decide (k < nm)=true:=aT (by omega);obtain ⟨m,hm⟩:∃ m,ML[k]?=some m:=⟨_,aG (by have:=HNM.o;omega)⟩;obtain ⟨nn,hMr⟩:=HMS.o wr HW.o.bl;obtain ⟨mb,moff,io,ic,ko,kc,ro,rc,hmo,hmb,⟨-,hic,hrc⟩,d0,d1,d2,d3,d4,d5,d6,d7,d8,d9,dA,hnr,hke,hru⟩:=hMr k m hm;have HIM:=aH (show gI wr io m.im from hnr.hasN);have h4:=(HOK.o m (aM hm)).2.1
   have HRS:=aH (show R1=hd2 ML (ML.drop (k + 1)) (k + 1) (imF ML k (m.im.drop 0) none) from by
    obtain ⟨h1,h2⟩:=aS.1 hm
    rw [HR.o,List.drop_eq_getElem_cons h1,h2,B0H,List.drop_zero])
   subst hmo;have HBX:=aH (show Below wr.heap.size wr (wr.alloc (.cells #[.string m.nm,.slice io m.im.length ic,.bool m.wet,.int .i64 m.wa.op,.string m.wa.text,.int .u64 m.wa.s0,.int .u64 m.wa.s1,.int .u64 m.wa.s2,.int .u64 m.wa.s3,.slice ko m.wa.kids.length kc,.slice ro m.ru.length rc] 35)) from bA _);have HX1:=aH (Own.fresh wr 35 [.string m.nm,.slice io m.im.length ic,.bool m.wet,.int .i64 m.wa.op,.string m.wa.text,.int .u64 m.wa.s0,.int .u64 m.wa.s1,.int .u64 m.wa.s2,.int .u64 m.wa.s3,.slice ko m.wa.kids.length kc,.slice ro m.ru.length rc]);have HW1:=aH (HW.o.below HBX.o);have HB1:=aH (HB.o.trans (HBX.o.mono HB.o.size));have HIM1:=aH (HIM.o.below HBX.o);have hw1:IntKind.i64.wrap ((k:Int) + 1)=(k:Int) + 1:=wI;clear hm hMr hic hrc hnr hke hru HR HIM;go_upto_region 4 with fail;clear d0 d1 d2 d3 d4 d5 d6 d7 d8 d9 dA hmb;obtain ⟨A,hA⟩:∃ A,wr.heap.size=A:=⟨_,rfl⟩;generalize hw2:wr.alloc (.cells #[.string m.nm,.slice io m.im.length ic,.bool m.wet,.int .i64 m.wa.op,.string m.wa.text,.int .u64 m.wa.s0,.int .u64 m.wa.s1,.int .u64 m.wa.s2,.int .u64 m.wa.s3,.slice ko m.wa.kids.length kc,.slice ro m.ru.length rc] 35)=w1 at *;clear hw2;rw [hA] at HX1;try rw [hA]
   clear hA;have x1:=HX1.o.cell 1;have xl:=HX1.o.lt;obtain ⟨ni,hni⟩:∃ z,m.im.length=z:=⟨_,rfl⟩;have HNI:=aH hni;rw [hni] at x1 h4;clear hni;go_wp2_with fail;clear x1 xl
   go_loopw [20] (fun v20 wq=>∃ j:Nat,v20=.int .i64 (j:Int)/\(j:Int)<=ni/\aQ (Wp w0 wq g ct rows v (.slice (some ⟨mb,moff,none⟩) nm mc) 0 none)/\aQ (R1=hd2 ML (ML.drop (k + 1)) (k + 1) (imF ML k (m.im.drop j) none))/\aQ (Below w.heap.size w wq)/\aQ (Below w1.heap.size w1 wq)) (fun v20 _=>ni - (intOf v20).toNat)
   case atStart=>exact ⟨0,rfl,by omega,HW1,HRS,HB1,aH (Below.refl _ _)⟩
   case round =>
    obtain ⟨j,rfl,hj,HWq,HRq,HBq,HQq⟩:=hrel;clear HW1 HRS HB1;by_cases hjn:(j:Int) < ni
    ·
     have hjn1:decide ((j:Int) < ni)=true:=aT hjn;have hjn2:decide (j < ni)=true:=aT (by omega);obtain ⟨x,hx⟩:∃ x,m.im[j]?=some x:=⟨_,aG (by have:=HNI.o;omega)⟩;obtain ⟨ib,ioff,hao,hb,i0⟩:=(HIM1.o.below HQq.o) j x hx
     have HR2:=aH (show R1=hd2 ML (ML.drop (k + 1)) (k + 1) (imF ML k (m.im.drop (j + 1)) (if cB ML x < 0 then some (5,(k:Int),-1) else none)) from by
      obtain ⟨h1,h2⟩:=aS.1 hx
      rw [HRq.o,List.drop_eq_getElem_cons h1,h2,B0P];rfl)
     have ho2:Own wr g 68 [.slice (some ⟨mb,moff,none⟩) nm mc,v 5,v 1,v 2,v 3,v 4,.int .i64 0,.int .i64 0,.int .i64 0,.int .i64 0,.int .i64 0]:=HWq.o.own;have c0:wr.cell? ⟨g,0,none⟩=some (.slice (some ⟨mb,moff,none⟩) nm mc):=ho2.cell 0;have hgl:=ho2.lt;have HFC:=aH (HFI.o x wr HWq.o.bl);obtain ⟨q,hq⟩:∃ z,cB ML x=z:=⟨_,rfl⟩;rw [hq] at HFC HR2;have hw2:IntKind.i64.wrap ((j:Int) + 1)=(j:Int) + 1:=wI;subst hao;clear hx hq ho2 HRq;go_wp2_with fail;refine HFC.o.mono ?_;rintro e w2 ⟨rfl,hb2⟩;have HW2:=aH (HWq.o.below hb2);have HB2:=aH (HBq.o.trans (hb2.mono HBq.o.size));have HQ2:=aH (HQq.o.trans (hb2.mono HQq.o.size));clear hb2 c0 hgl i0 hb HFC;by_cases hq0:q < 0
     · have hq1:decide (q < 0)=true:=aT hq0;have HE:=aH (show R1=some (5,(k:Int),-1) from by rw [HR2.o,if_pos hq0,imF_some];exact hd2_some ML _ _ _);go_wp2_with fail;refine (pstop_any 5 (k:Int) (-1) (by decide) HW2.o).mono ?_;rintro e w9 ⟨rfl,hW9,hb9⟩;have HW9:=aH hW9;have HB9:=aH hb9;clear hW9 hb9;go_wp2;go_ret;rw [HE.o];exact ⟨⟨rfl,HW9.o⟩,(But.of_below HB2.o).trans HB9.o (fun b _ h=>h)⟩
     ·
      have hq1:decide (q < 0)=false:=aF hq0;have HR3:=aH (HR2.o.trans (by rw [if_neg hq0]));go_wp2
      go_roundw
      case rel=>exact ⟨j + 1,by go_num,by omega,HW2,HR3,HB2,HQ2⟩
      case measure=>simp [intOf];omega
    ·
     have hjn1:decide ((j:Int) < ni)=false:=aF hjn;have hjn2:decide (j < ni)=false:=aF (by omega)
     have HR3:=aH (show R1=hd2 ML (ML.drop (k + 1)) (k + 1) none from by
      have e:m.im.drop j=[]:=List.drop_eq_nil_of_le (by have:=HNI.o;omega)
      rw [HRq.o,e];rfl)
     go_wp2
     go_roundw
     case rel=>exact ⟨k + 1,by go_num,by omega,HWq,HR3,HBq⟩
     case measure=>simp [intOf];omega
  · have hkn1:decide ((k:Int) < nm)=false:=aF hkn;have hkn2:decide (k < nm)=false:=aF (by omega);have HE:=aH (show R1=none from by rw [HR.o,List.drop_eq_nil_of_le (by have:=HNM.o;omega)];rfl);go_wp2;go_ret;rw [HE.o];exact ⟨⟨rfl,HW.o⟩,But.of_below HB.o⟩
end Go.Proofs.YthkdnehgamefiaaGreat
