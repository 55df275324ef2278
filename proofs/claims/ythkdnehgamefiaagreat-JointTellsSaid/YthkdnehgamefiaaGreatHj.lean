import Derived.Test.YthkdnehgamefiaaGreatHc
import Derived.Test.YthkdnehgamefiaaGreatRows
import Derived.ProofKit
import Derived.OpenShut
import Derived.Deep.Slices
namespace Go.Proofs.YthkdnehgamefiaaGreat
set_option linter.unusedVariables false
open Go.RowKit Go.Sort
def A7v (mod x:ByteArray):Bool:=!(mod.toList == []) && !(mod.toList == x.toList)
theorem A9K (a b:List UInt8):(a == b)=(b == a):=by
 by_cases h:a=b
 · subst h;rfl
 · rw [aN.2 h,aN.2 (fun e=>h e.symm)]
theorem A5s (mod x nm:ByteArray) (h:nm.toList=x.toList):A7v mod x=Ut mod nm:=by unfold A7v Ut;rw [h,A9K mod.toList x.toList]
def oI (l:List Md) (i0:Int) (mod name:ByteArray):Nat->List ByteArray->Rv
 | _,[]=>(0,0,false)
 | i,x :: r=>if A7v mod x=true then oI l i0 mod name (i + 1) r
  else if (if 0 < i then cB l x else i0) < 0 then oI l i0 mod name (i + 1) r
  else match l[(if 0 < i then cB l x else i0).toNat]? with
   | none=>(0,0,false)
   | some m=>if 0<=eU m name then ((if 0 < i then cB l x else i0),eU m name,true) else oI l i0 mod name (i + 1) r
theorem BZ {l:List Md} {x:ByteArray} (h:0<=cB l x):∃ m,l[(cB l x).toNat]?=some m/\m.nm.toList=x.toList:=by obtain ⟨m,h1,h2⟩:=VH (fun m:Md=>m.nm.toList == x.toList) 0 l h;exact ⟨m,by rw [Nat.sub_zero] at h1;exact h1,by simpa using h2⟩
theorem TF (l:List Md) (i0:Int) (mod name:ByteArray):∀ (im:List ByteArray) (j:Nat),0 < j->oI l i0 mod name j im=zR l mod name ((im.map (cB l)).filter (fun k=>decide (0<=k)))
 | [],j,hj=>rfl
 | x :: r,j,hj=>by
  have ih:=TF l i0 mod name r (j + 1) (by omega);unfold oI;rw [if_pos hj,ih,List.map_cons];by_cases h:0<=cB l x
  ·
   rw [List.filter_cons_of_pos (by simpa using h)];obtain ⟨m,h1,h2⟩:=BZ h
   conv=>rhs;unfold zR
   rw [h1,A5s mod x m.nm h2,if_neg (by omega:¬ cB l x < 0)]
  · rw [List.filter_cons_of_neg (by simpa using h),if_pos (by omega:cB l x < 0)];split <;> rfl
theorem B6W {l:List Md} {i:Nat} {m:Md} (hm:l[i]?=some m) (mod name:ByteArray):oI l (i:Int) mod name 0 (m.nm :: m.im)=zR l mod name (yN l m i):=by have h:=TF l (i:Int) mod name m.im 1 (by omega);unfold oI yN;rw [Ac hm,h,if_neg (by omega:¬ (0:Nat) < 0),A5s mod m.nm m.nm rfl,if_neg (by omega:¬ (i:Int) < 0),Int.toNat_natCast,hm]
set_option maxRecDepth 1000000 in
set_option maxHeartbeats 1600000 in
theorem Ia (ML:List Md) (D:Nat) (mo:Option Addr) (mc:Nat) (i:Int) (ref:ByteArray) (hr:ref.size<=1000000) (hf:Few ML) (w:World) (hM:fK w D mo ML) :
  Calls Tryz.prog 58 #[.slice mo ML.length mc,.int .i64 i,.string ref] w fun e w'=>e=.returned (rvV (uD ML i ref))/\Below w.heap.size w w':=by
 have HSP:=aH (xK ref hr w);have HM0:=aH hM;have HFW:=aH hf;have hn:=hf.1;have HRS:=aH (show uD ML i ref=if splitB ref=true/\0<=i/\i < ML.length then (match ML[i.toNat]? with | none=>(0,0,false) | some m=>zR ML (iA ref) (iN ref) (yN ML m i)) else (0,0,false) from rfl);have HFD:=aH (fun (s:ByteArray) W (hW:fK W D mo ML)=>Ad ML D mo mc s hf.1 W hW);generalize uD ML i ref=RES at *;obtain ⟨mod,hmod⟩:∃ z,iA ref=z:=⟨_,rfl⟩;obtain ⟨nam,hnam⟩:∃ z,iN ref=z:=⟨_,rfl⟩;obtain ⟨z,hz⟩:∃ z,splitB ref=z:=⟨_,rfl⟩;rw [hmod,hnam,hz] at HSP HRS;clear hM hf hmod hnam hz;obtain ⟨n,hnn⟩:∃ n,ML.length=n:=⟨_,rfl⟩;have HN:=aH hnn;rw [hnn] at hn HRS HFD ⊢;clear hnn;go_enter Tryz.func58,Tryz.ntmps58;go_wp2_with fail;refine HSP.o.mono ?_;rintro e w1 ⟨rfl,hb1⟩;have HB1:=aH hb1;have HM1:=aH (HM0.o.below hb1);clear hb1 HSP
 cases z with
 | false =>
  have HE:=aH (show RES=(0,0,false) from by rw [HRS.o,if_neg (by simp)]);go_wp2
  go_ret3
  exact ⟨by rw [HE.o];rfl,HB1.o⟩
 | true =>
  by_cases h0:i < 0
  ·
   have h0':decide (i < 0)=true:=aT h0;have HE:=aH (show RES=(0,0,false) from by rw [HRS.o,if_neg (by omega)]);go_wp2
   go_ret3
   exact ⟨by rw [HE.o];rfl,HB1.o⟩
  ·
   have h0':decide (i < 0)=false:=aF h0;by_cases h1:(n:Int)<=i
   ·
    have h1':decide ((n:Int)<=i)=true:=aT h1;have HE:=aH (show RES=(0,0,false) from by rw [HRS.o,if_neg (by omega)]);go_wp2
    go_ret3
    exact ⟨by rw [HE.o];rfl,HB1.o⟩
   ·
    obtain ⟨q,rfl⟩:∃ q:Nat,i=(q:Int):=⟨i.toNat,by omega⟩;have h1':decide ((n:Int)<=(q:Int))=false:=aF h1;have h1n:decide (n<=q)=false:=aF (by omega);have hqn:(q:Int) < n:=(by omega);obtain ⟨m,hm⟩:∃ m,ML[q]?=some m:=⟨_,aG (by have:=HN.o;omega)⟩;have HE0:=aH (show RES=oI ML (q:Int) mod nam 0 (m.nm :: m.im) from by rw [HRS.o,if_pos ⟨rfl,by omega,by omega⟩,Int.toNat_natCast,hm,B6W hm]);have HIL:=aH ((HFW.o.2 m (aM hm)).1);have HMb:=aH (HM1.o.below (Below.refl _ _).drew);have HBb:=aH HB1.o.drew;obtain ⟨nn,hMr⟩:=HMb.o;obtain ⟨b,off,io,ic,ko,kc,ro,rc,hmo,hb,_,c0,c1,-,-,-,-,-,-,-,-,-,hnr,-⟩:=hMr q m hm;have HNR:=aH hnr.hasN;obtain ⟨ni,hni⟩:∃ z,m.im.length=z:=⟨_,rfl⟩;have HNI:=aH hni;rw [hni] at c1 HIL;have hil:=HIL.o;clear hMr hnr HRS h1 hni;rw [hmo];go_upto_region 4 with fail;refine wp_region_held (S:=fun Wx=>b < Wx.heap.size/\Wx.cell? ⟨b,off + q * 11,none⟩=some (.string m.nm)/\Wx.cell? ⟨b,off + q * 11 + 1,none⟩=some (.slice io ni ic)) (by kernel_rfl) ?_;change wpAnyH _ _ _ _ _ _ _ _ (World.drew _);clear HM1 HB1;generalize World.drew _=wb at *;have HS:=aH (show b < wb.heap.size/\wb.cell? ⟨b,off + q * 11,none⟩=some (.string m.nm)/\wb.cell? ⟨b,off + q * 11 + 1,none⟩=some (.slice io ni ic) from ⟨hb,c0,c1⟩);clear hb c0 c1;refine tB 0 rfl HS.o ?_;go_simp;refine tB 1 rfl HS.o ?_;go_simp;refine tB 2 rfl HS.o ?_;go_simp;refine tB 3 rfl HS.o ?_;go_simp;refine tB 4 rfl HS.o ?_;go_simp;refine tB 6 rfl HS.o ?_;go_simp;refine tB 7 rfl HS.o ?_;go_simp;refine tB 8 rfl HS.o ?_;go_simp;refine tB 9 rfl HS.o ?_;go_simp;refine tB 10 rfl HS.o ?_;go_simp;obtain ⟨i0,hi0,hz0,hz1,hz2⟩:=cZ uZ;have hbl1:Below wb.heap.size wb (wb.alloc (.cells #[.string m.nm] 9)):=bA _;refine bE (i:=5) (by kernel_rfl) (aY (v:=.slice (some ⟨wb.heap.size,0,none⟩) 1 1) (w':=wb.alloc (.cells #[.string m.nm] 9)) rfl (by kernel_rfl) (by go_simp) ?_);have HO3:=aH (Own.fresh wb 9 [.string m.nm]);have HB3:=aH (HBb.o.trans (hbl1.mono HBb.o.size));have HM3:=aH (HMb.o.below hbl1);have HNR3:=aH (HNR.o.below hbl1);have HS3:=aH (show b < (wb.alloc (.cells #[.string m.nm] 9)).heap.size/\(wb.alloc (.cells #[.string m.nm] 9)).cell? ⟨b,off + q * 11,none⟩=some (.string m.nm)/\(wb.alloc (.cells #[.string m.nm] 9)).cell? ⟨b,off + q * 11 + 1,none⟩=some (.slice io ni ic) from ⟨aL HS.o.1 hbl1.size,aC HS.o.2.1 hbl1,aC HS.o.2.2 hbl1⟩);have HGB:=aH (show w.heap.size<=wb.heap.size/\b < wb.heap.size from ⟨HBb.o.size,HS.o.1⟩);clear hbl1 HBb HMb HNR HS;have HS:=HS3;clear HS3;generalize wb.alloc (.cells #[.string m.nm] 9)=wc at *;generalize wb.heap.size=G1 at *;refine ⟨HS.o,?_⟩;go_simp;refine bE (i:=11) (by kernel_rfl) (Bh rfl (by kernel_rfl) _ _ 22 22 rfl (fun b=>b=G1) 9 i0 _ 1 16 Tryz.underlying22 hi0 hz0 hz1 hz2 rfl (by decide) (.slice (some ⟨G1,0,none⟩) 1 1) 1 [.string m.nm] rfl (Win.one HO3.o rfl) (.slice io ni ic) ni (m.im.map Value.string) rfl (by have:=Src.ofNames (cap:=ic) HNR3.o;rw [HNI.o] at this;exact this) (by unfold maxLen;omega) (by omega) ?_);intro v2 wd hw2 hb2;have hS1:∀ j,j=G1->w.heap.size<=j/\j ≠ b:=fun j e=>(by have:=HGB.o;omega);have HB4:=aH (HB3.o.trans (hb2.below (B:=w.heap.size) HB3.o.size (fun j e=>(hS1 j e).1)));have HM4:=aH (show fK wd D mo ML from HM0.o.below HB4.o);obtain ⟨no,nc,hv2,-⟩:=hw2.form;subst hv2;have HN2:=aH (show gI wd no (m.nm :: m.im) from oM (c:=nc) (n:=1 + ni) (S:=fun g=>g=G1\/wc.heap.size<=g) (l:=m.nm :: m.im) hw2);have HS4:=aH (show b < wd.heap.size/\wd.cell? ⟨b,off + q * 11,none⟩=some (.string m.nm)/\wd.cell? ⟨b,off + q * 11 + 1,none⟩=some (.slice io ni ic) from ⟨aL HS.o.1 hb2.size,hb2.cell (fun e=>(hS1 _ e).2 rfl) HS.o.2.1,hb2.cell (fun e=>(hS1 _ e).2 rfl) HS.o.2.2⟩);clear hw2 hb2 HB3 HM3 HNR3 HO3 HS hS1;have HS:=HS4;clear HS4;refine ⟨HS.o,?_⟩;go_simp;refine tB 12 rfl HS.o ?_;go_simp;refine wpAnyH_done (by kernel_rfl) ?_ _;clear HS;have hmoE:=aH hmo;clear hmo;obtain ⟨NS,hNS⟩:∃ l,m.nm :: m.im=l:=⟨_,rfl⟩;rw [hNS] at HN2 HE0;have HNL:=aH (show NS.length=1 + ni from by rw [<- hNS,List.length_cons,HNI.o,Nat.add_comm]);clear hNS;have HQ0:=aH (show RES=oI ML (q:Int) mod nam 0 (NS.drop 0) from by rw [List.drop_zero];exact HE0.o);clear HE0;go_wp2_with fail
    go_loopw [13] (fun v13 wr=>∃ k:Nat,v13=.int .i64 (k:Int)/\(k:Int)<=1 + (ni:Int)/\aQ (RES=oI ML (q:Int) mod nam k (NS.drop k))/\aQ (fK wr D mo ML)/\aQ (gI wr no NS)/\aQ (Below w.heap.size w wr)) (fun v13 _=>1 + ni - (intOf v13).toNat)
    case atStart=>exact ⟨0,rfl,by omega,HQ0,HM4,HN2,HB4⟩
    case round =>
     obtain ⟨k,rfl,hk,HQ,HM,HI,HB⟩:=hrel;clear HQ0 HM4 HN2 HB4;by_cases hlt:(k:Int) < 1 + (ni:Int)
     ·
      obtain ⟨x,hx⟩:∃ x,NS[k]?=some x:=⟨_,aG (by have:=HNL.o;omega)⟩
      have HD:=aH (show NS.drop k=x :: NS.drop (k + 1) from by
       obtain ⟨h1,h2⟩:=aS.1 hx
       rw [List.drop_eq_getElem_cons h1,h2])
      obtain ⟨b1,off1,hso1,hb1,d0⟩:=HI.o k _ hx
      have HZ:=aH (show RES=if A7v mod x=true then oI ML (q:Int) mod nam (k + 1) (NS.drop (k + 1)) else if (if 0 < k then cB ML x else (q:Int)) < 0 then oI ML (q:Int) mod nam (k + 1) (NS.drop (k + 1)) else match ML[(if 0 < k then cB ML x else (q:Int)).toNat]? with | none=>(0,0,false) | some m=>if 0<=eU m nam then ((if 0 < k then cB ML x else (q:Int)),eU m nam,true) else oI ML (q:Int) mod nam (k + 1) (NS.drop (k + 1)) from by
       rw [HQ.o,HD.o]
       conv=>lhs;unfold oI)
      have hw1:IntKind.i64.wrap ((k:Int) + 1)=(k:Int) + 1:=wI;obtain ⟨za,hza⟩:∃ z,(mod.toList == [])=z:=⟨_,rfl⟩;obtain ⟨zb,hzb⟩:∃ z,(mod.toList == x.toList)=z:=⟨_,rfl⟩;have HOB:=aH (show A7v mod x=(!za && !zb) from by unfold A7v;rw [hza,hzb]);have hltn:decide ((k:Int) < 1 + (ni:Int))=true:=aT hlt;clear hx;subst hso1
      cases za with
      | true =>
       have HZ2:=aH (HZ.o.trans (if_neg (by rw [HOB.o];simp)));clear hzb HZ;by_cases hk0:0 < k
       ·
        have hk0i:decide ((0:Int) < (k:Int))=true:=aT (by omega);have hk0n:decide (0 < k)=true:=aT hk0;have HFC:=aH (HFD.o x wr HM.o);have HBDX:=aH (zL (fun m:Md=>m.nm.toList == x.toList) 0 ML);have HZ3':=aH (show RES=if cB ML x < 0 then oI ML (q:Int) mod nam (k + 1) (NS.drop (k + 1)) else match ML[(cB ML x).toNat]? with | none=>(0,0,false) | some m=>if 0<=eU m nam then (cB ML x,eU m nam,true) else oI ML (q:Int) mod nam (k + 1) (NS.drop (k + 1)) from by rw [HZ2.o,if_pos hk0])
        have hbd:cB ML x=-1\/(0<=cB ML x/\cB ML x < n):=by
         rcases HBDX.o with h5 | h5
         · exact .inl h5
         · have h6:(0:Int)<=cB ML x:=h5.1;have h7:cB ML x < ((0:Nat):Int) + ML.length:=h5.2;exact .inr ⟨h6,by have:=HN.o;omega⟩
        obtain ⟨kq,hkq⟩:∃ z,cB ML x=z:=⟨_,rfl⟩;rw [hkq] at HFC HZ3' hbd;rw [hmoE.o] at HFC;clear hkq HBDX HZ2;go_wp2_with fail;refine HFC.o.mono ?_;rintro e wq ⟨rfl,rfl⟩;by_cases hq0:kq < 0
        ·
         have hq0':decide (kq < 0)=true:=aT hq0;have HE:=aH (HZ3'.o.trans (if_pos hq0));go_wp2
         go_roundw
         case rel=>exact ⟨k + 1,by go_num,by omega,HE,HM,HI,HB⟩
         case measure=>simp [intOf];omega
        ·
         have hq0':decide (kq < 0)=false:=aF hq0;obtain ⟨jj,rfl⟩:∃ j:Nat,kq=(j:Int):=⟨kq.toNat,by omega⟩;have HZ3:=HZ3';obtain ⟨mj,hmj⟩:∃ m,ML[jj]?=some m:=⟨_,aG (by have:=HN.o;omega)⟩;obtain ⟨nn2,hMr⟩:=HM.o;obtain ⟨b5,off5,io5,ic5,ko5,kc5,ro5,rc5,hmo5,hb5,_,g0,g1,g2,g3,g4,g5,g6,g7,g8,g9,gA,-,-,hru⟩:=hMr jj mj hmj;have HRC:=aH (fun W (hW:Below wr.heap.size wr W)=>Ae mj D nn2 io5 ic5 ko5 kc5 ro5 rc5 nam ((HFW.o.2 mj (aM hmj)).2) W (hru.but (But.of_below (S:=fun _=>False) hW) (fun _ h=>h.elim)));have hee:b=b5/\off=off5:=(by have h9:=hmo5;rw [hmoE.o] at h9;injection h9 with h9;injection h9 with h9 h10;exact ⟨h9,h10⟩);obtain ⟨rfl,rfl⟩:=hee;have HZ1:=aH (show RES=if 0<=eU mj nam then ((jj:Int),eU mj nam,true) else oI ML (q:Int) mod nam (k + 1) (NS.drop (k + 1)) from by rw [HZ3.o,if_neg (by omega),Int.toNat_natCast,hmj]);have hjn:(jj:Int) < n:=(by have:=(aS.1 hmj).1;have:=HN.o;omega);clear hMr hru hmj hmo5;go_wp2_with fail;refine (HRC.o _ (Below.refl _ _)).mono ?_;rintro e w3 ⟨rfl,hb3⟩;have HB3:=aH (HB.o.trans (hb3.mono HB.o.size));have HM3:=aH (HM.o.below hb3);have HI3:=aH (HI.o.below hb3);obtain ⟨qq,hq⟩:∃ q,eU mj nam=q:=⟨_,rfl⟩;rw [hq] at HZ1;rw [hq];clear hb3 hq;by_cases h0q:0<=qq
         ·
          have h0q':decide (0<=qq)=true:=aT h0q;have HE:=aH (HZ1.o.trans (if_pos h0q));go_wp2
          go_ret3
          exact ⟨by rw [HE.o];rfl,HB3.o⟩
         ·
          have h0q':decide (0<=qq)=false:=aF h0q;have HE:=aH (HZ1.o.trans (if_neg h0q));go_wp2
          go_roundw
          case rel=>exact ⟨k + 1,by go_num,by omega,HE,HM3,HI3,HB3⟩
          case measure=>simp [intOf];omega
       ·
        have hk0i:decide ((0:Int) < (k:Int))=false:=aF (by omega);have hk0n:decide (0 < k)=false:=aF hk0;have hq0':decide ((q:Int) < 0)=false:=aF (by omega);have HZ3:=aH (show RES=if (q:Int) < 0 then oI ML (q:Int) mod nam (k + 1) (NS.drop (k + 1)) else match ML[((q:Int)).toNat]? with | none=>(0,0,false) | some m=>if 0<=eU m nam then ((q:Int),eU m nam,true) else oI ML (q:Int) mod nam (k + 1) (NS.drop (k + 1)) from by rw [HZ2.o,if_neg hk0])
        obtain ⟨mj,hmj⟩:∃ m,ML[q]?=some m:=⟨_,aG (by have:=HN.o;omega)⟩;obtain ⟨nn2,hMr⟩:=HM.o;obtain ⟨b5,off5,io5,ic5,ko5,kc5,ro5,rc5,hmo5,hb5,_,g0,g1,g2,g3,g4,g5,g6,g7,g8,g9,gA,-,-,hru⟩:=hMr q mj hmj;have HRC:=aH (fun W (hW:Below wr.heap.size wr W)=>Ae mj D nn2 io5 ic5 ko5 kc5 ro5 rc5 nam ((HFW.o.2 mj (aM hmj)).2) W (hru.but (But.of_below (S:=fun _=>False) hW) (fun _ h=>h.elim)));have hee:b=b5/\off=off5:=(by have h9:=hmo5;rw [hmoE.o] at h9;injection h9 with h9;injection h9 with h9 h10;exact ⟨h9,h10⟩);obtain ⟨rfl,rfl⟩:=hee;have HZ1:=aH (show RES=if 0<=eU mj nam then ((q:Int),eU mj nam,true) else oI ML (q:Int) mod nam (k + 1) (NS.drop (k + 1)) from by rw [HZ3.o,if_neg (by omega),Int.toNat_natCast,hmj]);have hjn:(q:Int) < n:=(by have:=(aS.1 hmj).1;have:=HN.o;omega);clear hMr hru hmj hmo5;go_wp2_with fail;refine (HRC.o _ (Below.refl _ _)).mono ?_;rintro e w3 ⟨rfl,hb3⟩;have HB3:=aH (HB.o.trans (hb3.mono HB.o.size));have HM3:=aH (HM.o.below hb3);have HI3:=aH (HI.o.below hb3);obtain ⟨qq,hq⟩:∃ q,eU mj nam=q:=⟨_,rfl⟩;rw [hq] at HZ1;rw [hq];clear hb3 hq;by_cases h0q:0<=qq
        ·
         have h0q':decide (0<=qq)=true:=aT h0q;have HE:=aH (HZ1.o.trans (if_pos h0q));go_wp2
         go_ret3
         exact ⟨by rw [HE.o];rfl,HB3.o⟩
        ·
         have h0q':decide (0<=qq)=false:=aF h0q;have HE:=aH (HZ1.o.trans (if_neg h0q));go_wp2
         go_roundw
         case rel=>exact ⟨k + 1,by go_num,by omega,HE,HM3,HI3,HB3⟩
         case measure=>simp [intOf];omega
      | false =>
       cases zb with
       | true =>
        have HZ2:=aH (HZ.o.trans (if_neg (by rw [HOB.o];simp)));clear HZ;by_cases hk0:0 < k
        ·
         have hk0i:decide ((0:Int) < (k:Int))=true:=aT (by omega);have hk0n:decide (0 < k)=true:=aT hk0;have HFC:=aH (HFD.o x wr HM.o);have HBDX:=aH (zL (fun m:Md=>m.nm.toList == x.toList) 0 ML);have HZ3':=aH (show RES=if cB ML x < 0 then oI ML (q:Int) mod nam (k + 1) (NS.drop (k + 1)) else match ML[(cB ML x).toNat]? with | none=>(0,0,false) | some m=>if 0<=eU m nam then (cB ML x,eU m nam,true) else oI ML (q:Int) mod nam (k + 1) (NS.drop (k + 1)) from by rw [HZ2.o,if_pos hk0])
         have hbd:cB ML x=-1\/(0<=cB ML x/\cB ML x < n):=by
          rcases HBDX.o with h5 | h5
          · exact .inl h5
          · have h6:(0:Int)<=cB ML x:=h5.1;have h7:cB ML x < ((0:Nat):Int) + ML.length:=h5.2;exact .inr ⟨h6,by have:=HN.o;omega⟩
         obtain ⟨kq,hkq⟩:∃ z,cB ML x=z:=⟨_,rfl⟩;rw [hkq] at HFC HZ3' hbd;rw [hmoE.o] at HFC;clear hkq HBDX HZ2;go_wp2_with fail;refine HFC.o.mono ?_;rintro e wq ⟨rfl,rfl⟩;by_cases hq0:kq < 0
         ·
          have hq0':decide (kq < 0)=true:=aT hq0;have HE:=aH (HZ3'.o.trans (if_pos hq0));go_wp2
          go_roundw
          case rel=>exact ⟨k + 1,by go_num,by omega,HE,HM,HI,HB⟩
          case measure=>simp [intOf];omega
         ·
          have hq0':decide (kq < 0)=false:=aF hq0;obtain ⟨jj,rfl⟩:∃ j:Nat,kq=(j:Int):=⟨kq.toNat,by omega⟩;have HZ3:=HZ3';obtain ⟨mj,hmj⟩:∃ m,ML[jj]?=some m:=⟨_,aG (by have:=HN.o;omega)⟩;obtain ⟨nn2,hMr⟩:=HM.o;obtain ⟨b5,off5,io5,ic5,ko5,kc5,ro5,rc5,hmo5,hb5,_,g0,g1,g2,g3,g4,g5,g6,g7,g8,g9,gA,-,-,hru⟩:=hMr jj mj hmj;have HRC:=aH (fun W (hW:Below wr.heap.size wr W)=>Ae mj D nn2 io5 ic5 ko5 kc5 ro5 rc5 nam ((HFW.o.2 mj (aM hmj)).2) W (hru.but (But.of_below (S:=fun _=>False) hW) (fun _ h=>h.elim)));have hee:b=b5/\off=off5:=(by have h9:=hmo5;rw [hmoE.o] at h9;injection h9 with h9;injection h9 with h9 h10;exact ⟨h9,h10⟩);obtain ⟨rfl,rfl⟩:=hee;have HZ1:=aH (show RES=if 0<=eU mj nam then ((jj:Int),eU mj nam,true) else oI ML (q:Int) mod nam (k + 1) (NS.drop (k + 1)) from by rw [HZ3.o,if_neg (by omega),Int.toNat_natCast,hmj]);have hjn:(jj:Int) < n:=(by have:=(aS.1 hmj).1;have:=HN.o;omega);clear hMr hru hmj hmo5;go_wp2_with fail;refine (HRC.o _ (Below.refl _ _)).mono ?_;rintro e w3 ⟨rfl,hb3⟩;have HB3:=aH (HB.o.trans (hb3.mono HB.o.size));have HM3:=aH (HM.o.below hb3);have HI3:=aH (HI.o.below hb3);obtain ⟨qq,hq⟩:∃ q,eU mj nam=q:=⟨_,rfl⟩;rw [hq] at HZ1;rw [hq];clear hb3 hq;by_cases h0q:0<=qq
          ·
           have h0q':decide (0<=qq)=true:=aT h0q;have HE:=aH (HZ1.o.trans (if_pos h0q));go_wp2
           go_ret3
           exact ⟨by rw [HE.o];rfl,HB3.o⟩
          ·
           have h0q':decide (0<=qq)=false:=aF h0q;have HE:=aH (HZ1.o.trans (if_neg h0q));go_wp2
           go_roundw
           case rel=>exact ⟨k + 1,by go_num,by omega,HE,HM3,HI3,HB3⟩
           case measure=>simp [intOf];omega
        ·
         have hk0i:decide ((0:Int) < (k:Int))=false:=aF (by omega);have hk0n:decide (0 < k)=false:=aF hk0;have hq0':decide ((q:Int) < 0)=false:=aF (by omega);have HZ3:=aH (show RES=if (q:Int) < 0 then oI ML (q:Int) mod nam (k + 1) (NS.drop (k + 1)) else match ML[((q:Int)).toNat]? with | none=>(0,0,false) | some m=>if 0<=eU m nam then ((q:Int),eU m nam,true) else oI ML (q:Int) mod nam (k + 1) (NS.drop (k + 1)) from by rw [HZ2.o,if_neg hk0])
         obtain ⟨mj,hmj⟩:∃ m,ML[q]?=some m:=⟨_,aG (by have:=HN.o;omega)⟩;obtain ⟨nn2,hMr⟩:=HM.o;obtain ⟨b5,off5,io5,ic5,ko5,kc5,ro5,rc5,hmo5,hb5,_,g0,g1,g2,g3,g4,g5,g6,g7,g8,g9,gA,-,-,hru⟩:=hMr q mj hmj;have HRC:=aH (fun W (hW:Below wr.heap.size wr W)=>Ae mj D nn2 io5 ic5 ko5 kc5 ro5 rc5 nam ((HFW.o.2 mj (aM hmj)).2) W (hru.but (But.of_below (S:=fun _=>False) hW) (fun _ h=>h.elim)));have hee:b=b5/\off=off5:=(by have h9:=hmo5;rw [hmoE.o] at h9;injection h9 with h9;injection h9 with h9 h10;exact ⟨h9,h10⟩);obtain ⟨rfl,rfl⟩:=hee;have HZ1:=aH (show RES=if 0<=eU mj nam then ((q:Int),eU mj nam,true) else oI ML (q:Int) mod nam (k + 1) (NS.drop (k + 1)) from by rw [HZ3.o,if_neg (by omega),Int.toNat_natCast,hmj]);have hjn:(q:Int) < n:=(by have:=(aS.1 hmj).1;have:=HN.o;omega);clear hMr hru hmj hmo5;go_wp2_with fail;refine (HRC.o _ (Below.refl _ _)).mono ?_;rintro e w3 ⟨rfl,hb3⟩;have HB3:=aH (HB.o.trans (hb3.mono HB.o.size));have HM3:=aH (HM.o.below hb3);have HI3:=aH (HI.o.below hb3);obtain ⟨qq,hq⟩:∃ q,eU mj nam=q:=⟨_,rfl⟩;rw [hq] at HZ1;rw [hq];clear hb3 hq;by_cases h0q:0<=qq
         ·
          have h0q':decide (0<=qq)=true:=aT h0q;have HE:=aH (HZ1.o.trans (if_pos h0q));go_wp2
          go_ret3
          exact ⟨by rw [HE.o];rfl,HB3.o⟩
         ·
          have h0q':decide (0<=qq)=false:=aF h0q;have HE:=aH (HZ1.o.trans (if_neg h0q));go_wp2
          go_roundw
          case rel=>exact ⟨k + 1,by go_num,by omega,HE,HM3,HI3,HB3⟩
          case measure=>simp [intOf];omega
       | false =>
        have HE:=aH (HZ.o.trans (if_pos (by rw [HOB.o];rfl)));go_wp2
        go_roundw
        case rel=>exact ⟨k + 1,by go_num,by omega,HE,HM,HI,HB⟩
        case measure=>simp [intOf];omega
     ·
      have HE:=aH (show RES=(0,0,false) from by rw [HQ.o,List.drop_eq_nil_of_le (by have:=HNL.o;omega)];rfl);have hlt':decide ((k:Int) < 1 + (ni:Int))=false:=aF hlt;go_wp2
      go_ret3
      exact ⟨by rw [HE.o];rfl,HB.o⟩
theorem A0N {L:List Tok} {nm:ByteArray}:∀ (f:Nat) (im:List ByteArray) (k:Nat) (im':List ByteArray) (k':Nat),im.length<=4->yD L nm f im k=.ok (im',k')->im'.length<=4
 | 0,im,k,im',k',h,e=>by unfold yD at e;injection e with e;injection e with e1 e2;subst e1;exact h
 | f + 1,im,k,im',k',h,e=>by
  unfold yD at e;split at e
  ·
   split at e
   · cases e
   ·
    rename_i h4
    cases hq:pV L (nm :: im) (k + 1) with
    | error x=>simp [hq] at e
    | ok p =>
     obtain ⟨x,k1⟩:=p;simp only [hq] at e
     cases hs:oO L [59] k1 with
     | error x=>simp [hs] at e
     | ok k2 =>
      simp only [hs] at e;exact A0N f _ k2 im' k' (by rw [List.length_append];show im.length + 1<=4;omega) e
  · injection e with e;injection e with e1 e2;subst e1;exact h
theorem A1y {L:List Tok}:∀ (f:Nat) (R:List (ByteArray × Ex)) (k:Nat) (R':List (ByteArray × Ex)),R.length<=24->uE L f R k=.ok R'->R'.length<=24
 | 0,R,k,R',h,e=>by unfold uE at e;injection e with e;subst e;exact h
 | f + 1,R,k,R',h,e=>by
  unfold uE at e;split at e
  · injection e with e;subst e;exact h
  ·
   cases hq:pV L (R.map (·.1)) k with
   | error x=>simp [hq] at e
   | ok p =>
    obtain ⟨x,k1⟩:=p;simp only [hq] at e;split at e
    · cases e
    ·
     rename_i h24
     cases hb:uW L k1 with
     | error x=>simp [hb] at e
     | ok p =>
      obtain ⟨y,k2⟩:=p;simp only [hb] at e;exact A1y f _ k2 R' (by rw [List.length_append];show R.length + 1<=24;omega) e
theorem B0I {L:List Tok} {m:Md} {k:Nat} (h:Oz L=.ok (m,k)):m.im.length<=4:=by
 rw [VF] at h;split at h
 ·
  unfold AP at h;split at h
  · cases h
  ·
   rename_i x k1 hx;split at h
   · cases h
   ·
    rename_i k2 _;have h:hdT L x (yD L x (L.length + 1) [] k2)=.ok (m,k):=h
    cases hi:yD L x (L.length + 1) [] k2 with
    | error e=>rw [hi] at h;cases h
    | ok p =>
     obtain ⟨im,k3⟩:=p;rw [hi] at h;have hl:=A0N _ _ _ _ _ (by simp) hi;have h:BG L x im k3=.ok (m,k):=h;rw [XV] at h;split at h
     ·
      cases hb:uW L (k3 + 1) with
      | error e=>rw [hb] at h;cases h
      | ok p =>
       obtain ⟨y,k4⟩:=p;rw [hb] at h;injection h with h;injection h with h1 h2;subst h1;exact hl
     · injection h with h;injection h with h1 h2;subst h1;exact hl
 · cases h
theorem B1c {s:ByteArray} {m:Md} (h:yU s=.ok m):m.im.length<=4/\m.ru.length<=24:=by
 unfold yU at h;split at h
 · cases h
 ·
  rename_i L _;rw [IZ] at h
  cases hh:Oz L with
  | error e=>rw [hh] at h;cases h
  | ok p =>
   obtain ⟨m0,k⟩:=p;rw [hh] at h;have h:mdT m0 (uE L (L.length + 1) [] k)=.ok m:=h
   cases hr:uE L (L.length + 1) [] k with
   | error e=>rw [hr] at h;cases h
   | ok R =>
    rw [hr] at h;injection h with h;subst h;have h1:=B0I hh;have h2:=A1y _ _ _ _ (by simp) hr;exact ⟨h1,h2⟩
theorem KD {big:Bool}:∀ {l:List ByteArray} {ML:List Md},iI big l=some ML->ML.length=l.length/\(big=true->l=[])/\∀ m ∈ ML,m.im.length<=4/\m.ru.length<=24
 | [],ML,h=>by unfold iI at h;injection h with h;subst h;exact ⟨rfl,fun _=>rfl,fun m hm=>absurd hm List.not_mem_nil⟩
 | t :: r,ML,h=>by
  unfold iI at h;split at h
  · cases h
  ·
   rename_i hb
   cases hm:yU t with
   | error e=>simp [hm] at h
   | ok m =>
    simp only [hm] at h
    cases hr:iI big r with
    | none=>simp [hr] at h
    | some MR =>
     simp [hr] at h;subst h;obtain ⟨h1,h2,h3⟩:=KD hr;refine ⟨by simp [h1],fun hbig=>by simp [hbig] at hb,fun y hy=>?_⟩;rcases List.mem_cons.1 hy with rfl | hy
     · exact B1c hm
     · exact h3 y hy
theorem qW {l:List ByteArray} {ML:List Md} (h:mX l=some ML):Few ML/\ML.length<=5:=by
 obtain ⟨h1,h2,h3⟩:=KD h;have h5:ML.length<=5:=by
  by_cases hb:5 < l.length
  · have:=h2 (aT hb);rw [this] at hb;simp at hb
  · omega
 exact ⟨⟨by omega,fun m hm=>by have:=h3 m hm;omega⟩,h5⟩
def fV:List ByteArray:=[⟨#[109,111,100,117,108,101,32,109,59,10,105,109,112,111,114,116,32,110,59,10,119,97,116,101,114,32,61,32,34,35,34,32,40,33,34,35,34,32,46,41,42,32,34,35,34,59,10,109,97,105,110,32,61,32,40,126,99,97,108,108,126,41,42,59,10,99,97,108,108,32,61,32,110,97,109,101,58,110,58,58,105,100,32,34,40,34,32,40,33,34,41,34,32,46,41,42,32,34,41,34,59,10]⟩,⟨#[109,111,100,117,108,101,32,110,59,10,105,100,32,61,32,91,97,45,122,93,43,59,10]⟩]
def lG:List Md:=(mX fV).getD []
theorem A5k:mX fV=some lG:=by kernel_rfl
theorem vI:lG.length=2:=by kernel_rfl
def lT:Md:=lG.getD 0 md0
theorem Nf {L:List Tok} {no:List ByteArray} {k:Nat} {x:ByteArray} {k1:Nat} (h:pV L no k=.ok (x,k1)):bN x=true:=by
 unfold pV at h;split at h
 ·
  rename_i hc;split at h
  · cases h
  · injection h with h;injection h with h1 h2;subst h1;rw [Bool.and_eq_true] at hc;exact hc.2
 · cases h
theorem Yx {L:List Tok}:∀ (f:Nat) (R:List (ByteArray × Ex)) (k:Nat) (R':List (ByteArray × Ex)),(∀ r ∈ R,bN r.1=true)->uE L f R k=.ok R'->∀ r ∈ R',bN r.1=true
 | 0,R,k,R',h,e=>by unfold uE at e;injection e with e;subst e;exact h
 | f + 1,R,k,R',h,e=>by
  unfold uE at e;split at e
  · injection e with e;subst e;exact h
  ·
   cases hq:pV L (R.map (·.1)) k with
   | error x=>simp [hq] at e
   | ok p =>
    obtain ⟨x,k1⟩:=p;simp only [hq] at e;split at e
    · cases e
    ·
     cases hb:uW L k1 with
     | error x=>simp [hb] at e
     | ok p =>
      obtain ⟨y,k2⟩:=p;simp only [hb] at e;refine Yx f _ k2 R' (fun r hr=>?_) e;rcases List.mem_append.1 hr with hr | hr
      · exact h r hr
      · rw [List.mem_singleton] at hr;subst hr;exact Nf hq
def xM (l:List Md) (k:Int) (s:ByteArray):Int:=match l[k.toNat]? with
 | none=>-1
 | some m=>eU m s
theorem rW {l:List Md} {k:Int} {m:Md} (s:ByteArray) (h:l[k.toNat]?=some m):xM l k s=eU m s:=by unfold xM;rw [h]
def Okx (x:Ex):Prop:=TxA 100000 x/\fit 90001 53 x=true
theorem Okx.zero:Okx ex0:=⟨TxA.leaf (Nat.zero_le _),Em (n:=52)⟩
theorem MK {s:ByteArray} {p m:Nat} {t:Tok} (h:tkO s p=some (t,m)):fits t.st:=by
 unfold tkO at h;split at h
 ·
  split at h
  · injection h with h;injection h with h3 h4;subst h3;exact nD
  · cases h
 split at h
 ·
  cases hq:txtO s (p:Int) with
  | none=>rw [hq] at h;cases h
  | some q =>
   obtain ⟨u,n⟩:=q;rw [hq] at h;injection h with h;injection h with h3 h4;subst h3;exact nD
 split at h
 ·
  cases hq:clsO s (p:Int) with
  | none=>rw [hq] at h;cases h
  | some q =>
   obtain ⟨u,n⟩:=q;rw [hq] at h;injection h with h;injection h with h3 h4;subst h3;exact (Eb hq).2.2.2.1
 split at h
 · cases h
 · injection h with h;injection h with h3 h4;subst h3;exact nD
theorem Dw {s:ByteArray}:∀ (f k:Nat) (L:List Tok),allF s f k=.ok L->∀ t ∈ L,fits t.st
 | 0,k,L,h=>by cases h
 | f + 1,k,L,h=>by
  have one:∀ t m,nextO s k=some (t,m)->fits t.st:=fun t m hq=>by
   unfold nextO at hq;split at hq
   · injection hq with hq;injection hq with h3 h4;subst h3;exact nD
   · exact MK hq
  unfold allF at h;split at h
  · cases h
  ·
   rename_i t m hq;split at h
   · injection h with h;intro u hu;rw [<- h,List.mem_singleton] at hu;subst hu;exact one u m hq
   ·
    cases hq2:allF s f m with
    | error e=>simp [hq2] at h
    | ok M =>
     simp only [hq2] at h;injection h with h;intro u hu;rw [<- h,List.mem_cons] at hu;rcases hu with rfl | hu
     · exact one u m hq
     · exact Dw f m M hq2 u hu
structure Wel (m:Md):Prop where
 nm:bN m.nm=true
 im:∀ x ∈ m.im,bN x=true
 ru:∀ r ∈ m.ru,bN r.1=true
 wa:Okx m.wa
 bo:∀ r ∈ m.ru,Okx r.2
 dry:m.wet=false->m.wa=ex0
theorem YM {L:List Tok} (hL:∀ t ∈ L,Tk 100000 t) (hn:L.length<=90000) {k k2:Nat} {x:Ex} (h:uW L k=.ok (x,k2)):Okx x:=by
 unfold uW at h
 cases h1:oO L [61] k with
 | error e=>simp [h1] at h
 | ok k1 =>
  simp only [h1] at h
  cases h2:rdO L k1 with
  | error e=>simp [h2] at h
  | ok p =>
   obtain ⟨y,m⟩:=p;simp only [h2] at h
   cases h3:oO L [59] m with
   | error e=>simp [h3] at h
   | ok m' =>
    simp only [h3] at h;obtain ⟨rfl,rfl⟩:y=x/\m'=k2:=(by simpa using h);exact B8e (by omega) hL hn k1 _ _ h2
theorem PT {L:List Tok} {nm:ByteArray}:∀ (f:Nat) (im:List ByteArray) (k:Nat) (im':List ByteArray) (k':Nat),(∀ x ∈ im,bN x=true)->yD L nm f im k=.ok (im',k')->∀ x ∈ im',bN x=true
 | 0,im,k,im',k',h,e=>by unfold yD at e;injection e with e;injection e with e1 e2;subst e1;exact h
 | f + 1,im,k,im',k',h,e=>by
  unfold yD at e;split at e
  ·
   split at e
   · cases e
   ·
    cases hq:pV L (nm :: im) (k + 1) with
    | error x=>simp [hq] at e
    | ok p =>
     obtain ⟨x,k1⟩:=p;simp only [hq] at e
     cases hs:oO L [59] k1 with
     | error x=>simp [hs] at e
     | ok k2 =>
      simp only [hs] at e;refine PT f _ k2 im' k' (fun y hy=>?_) e;rw [List.mem_append,List.mem_singleton] at hy;rcases hy with hy | rfl
      · exact h y hy
      · exact Nf hq
  · injection e with e;injection e with e1 e2;subst e1;exact h
theorem A1z {L:List Tok} (hL:∀ t ∈ L,Tk 100000 t) (hn:L.length<=90000):∀ (f:Nat) (R:List (ByteArray × Ex)) (k:Nat) (R':List (ByteArray × Ex)),(∀ r ∈ R,Okx r.2)->uE L f R k=.ok R'->∀ r ∈ R',Okx r.2
 | 0,R,k,R',h,e=>by unfold uE at e;injection e with e;subst e;exact h
 | f + 1,R,k,R',h,e=>by
  unfold uE at e;split at e
  · injection e with e;subst e;exact h
  ·
   cases hq:pV L (R.map (·.1)) k with
   | error x=>simp [hq] at e
   | ok p =>
    obtain ⟨x,k1⟩:=p;simp only [hq] at e;split at e
    · cases e
    ·
     cases hb:uW L k1 with
     | error x=>simp [hb] at e
     | ok p =>
      obtain ⟨y,k2⟩:=p;simp only [hb] at e;refine A1z hL hn f _ k2 R' (fun r hr=>?_) e;rcases List.mem_append.1 hr with hr | hr
      · exact h r hr
      · rw [List.mem_singleton] at hr;subst hr;exact YM hL hn hb
theorem B0J {L:List Tok} (hL:∀ t ∈ L,Tk 100000 t) (hn:L.length<=90000) {m:Md} {k:Nat} (h:Oz L=.ok (m,k)):Wel m:=by
 rw [VF] at h;split at h
 ·
  unfold AP at h;split at h
  · cases h
  ·
   rename_i x k1 hx;have hw:=Nf hx;split at h
   · cases h
   ·
    rename_i k2 _;have h:hdT L x (yD L x (L.length + 1) [] k2)=.ok (m,k):=h
    cases hi:yD L x (L.length + 1) [] k2 with
    | error e=>rw [hi] at h;cases h
    | ok p =>
     obtain ⟨im,k3⟩:=p;rw [hi] at h;have hl:=PT _ _ _ _ _ (fun x hx=>absurd hx List.not_mem_nil) hi;have h:BG L x im k3=.ok (m,k):=h;rw [XV] at h;split at h
     ·
      cases hb:uW L (k3 + 1) with
      | error e=>rw [hb] at h;cases h
      | ok p =>
       obtain ⟨y,k4⟩:=p;rw [hb] at h;injection h with h;injection h with h1 h2;subst h1;exact ⟨hw,hl,fun r hr=>absurd hr List.not_mem_nil,YM hL hn hb,fun r hr=>absurd hr List.not_mem_nil,fun h=>by cases h⟩
     · injection h with h;injection h with h1 h2;subst h1;exact ⟨hw,hl,fun r hr=>absurd hr List.not_mem_nil,Okx.zero,fun r hr=>absurd hr List.not_mem_nil,fun _=>rfl⟩
 · cases h
theorem B1d {s:ByteArray} (hs:s.size<=1000) {m:Md} (h:yU s=.ok m):Wel m:=by
 have h0:=h;unfold yU at h;split at h
 · cases h
 ·
  rename_i L hL0;have hL:∀ t ∈ L,Tk 100000 t:=fun t ht=>⟨by have:=rH _ _ _ (Nat.zero_le _) hL0 t ht;omega,Dw _ _ _ hL0 t ht⟩;have hn:L.length<=90000:=by have:=oV _ _ _ hL0;omega
  rw [IZ] at h
  cases hh:Oz L with
  | error e=>rw [hh] at h;cases h
  | ok p =>
   obtain ⟨m0,k⟩:=p;rw [hh] at h;have h:mdT m0 (uE L (L.length + 1) [] k)=.ok m:=h
   cases hr:uE L (L.length + 1) [] k with
   | error e=>rw [hr] at h;cases h
   | ok R =>
    rw [hr] at h;injection h with h;subst h;have h1:=B0J hL hn hh;exact ⟨h1.nm,h1.im,Yx _ _ _ _ (fun r hr=>absurd hr List.not_mem_nil) hr,h1.wa,A1z hL hn _ _ _ _ (fun r hr=>absurd hr List.not_mem_nil) hr,h1.dry⟩
theorem A1O {big:Bool}:∀ {l:List ByteArray} {ML:List Md},iI big l=some ML->∀ m ∈ ML,Wel m
 | [],ML,h=>by unfold iI at h;injection h with h;subst h;exact fun m hm=>absurd hm List.not_mem_nil
 | t :: r,ML,h=>by
  unfold iI at h;split at h
  · cases h
  ·
   rename_i hb;have hs:t.size<=1000:=by simp only [Bool.or_eq_true,decide_eq_true_eq,not_or] at hb;omega
   cases hm:yU t with
   | error e=>simp [hm] at h
   | ok m =>
    simp only [hm] at h
    cases hr:iI big r with
    | none=>simp [hr] at h
    | some MR =>
     simp [hr] at h;subst h;intro y hy;rcases List.mem_cons.1 hy with rfl | hy
     · exact B1d hs hm
     · exact A1O hr y hy
theorem Vg {l:List ByteArray} {ML:List Md} (h:mX l=some ML):∀ m ∈ ML,Wel m:=A1O h
end Go.Proofs.YthkdnehgamefiaaGreat
namespace Go.Proofs.YthkdnehgamefiaaGreat
set_option maxRecDepth 1000000
set_option linter.unusedVariables false
open Go.ChangeShapes Go.WideShapes Go.ChangeAt Go.RowKit
section
variable {H:Type} {enc:TypeId × Value->H} {W:World} {base:Nat} {sp:Nat->Bool} {held:Bool} {v:Value} {d:DataW H} {p:List MemPlace}
theorem Bi {t:TypeId} (ht:Tryz.prog.underlying t=some (.int .i64)) (hval:Value.okWide Tryz.prog W .any base t v) (h:DataW.Trod enc Tryz.prog W 0 sp held t v d p) :
  ∃ n:Int,v=.int .i64 n/\-9223372036854775808<=n/\n<=9223372036854775807:=by
 obtain ⟨x,rfl,_,_,wx⟩:=open_int ht hval h;exact ⟨x,rfl,bounds_i64 wx⟩
theorem JK {t:TypeId} (ht:Tryz.prog.underlying t=some (.int .u32)) (hval:Value.okWide Tryz.prog W .any base t v) (h:DataW.Trod enc Tryz.prog W 0 sp held t v d p) :
  ∃ n:Nat,v=.int .u32 (n:Int)/\(n:Int) < 4294967296:=by
 obtain ⟨x,rfl,_,_,wx⟩:=open_int ht hval h;have hb:=bounds_u32 wx;exact ⟨x.toNat,by congr 1;omega,by omega⟩
theorem B1p {t:TypeId} (ht:Tryz.prog.underlying t=some (.int .u16)) (hval:Value.okWide Tryz.prog W .any base t v) (h:DataW.Trod enc Tryz.prog W 0 sp held t v d p) :
  ∃ n:Nat,v=.int .u16 (n:Int)/\(n:Int) < 65536:=by
 obtain ⟨x,rfl,_,_,wx⟩:=open_int ht hval h;have hb:=bounds_u16 wx;exact ⟨x.toNat,by congr 1;omega,by omega⟩
theorem CY {t:TypeId} (ht:Tryz.prog.underlying t=some (.int .u8)) (hval:Value.okWide Tryz.prog W .any base t v) (h:DataW.Trod enc Tryz.prog W 0 sp held t v d p) :
  ∃ n:Nat,v=.int .u8 (n:Int)/\n < 256:=by
 obtain ⟨x,rfl,_,_,wx⟩:=open_int ht hval h;have hb:=bounds_u8 wx;exact ⟨x.toNat,by congr 1;omega,by omega⟩
theorem cO {t:TypeId} (ht:Tryz.prog.underlying t=some .string) (hval:Value.okWide Tryz.prog W .any base t v) (h:DataW.Trod enc Tryz.prog W 0 sp held t v d p) :
  ∃ s:ByteArray,v=.string s/\s.size<=maxLen:=by
 obtain ⟨s,rfl,_,_,hs⟩:=Go.ChangeMaps.open_string ht hval h;exact ⟨s,rfl,hs⟩
end
end Go.Proofs.YthkdnehgamefiaaGreat
namespace Go.Proofs.YthkdnehgamefiaaGreat
set_option maxRecDepth 1000000
set_option linter.unusedVariables false
open Go.ChangeShapes Go.WideShapes Go.ChangeAt Go.RowKit Go.Deep
theorem YT:Tryz.prog.cellsOf 9=1:=by kernel_rfl
theorem B3s {b off:Nat} (i j:Nat):((⟨b,off,none⟩:Addr).add i).add j=⟨b,off + i + j,none⟩:=by rw [Addr.add_lit,Addr.add_lit]
section
variable {H:Type} {enc:TypeId × Value->H} {W:World} {sp:Nat->Bool} {held:Bool}
theorem B0t {α:Type} {n:Nat} {P:Nat->α->Prop} (h:∀ k,k < n->∃ x,P k x):∃ L:List α,L.length=n/\∀ k x,L[k]?=some x->P k x:=by
 induction n with
 | zero=>exact ⟨[],rfl,fun k x h=>by simp at h⟩
 | succ n ih =>
  obtain ⟨L,hl,hL⟩:=ih fun k hk=>h k (by omega);obtain ⟨x,hx⟩:=h n (by omega);refine ⟨L ++ [x],by simp [hl],fun k y hk=>?_⟩;by_cases c:k < n
  · rw [List.getElem?_append_left (by omega)] at hk;exact hL k y hk
  · have hk':k < (L ++ [x]).length:=(aS.1 hk).1;simp at hk';obtain rfl:k=n:=(by omega);rw [List.getElem?_append_right (by omega),hl] at hk;simp at hk;subst hk;exact hx
theorem B6j {f:Nat} (c:Value) (x:DataW H × List MemPlace) (h:DataW.trod enc Tryz.prog W 0 sp held f 22 [c]=some x) :
  ∃ (N:List ByteArray) (ao:Option Addr) (cap:Nat),c=.slice ao N.length cap/\gI W ao N/\N.length<=maxLen:=by
 rcases DataW.trod_slice Tryz.underlying22 h with ⟨hcs,_⟩ | ⟨a,len,cap,elems,rest,n,hn,hcs,_,hb,hl,hm,hlen,hel,_,_⟩
 · simp at hcs;subst hcs;exact ⟨[],none,0,rfl,fun k x h=>by simp at h,Nat.zero_le _⟩
 ·
  simp at hcs;subst hcs hn;have hspot:0 < len->a.spot=none:=fun h0=>by have hk1:=hel 0 h0;rw [aG (by omega)] at hk1;obtain ⟨cs',hc,_⟩:=Option.bind_eq_some_iff.1 hk1;rw [YT] at hc;obtain ⟨_,hcl2,hat⟩:=World.cells?_some hc;have w0:=hat 0 (by omega);rw [aG (by omega)] at w0;have:=World.cell?_spot w0;simpa [Addr.add] using this
  have each:∀ k,k < len->∃ X:ByteArray,∃ g off,some a=some ⟨g,off,none⟩/\g < W.heap.size/\W.cell? ⟨g,off + k,none⟩=some (.string X):=fun k hk=>by
   have hk1:=hel k hk;rw [aG (by omega)] at hk1;obtain ⟨cs',hc,ht⟩:=Option.bind_eq_some_iff.1 hk1;rw [YT] at hc;obtain ⟨_,hcl2,hat⟩:=World.cells?_some hc
   match cs',hcl2 with
   | [c0],_ =>
    obtain ⟨s,hs0,_⟩:=DataW.trod_string Tryz.underlying9 ht;simp at hs0;subst hs0;have w0:=hat 0 (by omega);have hs:a.spot=none:=hspot (by omega);obtain ⟨b,off,spot⟩:=a;obtain rfl:spot=none:=hs;rw [show ((⟨b,off,none⟩:Addr).add (k * 1)).add 0=⟨b,off + k,none⟩ by rw [B3s];simp] at w0;exact ⟨s,b,off,rfl,World.block_lt_of_cell? W _ w0,w0⟩
  obtain ⟨L,hL,hk⟩:=B0t each;exact ⟨L,some a,cap,by rw [hL],fun k X hX=>hk k X hX,by rw [hL];omega⟩
theorem open_strs {base:Nat} {v:Value} {d:DataW H} {p:List MemPlace} (hval:Value.okWide Tryz.prog W .any base 22 v) (h:DataW.Trod enc Tryz.prog W 0 sp held 22 v d p) :
  ∃ (N:List ByteArray) (ao:Option Addr) (cap:Nat),v=.slice ao N.length cap/\gI W ao N/\N.length<=maxLen:=by
 obtain ⟨a0,len0,cap0,rfl⟩:=okWide_slice Tryz.underlying22 hval;obtain ⟨fuel,hf⟩:=h;exact B6j _ _ (by simpa [Value.cells] using hf)
end
end Go.Proofs.YthkdnehgamefiaaGreat
