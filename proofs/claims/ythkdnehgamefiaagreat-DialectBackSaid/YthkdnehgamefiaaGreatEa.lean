import Derived.Test.YthkdnehgamefiaaGreatWrtR
import Derived.Test.YthkdnehgamefiaaGreatExR
import Derived.Test.YthkdnehgamefiaaGreatEd
import Derived.Test.YthkdnehgamefiaaGreatHtz
namespace Go.Proofs.YthkdnehgamefiaaGreat
set_option linter.unusedVariables false
set_option maxHeartbeats 6400000
set_option maxRecDepth 1000000
set_option maxRecDepth 1000000
open Go.RowKit Go.Sort
theorem Ja {f:Ex->Bool} {K:List Ex} {k:Nat} {y:Ex} (h:K[k]?=some y):(K.take (k + 1)).any f=((K.take k).any f || f y):=by have hk:=(aS.1 h).1;have e:K[k]=y:=(aS.1 h).2;rw [List.take_succ_eq_append_getElem hk,List.any_append,e];simp
theorem Sb {f:Ex->Bool} {K:List Ex} {k:Nat} {y:Ex} (h:K[k]?=some y) (hf:f y=true):K.any f=true:=List.any_eq_true.2 ⟨y,aM h,hf⟩
theorem aV.kid {w:World} {m:Nat} {ao:Option Addr} {K:List Ex} {k:Nat} {y:Ex} (h:aV w m ao K) (hy:K[k]?=some y):∃ j g off ko kc,m=j + 1/\ao=some ⟨g,off,none⟩/\g < w.heap.size ∧
   w.cell? ⟨g,off + k * 7,none⟩=some (.int .i64 y.op)/\w.cell? ⟨g,off + k * 7 + 1,none⟩=some (.string y.text) ∧
   w.cell? ⟨g,off + k * 7 + 2,none⟩=some (.int .u64 y.s0)/\w.cell? ⟨g,off + k * 7 + 3,none⟩=some (.int .u64 y.s1) ∧
   w.cell? ⟨g,off + k * 7 + 4,none⟩=some (.int .u64 y.s2)/\w.cell? ⟨g,off + k * 7 + 5,none⟩=some (.int .u64 y.s3) ∧
   w.cell? ⟨g,off + k * 7 + 6,none⟩=some (.slice ko y.kids.length kc)/\aV w j ko y.kids:=by
 cases m with
 | zero =>
  have h0:K=[]:=h;subst h0;simp at hy
 | succ j =>
  obtain ⟨g,off,ko,kc,r⟩:=h k y hy;exact ⟨j,g,off,ko,kc,rfl,r⟩
theorem kH:∀ (n:Nat) (d:Int) (hd:d + n=17/\0<=d) (m:Nat) (x:Ex) (ko:Option Addr) (kc:Nat) (w:World),aV w m ko x.kids →
  Calls Tryz.prog 31 #[exv x ko kc,.int .i64 d] w fun e w'=>e=.returned (.bool (grt n x))/\Below w.heap.size w w'
 | 0,d,hd,m,x,ko,kc,w,hK=>by
  obtain rfl:d=17:=by omega
  unfold exv;go_enter Tryz.func31,Tryz.ntmps31;go_wp2;go_ret;exact ⟨rfl,dN _ _⟩
 | n + 1,d,hd,m,.mk o t a b c e0 K,ko,kc,w,hK=>by
  have IH:=aH (fun (d:Int) (hd:d + n=17/\0<=d) (m:Nat) (y:Ex) (ao:Option Addr) (c:Nat) (W:World)=>kH n d hd m y ao c W);have HK:=aH hK;have hd0:0<=d:=hd.2;unfold exv;simp only [Ex.kids,Ex.op,Ex.text,Ex.s0,Ex.s1,Ex.s2,Ex.s3] at HK ⊢;clear hK;obtain ⟨q,hq⟩:∃ q,K.length=q:=⟨_,rfl⟩;have HQ:=aH hq;have HS:=aH (show grt (n + 1) (.mk o t a b c e0 K)=(decide (8 < q) || decide (60 < t.size) || K.any (grt n)) from by rw [<- hq];rfl);rw [hq];clear hq;have HB0:=aH (dN w (.cells #[.int .i64 o,.string t,.int .u64 a,.int .u64 b,.int .u64 c,.int .u64 e0,.slice ko q kc] 32));have HP:=aH (Own.fresh w 32 [.int .i64 o,.string t,.int .u64 a,.int .u64 b,.int .u64 c,.int .u64 e0,.slice ko q kc]);have hd2:d<=16:=by omega
  by_cases h1:8 < q
  · have HE:=aH (show grt (n + 1) (.mk o t a b c e0 K)=true by rw [HS.o,aT h1];rfl);clear HS;go_enter Tryz.func31,Tryz.ntmps31;go_wp2;go_ret;exact ⟨aJ HE.o.symm,HB0.o⟩
  ·
   by_cases h2:60 < t.size
   · have HE:=aH (show grt (n + 1) (.mk o t a b c e0 K)=true by rw [HS.o,aT h2];simp);clear HS;go_enter Tryz.func31,Tryz.ntmps31;go_wp2;go_ret;exact ⟨aJ HE.o.symm,HB0.o⟩
   ·
    have HS2:=aH (show grt (n + 1) (.mk o t a b c e0 K)=K.any (grt n) by rw [HS.o,aF h1,aF h2];rfl);clear HS;go_enter Tryz.func31,Tryz.ntmps31;go_wp2_with fail
    go_loopw [5] (fun b9 wr=>∃ k:Nat,b9=.int .i64 (k:Int)/\(k:Int)<=q/\aQ ((K.take k).any (grt n)=false)/\aQ (Below w.heap.size w wr)/\aQ (Own wr w.heap.size 32 [.int .i64 o,.string t,.int .u64 a,.int .u64 b,.int .u64 c,.int .u64 e0,.slice ko q kc]))
     (fun b9 _=>q - (intOf b9).toNat)
    case atStart=>exact ⟨0,rfl,by omega,aH rfl,HB0,HP⟩
    case round =>
     obtain ⟨k,rfl,hk2,HA,HB,HP1⟩:=hrel;clear HB0 HP;have p6:wr.cell? ⟨w.heap.size,6,none⟩=some (.slice ko q kc):=HP1.o.cell 6;by_cases h3:(k:Int) < q
     ·
      obtain ⟨y,hy⟩:∃ y,K[k]?=some y:=⟨_,aG (by have:=HQ.o;omega)⟩;obtain ⟨j,g,off,kk,kd,rfl,rfl,hg,c0,c1,c2,c3,c4,c5,c6,hr⟩:=HK.o.kid hy;have HR:=aH hr;have HY1:=aH hy;obtain ⟨z,hz⟩:∃ z,grt n y=z:=⟨_,rfl⟩;have HZ:=aH hz;have u0:=aC c0 HB.o;have u1:=aC c1 HB.o;have u2:=aC c2 HB.o;have u3:=aC c3 HB.o;have u4:=aC c4 HB.o;have u5:=aC c5 HB.o;have u6:=aC c6 HB.o;have hgr:g < wr.heap.size:=aL hg HB.o.size;clear hr hy hz c0 c1 c2 c3 c4 c5 c6 hg;go_wp2_with fail;refine (IH.o (d + 1) (by omega) j y kk kd _ (aV.below HB.o HR.o)).mono ?_;rintro e w1 ⟨rfl,hb1⟩;rw [HZ.o];have HB1:=aH (aD HB.o hb1);have HP2:=aH (HP1.o.under hb1 HP1.o.lt);clear hb1 u0 u1 u2 u3 u4 u5 u6 p6
      cases z
      ·
       have HA1:=aH (show (K.take (k + 1)).any (grt n)=false by rw [Ja HY1.o,HA.o,HZ.o];rfl);go_wp2
       go_roundw
       case rel=>exact ⟨k + 1,by go_num,by omega,HA1,HB1,HP2⟩
       case measure=>simp [intOf];omega
      · go_wp2;go_ret;exact ⟨aJ (by rw [HS2.o,Sb HY1.o HZ.o]),HB1.o⟩
     ·
      obtain rfl:k=q:=by omega
      have HE:=aH (show grt (n + 1) (.mk o t a b c e0 K)=false by
       have h:=HA.o;rw [<- HQ.o,List.take_length] at h
       rw [HS2.o,h])
      go_wp2;go_ret;exact ⟨aJ HE.o.symm,HB.o⟩
def hugB (m:Md):Bool:=decide (50 < m.nm.size) || (decide (10 < m.im.length) || (grt 17 m.wa || (decide (30 < m.ru.length) || (m.im.any (fun x=>decide (50 < x.size)) || m.ru.any (fun r=>decide (50 < r.1.size) || grt 17 r.2)))))
theorem huge_any (m:Md) (D n:Nat) (io:Option Addr) (ic:Nat) (ko:Option Addr) (kc:Nat) (ro:Option Addr) (rc:Nat) (hni:(m.im.length:Int)<=9223372036854775807) (hnr:(m.ru.length:Int)<=9223372036854775807) (w:World) (hN:gI w io m.im) (hK:dD w D n ko m.wa.kids) (hR:sN w D n ro m.ru) :
  Calls Tryz.prog 11 #[.agg #[.string m.nm,.slice io m.im.length ic,.bool m.wet,.int .i64 m.wa.op,.string m.wa.text,.int .u64 m.wa.s0,.int .u64 m.wa.s1,.int .u64 m.wa.s2,.int .u64 m.wa.s3,.slice ko m.wa.kids.length kc,.slice ro m.ru.length rc]] w fun e w'=>e=.returned (.bool (hugB m))/\Below w.heap.size w w':=by
 obtain ⟨nm,im,wet,wa,ru⟩:=m;simp only at hni hnr hN hK hR ⊢;have HGW:=aH (fun W (hb:Below w.heap.size w W)=>show Calls Tryz.prog 31 #[.agg #[.int .i64 wa.op,.string wa.text,.int .u64 wa.s0,.int .u64 wa.s1,.int .u64 wa.s2,.int .u64 wa.s3,.slice ko wa.kids.length kc],.int .i64 0] W fun e w'=>e=.returned (.bool (grt 17 wa))/\Below W.heap.size W w' from kH 17 0 ⟨by omega,by omega⟩ n wa ko kc W (aV.below hb hK.hask));have HNI:=aH hN;have HRU:=aH hR;have HSP:=aH (show hugB ⟨nm,im,wet,wa,ru⟩=(decide (50 < nm.size) || (decide (10 < im.length) || (grt 17 wa || (decide (30 < ru.length) || (im.any (fun x=>decide (50 < x.size)) || ru.any (fun r=>decide (50 < r.1.size) || grt 17 r.2)))))) from rfl);generalize hugB ⟨nm,im,wet,wa,ru⟩=RES at *;obtain ⟨zg,hzg⟩:∃ b,grt 17 wa=b:=⟨_,rfl⟩;rw [hzg] at HGW HSP;obtain ⟨nk,hnk⟩:∃ q,wa.kids.length=q:=⟨_,rfl⟩;rw [hnk] at HGW;rw [hnk];obtain ⟨ni,hni'⟩:∃ q,im.length=q:=⟨_,rfl⟩;obtain ⟨nr,hnr'⟩:∃ q,ru.length=q:=⟨_,rfl⟩;have HLI:=aH hni';have HLR:=aH hnr';rw [hni'] at HSP hni;rw [hnr'] at HSP hnr;rw [hni',hnr'];clear hN hK hR hzg hnk hni' hnr';have HB:=aH (show Below w.heap.size w (w.alloc (.cells #[.string nm,.slice io ni ic,.bool wet,.int .i64 wa.op,.string wa.text,.int .u64 wa.s0,.int .u64 wa.s1,.int .u64 wa.s2,.int .u64 wa.s3,.slice ko nk kc,.slice ro nr rc] 35)) from bA _);have HM:=aH (Own.fresh w 35 [.string nm,.slice io ni ic,.bool wet,.int .i64 wa.op,.string wa.text,.int .u64 wa.s0,.int .u64 wa.s1,.int .u64 wa.s2,.int .u64 wa.s3,.slice ko nk kc,.slice ro nr rc]);obtain ⟨B,hB⟩:∃ B,w.heap.size=B:=⟨_,rfl⟩;rw [hB] at HM;go_enter Tryz.func11,Tryz.ntmps11;go_upto_region 1 with fail;generalize w.alloc _=w1 at *;try rw [hB]
 clear hB;obtain ⟨m0,m1,m2,m3,m4,m5,m6,m7,m8,m9,mA⟩:=HM.o.elev;have ml:=HM.o.lt;by_cases c1:(50:Int) < nm.size
 · have c1':decide ((50:Int) < nm.size)=true:=aT c1;have c1n:decide (50 < nm.size)=true:=aT (by omega);have HE:=aH (show RES=true from by rw [HSP.o,c1n];rfl);go_wp2;go_ret;exact ⟨by rw [HE.o];rfl,HB.o⟩
 have c1':decide ((50:Int) < nm.size)=false:=aF c1;have c1n:decide (50 < nm.size)=false:=aF (by omega);by_cases c2:(10:Int) < ni
 · have c2':decide ((10:Int) < ni)=true:=aT c2;have c2n:decide (10 < ni)=true:=aT (by omega);have HE:=aH (show RES=true from by rw [HSP.o,c1n,c2n];rfl);go_wp2;go_ret;exact ⟨by rw [HE.o];rfl,HB.o⟩
 have c2':decide ((10:Int) < ni)=false:=aF c2;have c2n:decide (10 < ni)=false:=aF (by omega);go_wp2_with fail;refine (HGW.o _ HB.o).mono ?_;rintro e w2 ⟨rfl,hb2⟩;have HM:=aH (HM.o.under hb2 HM.o.lt);have HB:=aH (HB.o.trans (hb2.mono HB.o.size));clear hb2;clear m0 m1 m2 m3 m4 m5 m6 m7 m8 m9 mA ml;obtain ⟨m0,m1,m2,m3,m4,m5,m6,m7,m8,m9,mA⟩:=HM.o.elev;have ml:=HM.o.lt
 cases zg with
 | true =>
  have HE:=aH (show RES=true from by rw [HSP.o,c1n,c2n];rfl);go_wp2;go_ret;exact ⟨by rw [HE.o];rfl,HB.o⟩
 | false =>
  by_cases c3:(30:Int) < nr
  · have c3':decide ((30:Int) < nr)=true:=aT c3;have c3n:decide (30 < nr)=true:=aT (by omega);have HE:=aH (show RES=true from by rw [HSP.o,c1n,c2n,c3n];rfl);go_wp2;go_ret;exact ⟨by rw [HE.o];rfl,HB.o⟩
  have c3':decide ((30:Int) < nr)=false:=aF c3;have c3n:decide (30 < nr)=false:=aF (by omega);have HS0:=aH (show RES=((im.drop 0).any (fun x=>decide (50 < x.size)) || ru.any (fun r=>decide (50 < r.1.size) || grt 17 r.2)) from by rw [HSP.o,c1n,c2n,c3n];rfl);clear c1 c1' c1n c2' c2n c3' c3n HSP HGW;go_wp2_with fail
  go_loopw [2,3] (fun v2 v3 wr=>∃ k:Nat,v2=.bool false/\v3=.int .i64 (k:Int)/\(k:Int)<=ni/\aQ (RES=((im.drop k).any (fun x=>decide (50 < x.size)) || ru.any (fun r=>decide (50 < r.1.size) || grt 17 r.2)))/\aQ (Below w2.heap.size w2 wr)) (fun _ v3 _=>ni - (intOf v3).toNat)
  case atStart=>exact ⟨0,rfl,rfl,by omega,HS0,aH (Below.refl _ _)⟩
  case round =>
   obtain ⟨k,rfl,rfl,hk,HR,HBR⟩:=hrel;clear HS0;obtain ⟨wa1,hwr⟩:∃ z,z=wr:=⟨_,rfl⟩;subst hwr;have HM:=aH (HM.o.under HBR.o HM.o.lt);have HB9:=aH (HB.o.trans (HBR.o.mono HB.o.size));clear m0 m1 m2 m3 m4 m5 m6 m7 m8 m9 mA ml;obtain ⟨m0,m1,m2,m3,m4,m5,m6,m7,m8,m9,mA⟩:=HM.o.elev;have ml:=HM.o.lt;have hw1:IntKind.i64.wrap ((k:Int) + 1)=(k:Int) + 1:=wI;by_cases hlt:(k:Int) < ni
   ·
    obtain ⟨x,hx⟩:∃ x,im[k]?=some x:=⟨_,aG (by have:=HLI.o;omega)⟩
    have HD:=aH (show im.drop k=x :: im.drop (k + 1) from by
     obtain ⟨h1,h2⟩:=aS.1 hx
     rw [List.drop_eq_getElem_cons h1,h2])
    obtain ⟨g,off,hio,hg,cx⟩:=(HNI.o.below HB9.o) k x hx;rw [hio] at m1;clear hx hio;by_cases c5:(50:Int) < x.size
    · have c5':decide ((50:Int) < x.size)=true:=aT c5;have HE:=aH (show RES=true from by rw [HR.o,HD.o,List.any_cons,show decide (50 < x.size)=true from aT (by omega)];rfl);go_wp2;go_ret;exact ⟨by rw [HE.o];rfl,HB9.o⟩
    ·
     have c5':decide ((50:Int) < x.size)=false:=aF c5;have HE:=aH (show RES=((im.drop (k + 1)).any (fun x=>decide (50 < x.size)) || ru.any (fun r=>decide (50 < r.1.size) || grt 17 r.2)) from by rw [HR.o,HD.o,List.any_cons,show decide (50 < x.size)=false from aF (by omega)];rfl);go_wp2
     go_roundw
     case rel=>exact ⟨k + 1,rfl,by go_num,by omega,HE,HBR⟩
     case measure=>simp [intOf];omega
   ·
    have hltf:decide ((k:Int) < ni)=false:=aF hlt;have HS1:=aH (show RES=((ru.drop 0).any (fun r=>decide (50 < r.1.size) || grt 17 r.2)) from by rw [HR.o,List.drop_eq_nil_of_le (by have:=HLI.o;omega)];rfl);clear HR;go_wp2_with fail
    go_loopw [2,4] (fun v2 v4 wr=>∃ k:Nat,v2=.bool false/\v4=.int .i64 (k:Int)/\(k:Int)<=nr/\aQ (RES=((ru.drop k).any (fun r=>decide (50 < r.1.size) || grt 17 r.2)))/\aQ (Below wa1.heap.size wa1 wr)) (fun _ v4 _=>nr - (intOf v4).toNat)
    case atStart=>exact ⟨0,rfl,rfl,by omega,HS1,aH (Below.refl _ _)⟩
    case round =>
     obtain ⟨j,rfl,rfl,hj,HR,HBQ⟩:=hrel;clear HS1;obtain ⟨wb1,hwr⟩:∃ z,z=wr:=⟨_,rfl⟩;subst hwr;have HM:=aH (HM.o.under HBQ.o HM.o.lt);have HB8:=aH (HB9.o.trans (HBQ.o.mono HB9.o.size));clear m0 m1 m2 m3 m4 m5 m6 m7 m8 m9 mA ml;obtain ⟨m0,m1,m2,m3,m4,m5,m6,m7,m8,m9,mA⟩:=HM.o.elev;have ml:=HM.o.lt;have hw2:IntKind.i64.wrap ((j:Int) + 1)=(j:Int) + 1:=wI;by_cases hlt2:(j:Int) < nr
     ·
      obtain ⟨r,hr⟩:∃ r,ru[j]?=some r:=⟨_,aG (by have:=HLR.o;omega)⟩
      have HD:=aH (show ru.drop j=r :: ru.drop (j + 1) from by
       obtain ⟨h1,h2⟩:=aS.1 hr
       rw [List.drop_eq_getElem_cons h1,h2])
      obtain ⟨g,off,yo,yc,hro,hg,_,d0,d1,d2,d3,d4,d5,d6,d7,hky⟩:=(HRU.o.but (But.of_below (S:=fun _=>False) HB8.o) (fun _ h=>h.elim)) j r hr;rw [hro] at mA;obtain ⟨zr,hzr⟩:∃ b,grt 17 r.2=b:=⟨_,rfl⟩
      have HGR:=aH (show Calls Tryz.prog 31 #[.agg #[.int .i64 r.2.op,.string r.2.text,.int .u64 r.2.s0,.int .u64 r.2.s1,.int .u64 r.2.s2,.int .u64 r.2.s3,.slice yo r.2.kids.length yc],.int .i64 0] wb1 fun e w'=>e=.returned (.bool zr)/\Below wb1.heap.size wb1 w' from by
       rw [<- hzr]
       exact kH 17 0 ⟨by omega,by omega⟩ n r.2 yo yc wb1 hky.hask)
      have HZR:=aH hzr;clear hr hro hky hzr;by_cases c6:(50:Int) < r.1.size
      · have c6':decide ((50:Int) < r.1.size)=true:=aT c6;have HE:=aH (show RES=true from by rw [HR.o,HD.o,List.any_cons,show decide (50 < r.1.size)=true from aT (by omega)];rfl);go_wp2;go_ret;exact ⟨by rw [HE.o];rfl,HB8.o⟩
      ·
       have c6':decide ((50:Int) < r.1.size)=false:=aF c6;go_wp2_with fail;refine HGR.o.mono ?_;rintro e w5 ⟨rfl,hb5⟩;have HB5:=aH (HB8.o.trans (hb5.mono HB8.o.size));have HQ5:=aH (HBQ.o.trans (hb5.mono HBQ.o.size));clear hb5
       cases zr with
       | true =>
        have HE:=aH (show RES=true from by rw [HR.o,HD.o,List.any_cons,HZR.o];simp);go_wp2;go_ret;exact ⟨by rw [HE.o];rfl,HB5.o⟩
       | false =>
        have HE:=aH (show RES=((ru.drop (j + 1)).any (fun r=>decide (50 < r.1.size) || grt 17 r.2)) from by rw [HR.o,HD.o,List.any_cons,HZR.o,show decide (50 < r.1.size)=false from aF (by omega)];rfl);go_wp2
        go_roundw
        case rel=>exact ⟨j + 1,rfl,by go_num,by omega,HE,HQ5⟩
        case measure=>simp [intOf];omega
     · have hltf2:decide ((j:Int) < nr)=false:=aF hlt2;have HE:=aH (show RES=false from by rw [HR.o,List.drop_eq_nil_of_le (by have:=HLR.o;omega)];rfl);go_wp2;go_ret;exact ⟨by rw [HE.o];rfl,HB8.o⟩
set_option linter.unusedSimpArgs false
def impW (x:ByteArray):List UInt8:=[105,109,112,111,114,116,32] ++ x.data.toList ++ [59,10]
def rulW (r:ByteArray × Ex):List UInt8:=r.1.data.toList ++ [32,61,32] ++ prX 53 r.2 ++ [59,10]
def hedW (nm:ByteArray):List UInt8:=[109,111,100,117,108,101,32] ++ nm.data.toList ++ [59,10]
def watW (wet:Bool) (x:Ex):List UInt8:=if wet then [119,97,116,101,114,32,61,32] ++ prX 53 x ++ [59,10] else []
def prM (m:Md):List UInt8:=hedW m.nm ++ m.im.flatMap impW ++ watW m.wet m.wa ++ m.ru.flatMap rulW
theorem flat_take {α:Type} (f:α->List UInt8) {l:List α} {k:Nat} {x:α} (h:l[k]?=some x):(l.take (k + 1)).flatMap f=(l.take k).flatMap f ++ f x:=by obtain ⟨h1,h2⟩:=aS.1 h;rw [List.take_succ_eq_append_getElem h1,h2,List.flatMap_append];simp
theorem flat_le {α:Type} (f:α->List UInt8) (l:List α) (k:Nat):((l.take k).flatMap f).length<=(l.flatMap f).length:=by
 conv=>rhs;rw [<- List.take_append_drop k l]
 rw [List.flatMap_append,List.length_append];omega
structure PmOk (m:Md):Prop where
 nm:m.nm.size<=100000
 im:∀ x ∈ m.im,x.size<=100000
 ni:m.im.length<=1000
 nr:m.ru.length<=1000
 wa:m.wet=true->Ov 53 m.wa/\(prX 53 m.wa).length<=500000
 ru:∀ r ∈ m.ru,r.1.size<=100000/\Ov 53 r.2/\(prX 53 r.2).length<=500000
 all:(prM m).length<=1000000
theorem app_le {a b:ByteArray} {m n:Nat} (ha:a.size<=m) (hb:b.size<=n):(a ++ b).size<=m + n:=by rw [ByteArray.size_append];omega
theorem szI {a:ByteArray} {m:Nat} {n:Int} (h:a.size<=m) (hm:(m:Int)=n):(a.size:Int)<=n:=hm ▸ Int.ofNat_le.2 h
theorem Bld.same {B b:Nat} {l l':List UInt8} {w:World} (h:Bld B b l w) (e:l=l'):Bld B b l' w:=e ▸ h
theorem print9_any (m:Md) (D n:Nat) (io:Option Addr) (ic:Nat) (ko:Option Addr) (kc:Nat) (ro:Option Addr) (rc:Nat) (hok:PmOk m) (w:World) (hN:gI w io m.im) (hK:aV w 53 ko m.wa.kids) (hR:sN w D n ro m.ru) (hRK:∀ r ∈ m.ru,fit 90001 53 r.2=true) :
  Calls Tryz.prog 17 #[.agg #[.string m.nm,.slice io m.im.length ic,.bool m.wet,.int .i64 m.wa.op,.string m.wa.text,.int .u64 m.wa.s0,.int .u64 m.wa.s1,.int .u64 m.wa.s2,.int .u64 m.wa.s3,.slice ko m.wa.kids.length kc,.slice ro m.ru.length rc]] w fun e w'=>e=.returned (.string ⟨(prM m).toArray⟩)/\Below w.heap.size w w':=by
 obtain ⟨nm,im,wet,wa,ru⟩:=m;have HOK:=aH hok;have HAL:=aH (show (hedW nm ++ im.flatMap impW ++ watW wet wa ++ ru.flatMap rulW).length<=1000000 from hok.all);have HNI:=aH hN;have HRU:=aH hR;have HRK:=aH hRK;have HPW:=aH (fun (h:wet=true) W (hb:Below w.heap.size w W)=>show Calls Tryz.prog 44 #[.agg #[.int .i64 wa.op,.string wa.text,.int .u64 wa.s0,.int .u64 wa.s1,.int .u64 wa.s2,.int .u64 wa.s3,.slice ko wa.kids.length kc]] W fun e w'=>e=.returned (.string (ofL (prX 53 wa)))/\Below W.heap.size W w' from xG 53 wa ko kc W (hok.wa h).1 (aV.below hb hK));have hs1:=hok.nm;have hl1:=hok.ni;have hl2:=hok.nr;obtain ⟨RES,hres⟩:∃ r,prM ⟨nm,im,wet,wa,ru⟩=r:=⟨_,rfl⟩;have HRES:=aH (show RES=hedW nm ++ im.flatMap impW ++ watW wet wa ++ ru.flatMap rulW from hres.symm);rw [hres];simp only at hs1 hl1 hl2 ⊢;obtain ⟨nk,hnk⟩:∃ q,wa.kids.length=q:=⟨_,rfl⟩;rw [hnk] at HPW;rw [hnk];obtain ⟨ni,hni⟩:∃ q,im.length=q:=⟨_,rfl⟩;obtain ⟨nr,hnr⟩:∃ q,ru.length=q:=⟨_,rfl⟩;have HLI:=aH hni;have HLR:=aH hnr;rw [hni] at hl1;rw [hnr] at hl2;rw [hni,hnr];clear hok hN hK hR hRK hres hnk hni hnr;have hn1:(nm.size:Int)<=100000:=szI hs1 rfl;have hn2:((⟨#[109,111,100,117,108,101,32]⟩ ++ nm:ByteArray).size:Int)<=100007:=szI (app_le (show (⟨#[109,111,100,117,108,101,32]⟩:ByteArray).size<=7 from Nat.le_refl _) hs1) rfl;have HPZ:=aH (show (⟨#[109,111,100,117,108,101,32]⟩ ++ nm ++ ⟨#[59,10]⟩:ByteArray).size<=100009 from app_le (app_le (show (⟨#[109,111,100,117,108,101,32]⟩:ByteArray).size<=7 from Nat.le_refl _) hs1) (show (⟨#[59,10]⟩:ByteArray).size<=2 from Nat.le_refl _));clear hs1;have hbl:Below w.heap.size w ((w.alloc (.cells #[.string nm,.slice io ni ic,.bool wet,.int .i64 wa.op,.string wa.text,.int .u64 wa.s0,.int .u64 wa.s1,.int .u64 wa.s2,.int .u64 wa.s3,.slice ko nk kc,.slice ro nr rc] 35)).alloc (.cells #[.pointer none,.slice none 0 0] 88)):=(bA _).alloc (by simp) _;have HM:=aH ((Own.fresh w 35 [.string nm,.slice io ni ic,.bool wet,.int .i64 wa.op,.string wa.text,.int .u64 wa.s0,.int .u64 wa.s1,.int .u64 wa.s2,.int .u64 wa.s3,.slice ko nk kc,.slice ro nr rc]).on_alloc (.cells #[.pointer none,.slice none 0 0] 88));have hbd:=A5G (w.alloc (.cells #[.string nm,.slice io ni ic,.bool wet,.int .i64 wa.op,.string wa.text,.int .u64 wa.s0,.int .u64 wa.s1,.int .u64 wa.s2,.int .u64 wa.s3,.slice ko nk kc,.slice ro nr rc] 35));have hsz:(w.alloc (.cells #[.string nm,.slice io ni ic,.bool wet,.int .i64 wa.op,.string wa.text,.int .u64 wa.s0,.int .u64 wa.s1,.int .u64 wa.s2,.int .u64 wa.s3,.slice ko nk kc,.slice ro nr rc] 35)).heap.size=w.heap.size + 1:=by simp
 rw [hsz] at hbd;have HBD:=aH hbd;have HB:=aH hbl;clear hbd hbl hsz;go_enter Tryz.func17,Tryz.ntmps17;go_upto_region 2 with fail;have e9:(w.alloc (.cells #[.string nm,.slice io ni ic,.bool wet,.int .i64 wa.op,.string wa.text,.int .u64 wa.s0,.int .u64 wa.s1,.int .u64 wa.s2,.int .u64 wa.s3,.slice ko nk kc,.slice ro nr rc] 35)).heap.size=w.heap.size + 1:=by simp
 try rw [e9]
 clear e9;obtain ⟨w1,hw1⟩:∃ z,(w.alloc (.cells #[.string nm,.slice io ni ic,.bool wet,.int .i64 wa.op,.string wa.text,.int .u64 wa.s0,.int .u64 wa.s1,.int .u64 wa.s2,.int .u64 wa.s3,.slice ko nk kc,.slice ro nr rc] 35)).alloc (.cells #[.pointer none,.slice none 0 0] 88)=z:=⟨_,rfl⟩;have HS1:=aH (show w.heap.size + 1 < w1.heap.size from by rw [<- hw1];simp);rw [hw1] at HM HBD HB ⊢;clear hw1;obtain ⟨A,hA⟩:∃ A,w.heap.size=A:=⟨_,rfl⟩;have HAW:=aH hA;rw [hA] at HM HBD HS1;try rw [hA]
 clear hA;obtain ⟨b,hb⟩:∃ b,A + 1=b:=⟨_,rfl⟩;have HAB:=aH hb;rw [hb] at HBD HS1;try rw [hb]
 clear hb;have HLB:=aH (show b<=w1.heap.size from by have:=HS1.o;omega);obtain ⟨m0,m1,m2,m3,m4,m5,m6,m7,m8,m9,mA⟩:=HM.o.elev;have ml:=HM.o.lt;go_wp2_with fail;have q:=qJ b b ([]) (⟨#[109,111,100,117,108,101,32]⟩ ++ nm ++ ⟨#[59,10]⟩) w1 HBD.o (by exact Nat.zero_le _) (by exact Nat.le_trans HPZ.o (by decide)) HLB.o;refine q.mono ?_;clear q;rintro e w2 ⟨rfl,hbd,hbb⟩;have HBD:=aH (Bld.same hbd (show _=hedW nm from by simp [hedW,impW,watW,rulW,ofL]));have HM:=aH (HM.o.under hbb (show A < b from by have:=HAB.o;omega));have HB:=aH (HB.o.trans (hbb.mono (by have h1:=HAW.o;have h2:=HAB.o;omega)));have HLB:=aH (Nat.le_trans HLB.o hbb.size);clear hbd hbb;clear m0 m1 m2 m3 m4 m5 m6 m7 m8 m9 mA ml;clear hn1 hn2 HPZ;obtain ⟨m0,m1,m2,m3,m4,m5,m6,m7,m8,m9,mA⟩:=HM.o.elev;have ml:=HM.o.lt;have HBD:=aH (Bld.same HBD.o (show hedW nm=hedW nm ++ (im.take 0).flatMap impW from by simp));go_wp2_with fail
 go_loopw [16] (fun v16 wr=>∃ k:Nat,v16=.int .i64 (k:Int)/\(k:Int)<=ni/\aQ (Bld b b (hedW nm ++ (im.take k).flatMap impW) wr)/\aQ (Own wr A 35 [.string nm,.slice io ni ic,.bool wet,.int .i64 wa.op,.string wa.text,.int .u64 wa.s0,.int .u64 wa.s1,.int .u64 wa.s2,.int .u64 wa.s3,.slice ko nk kc,.slice ro nr rc])/\aQ (Below w.heap.size w wr)/\aQ (b<=wr.heap.size)) (fun v16 _=>ni - (intOf v16).toNat)
 case atStart=>exact ⟨0,rfl,by omega,HBD,HM,HB,HLB⟩
 case round =>
  obtain ⟨k,rfl,hk,HBD,HM,HB,HLB⟩:=hrel;obtain ⟨wa1,hwr⟩:∃ z,z=wr:=⟨_,rfl⟩;subst hwr;clear m0 m1 m2 m3 m4 m5 m6 m7 m8 m9 mA ml;obtain ⟨m0,m1,m2,m3,m4,m5,m6,m7,m8,m9,mA⟩:=HM.o.elev;have ml:=HM.o.lt;have hw1:IntKind.i64.wrap ((k:Int) + 1)=(k:Int) + 1:=wI;by_cases hlt:(k:Int) < ni
  ·
   obtain ⟨x,hx⟩:∃ x,im[k]?=some x:=⟨_,aG (by have:=HLI.o;omega)⟩;obtain ⟨g,off,hio,hg,cx⟩:=(HNI.o.below HB.o) k x hx;have hxn:x.size<=100000:=HOK.o.im x (aM hx);have hxs:(x.size:Int)<=100000:=szI hxn rfl;have hxt:((⟨#[105,109,112,111,114,116,32]⟩ ++ x:ByteArray).size:Int)<=100007:=szI (app_le (show (⟨#[105,109,112,111,114,116,32]⟩:ByteArray).size<=7 from Nat.le_refl _) hxn) rfl;have HPZ:=aH (show (⟨#[105,109,112,111,114,116,32]⟩ ++ x ++ ⟨#[59,10]⟩:ByteArray).size<=100009 from app_le (app_le (show (⟨#[105,109,112,111,114,116,32]⟩:ByteArray).size<=7 from Nat.le_refl _) hxn) (show (⟨#[59,10]⟩:ByteArray).size<=2 from Nat.le_refl _));clear hxn;have HFT:=aH (flat_take impW hx)
   have HLN:=aH (show (hedW nm ++ (im.take k).flatMap impW).length<=1000000 from by
    have h1:=HAL.o;have h2:=flat_le impW im k;simp only [List.length_append] at h1 ⊢
    omega)
   subst hio;clear hx;go_wp2_with fail;have q:=qJ b b (hedW nm ++ (im.take k).flatMap impW) (⟨#[105,109,112,111,114,116,32]⟩ ++ x ++ ⟨#[59,10]⟩) wa1 HBD.o (by exact HLN.o) (by exact Nat.le_trans HPZ.o (by decide)) HLB.o;refine q.mono ?_;clear q;rintro e w4 ⟨rfl,hbd,hbb⟩;have HBD:=aH (Bld.same hbd (show _=(hedW nm ++ (im.take k).flatMap impW) ++ impW x from by simp [hedW,impW,watW,rulW,ofL]));have HM:=aH (HM.o.under hbb (show A < b from by have:=HAB.o;omega));have HB:=aH (HB.o.trans (hbb.mono (by have h1:=HAW.o;have h2:=HAB.o;omega)));have HLB:=aH (Nat.le_trans HLB.o hbb.size);clear hbd hbb;have HBD:=aH (Bld.same HBD.o (show (hedW nm ++ (im.take k).flatMap impW) ++ impW x=hedW nm ++ (im.take (k + 1)).flatMap impW from by rw [HFT.o,List.append_assoc]));go_wp2
   go_roundw
   case rel=>exact ⟨k + 1,by go_num,by omega,HBD,HM,HB,HLB⟩
   case measure=>simp [intOf];omega
  ·
   have hltf:decide ((k:Int) < ni)=false:=aF hlt;have HBD:=aH (Bld.same HBD.o (show hedW nm ++ (im.take k).flatMap impW=hedW nm ++ im.flatMap impW from by rw [List.take_of_length_le (by have:=HLI.o;omega)]))
   cases wet with
   | false =>
    have HBD:=aH (Bld.same HBD.o (show hedW nm ++ im.flatMap impW=hedW nm ++ im.flatMap impW ++ watW false wa from by simp [watW]));have HBD:=aH (Bld.same HBD.o (show hedW nm ++ im.flatMap impW ++ watW false wa=hedW nm ++ im.flatMap impW ++ watW false wa ++ (ru.take 0).flatMap rulW from by simp));go_wp2_with fail
    go_loopw [36] (fun v36 wr=>∃ j:Nat,v36=.int .i64 (j:Int)/\(j:Int)<=nr/\aQ (Bld b b (hedW nm ++ im.flatMap impW ++ watW false wa ++ (ru.take j).flatMap rulW) wr)/\aQ (Own wr A 35 [.string nm,.slice io ni ic,.bool false,.int .i64 wa.op,.string wa.text,.int .u64 wa.s0,.int .u64 wa.s1,.int .u64 wa.s2,.int .u64 wa.s3,.slice ko nk kc,.slice ro nr rc])/\aQ (Below w.heap.size w wr)/\aQ (b<=wr.heap.size)) (fun v36 _=>nr - (intOf v36).toNat)
    case atStart=>exact ⟨0,rfl,by omega,HBD,HM,HB,HLB⟩
    case round =>
     obtain ⟨j,rfl,hj,HBD,HM,HB,HLB⟩:=hrel;obtain ⟨wb1,hwr⟩:∃ z,z=wr:=⟨_,rfl⟩;subst hwr;clear m0 m1 m2 m3 m4 m5 m6 m7 m8 m9 mA ml;obtain ⟨m0,m1,m2,m3,m4,m5,m6,m7,m8,m9,mA⟩:=HM.o.elev;have ml:=HM.o.lt;have hw2:IntKind.i64.wrap ((j:Int) + 1)=(j:Int) + 1:=wI;by_cases hlt2:(j:Int) < nr
     ·
      obtain ⟨r,hr⟩:∃ r,ru[j]?=some r:=⟨_,aG (by have:=HLR.o;omega)⟩;obtain ⟨g,off,yo,yc,hro,hg,_,d0,d1,d2,d3,d4,d5,d6,d7,hky⟩:=(HRU.o.but (But.of_below (S:=fun _=>False) HB.o) (fun _ h=>h.elim)) j r hr;have hmem:=aM hr;have hrn:r.1.size<=100000:=(HOK.o.ru r hmem).1;have hpn:(ofL (prX 53 r.2)).size<=500000:=(by have e:(ofL (prX 53 r.2)).size=(prX 53 r.2).length:=(by simp [ofL,ByteArray.size]);rw [e];exact (HOK.o.ru r hmem).2.2);have N2:=aH (show ¬ 9223372036854775807 < r.1.size + 3 from by omega);have N6:=aH (show ¬ 9223372036854775807 < r.1.size + 3 + (ofL (prX 53 r.2)).size from by omega);have N7:=aH (show ¬ 9223372036854775807 < r.1.size + 3 + (ofL (prX 53 r.2)).size + 2 from by omega);have M6:=aH (show ¬ 9223372036854775807 < (r.1 ++ ⟨#[32,61,32]⟩:ByteArray).size + (ofL (prX 53 r.2)).size from by rw [ByteArray.size_append];exact N6.o);have M7:=aH (show ¬ 9223372036854775807 < (r.1 ++ ⟨#[32,61,32]⟩ ++ ofL (prX 53 r.2):ByteArray).size + 2 from by rw [ByteArray.size_append,ByteArray.size_append];exact N7.o);have HPZ:=aH (show (r.1 ++ ⟨#[32,61,32]⟩ ++ ofL (prX 53 r.2) ++ ⟨#[59,10]⟩:ByteArray).size<=600005 from app_le (app_le (app_le hrn (show (⟨#[32,61,32]⟩:ByteArray).size<=3 from Nat.le_refl _)) hpn) (show (⟨#[59,10]⟩:ByteArray).size<=2 from Nat.le_refl _));clear hrn hpn;have HPR:=aH (fun W (hb:Below wb1.heap.size wb1 W)=>show Calls Tryz.prog 44 #[.agg #[.int .i64 r.2.op,.string r.2.text,.int .u64 r.2.s0,.int .u64 r.2.s1,.int .u64 r.2.s2,.int .u64 r.2.s3,.slice yo r.2.kids.length yc]] W fun e w'=>e=.returned (.string (ofL (prX 53 r.2)))/\Below W.heap.size W w' from xG 53 r.2 yo yc W (HOK.o.ru r hmem).2.1 (aV.below hb (aV.fit (HRK.o r hmem) hky.hask)));have HFT:=aH (flat_take rulW hr)
      have HLN:=aH (show (hedW nm ++ im.flatMap impW ++ watW false wa ++ (ru.take j).flatMap rulW).length<=1000000 from by
       have h1:=HAL.o;have h2:=flat_le rulW ru j;simp only [List.length_append] at h1 h2 ⊢
       omega)
      obtain ⟨yn,hyn⟩:∃ q,r.2.kids.length=q:=⟨_,rfl⟩;rw [hyn] at d7 HPR;subst hro;have hbl:Below wb1.heap.size wb1 (wb1.alloc (.cells #[.string r.1,.int .i64 r.2.op,.string r.2.text,.int .u64 r.2.s0,.int .u64 r.2.s1,.int .u64 r.2.s2,.int .u64 r.2.s3,.slice yo yn yc] 51)):=bA _;have HX:=aH (Own.fresh wb1 51 [.string r.1,.int .i64 r.2.op,.string r.2.text,.int .u64 r.2.s0,.int .u64 r.2.s1,.int .u64 r.2.s2,.int .u64 r.2.s3,.slice yo yn yc]);have HBL:=aH hbl;have HMq:=aH (HM.o.under hbl HM.o.lt);have HBDq:=aH (HBD.o.below hbl);clear hr hky hmem hyn hbl;go_upto_region 13 with fail;clear m0 m1 m2 m3 m4 m5 m6 m7 m8 m9 mA ml;clear d0 d1 d2 d3 d4 d5 d6 d7 hg;generalize wb1.alloc _=wc1 at *;obtain ⟨X,hX⟩:∃ X,wb1.heap.size=X:=⟨_,rfl⟩;have HXX:=aH hX;rw [hX] at HX;try rw [hX]
      clear hX;have x0:wc1.cell? ⟨X,0,none⟩=some (.string r.1):=HX.o.cell 0;have x1:wc1.cell? ⟨X,1,none⟩=some (.int .i64 r.2.op):=HX.o.cell 1;have x2:wc1.cell? ⟨X,2,none⟩=some (.string r.2.text):=HX.o.cell 2;have x3:wc1.cell? ⟨X,3,none⟩=some (.int .u64 r.2.s0):=HX.o.cell 3;have x4:wc1.cell? ⟨X,4,none⟩=some (.int .u64 r.2.s1):=HX.o.cell 4;have x5:wc1.cell? ⟨X,5,none⟩=some (.int .u64 r.2.s2):=HX.o.cell 5;have x6:wc1.cell? ⟨X,6,none⟩=some (.int .u64 r.2.s3):=HX.o.cell 6;have x7:wc1.cell? ⟨X,7,none⟩=some (.slice yo yn yc):=HX.o.cell 7;have xl:=HX.o.lt;have HC:=aH (And.intro xl (And.intro x0 (And.intro x1 (And.intro x2 (And.intro x3 (And.intro x4 (And.intro x5 (And.intro x6 x7))))))));clear xl x0 x1 x2 x3 x4 x5 x6 x7;refine bX (fun Wx=>Below wc1.heap.size wc1 Wx) 8 (by kernel_rfl) ?_;have HS:=aH (show Below wc1.heap.size wc1 (World.drew wc1) from (Below.refl _ _).drew);refine tC 0 rfl HS.o ?_;go_simp;refine aI.takeD 1 [2,6,7,8] rfl (v:=?_) (Or.inl ⟨by rfl,?_⟩) HS.o ?_;rotate_left;· intro W hW;obtain ⟨xl,x0,x1,x2,x3,x4,x5,x6,x7⟩:=HC.o;have xl:=aL xl hW.size;have x0:=aC x0 hW;have x1:=aC x1 hW;have x2:=aC x2 hW;have x3:=aC x3 hW;have x4:=aC x4 hW;have x5:=aC x5 hW;have x6:=aC x6 hW;have x7:=aC x7 hW;go_simp;try with_reducible rfl
      go_simp;refine aI.pure 2 rfl (v:=?_) (Or.inl ⟨by rfl,?_⟩) HS.o ?_;rotate_left;· intro W _;go_simp;exact if_neg N2.o
      go_simp;refine tC 3 rfl HS.o ?_;go_simp;refine aI.takeD 4 [5,6,7,8] rfl (v:=?_) (Or.inl ⟨by rfl,?_⟩) HS.o ?_;rotate_left;· intro W hW;obtain ⟨xl,x0,x1,x2,x3,x4,x5,x6,x7⟩:=HC.o;have xl:=aL xl hW.size;have x0:=aC x0 hW;have x1:=aC x1 hW;have x2:=aC x2 hW;have x3:=aC x3 hW;have x4:=aC x4 hW;have x5:=aC x5 hW;have x6:=aC x6 hW;have x7:=aC x7 hW;go_simp;try with_reducible rfl
      go_simp;refine aI.one (i:=5) (by kernel_rfl) (bB (f:=44) (vs:=#[.agg #[.int .i64 r.2.op,.string r.2.text,.int .u64 r.2.s0,.int .u64 r.2.s1,.int .u64 r.2.s2,.int .u64 r.2.s3,.slice yo yn yc]]) rfl (by kernel_rfl) (by go_simp) ((HPR.o _ (HBL.o.trans (HS.o.mono HBL.o.size))).mono ?_));rintro e v2 ⟨he,hb⟩;refine ⟨_,he,.inr (.inr (HS.o.trans (hb.mono HS.o.size))),?_⟩;have HS:=aH (HS.o.trans (hb.mono HS.o.size));clear hb he;go_simp;refine aI.pure 6 rfl (v:=?_) (Or.inl ⟨by rfl,?_⟩) HS.o ?_;rotate_left;· intro W _;go_simp;first | exact if_neg N6.o | exact if_neg M6.o
      go_simp;refine aI.pure 7 rfl (v:=?_) (Or.inl ⟨by rfl,?_⟩) HS.o ?_;rotate_left;· intro W _;go_simp;first | exact if_neg N7.o | exact if_neg M7.o
      go_simp;obtain ⟨pc,hpc⟩:∃ z,(r.1 ++ ⟨#[32,61,32]⟩ ++ ofL (prX 53 r.2) ++ ⟨#[59,10]⟩:ByteArray)=z:=⟨_,rfl⟩;have HPE:=aH hpc;rw [hpc];rw [hpc] at HPZ;clear hpc;have HBD2:=aH (HBDq.o.below HS.o);have HLB2:=aH (show b<=v2.heap.size from Nat.le_trans HLB.o (Nat.le_trans HBL.o.size HS.o.size));have HWS:=aH (qJ b b (hedW nm ++ im.flatMap impW ++ watW false wa ++ (ru.take j).flatMap rulW) pc v2 HBD2.o HLN.o (by exact Nat.le_trans HPZ.o (by decide)) HLB2.o);refine aI.one (i:=8) (by kernel_rfl) (bB (f:=43) (vs:=#[.pointer (some ⟨b,0,none⟩),.string pc]) rfl (by kernel_rfl) (by go_simp) (HWS.o.mono ?_));rintro e v3 ⟨he,hbd,hbb⟩;refine ⟨_,he,.inl rfl,?_⟩;have HBD:=aH (Bld.same hbd (show _=hedW nm ++ im.flatMap impW ++ watW false wa ++ (ru.take (j + 1)).flatMap rulW from by rw [HFT.o,<- HPE.o];simp [rulW,ofL]));have HM:=aH ((HMq.o.under HS.o HMq.o.lt).under hbb (show A < b from by have:=HAB.o;omega));have HBQ:=aH (HB.o.trans ((HBL.o.trans (HS.o.mono HBL.o.size)).mono HB.o.size));have HB:=aH (HBQ.o.trans (hbb.mono (by have h1:=HAW.o;have h2:=HAB.o;omega)));have HLB:=aH (Nat.le_trans HLB2.o hbb.size);clear hbd hbb he;go_simp;refine aI.done (by kernel_rfl) ?_ _;go_simp;go_wp2
      go_roundw
      case rel=>exact ⟨j + 1,by go_num,by omega,HBD,HM,HB,HLB⟩
      case measure=>simp [intOf];omega
     · have hltf2:decide ((j:Int) < nr)=false:=aF hlt2;have HBD:=aH (Bld.same HBD.o (show hedW nm ++ im.flatMap impW ++ watW false wa ++ (ru.take j).flatMap rulW=RES from by rw [HRES.o,List.take_of_length_le (by have:=HLR.o;omega)]));go_wp2_with fail;refine (Zt b b RES wb1 HBD.o HLB.o).mono ?_;rintro e w9 ⟨rfl,hbb⟩;have HB:=aH (HB.o.trans (hbb.mono (by have h1:=HAW.o;have h2:=HAB.o;omega)));clear hbb;go_wp2;go_ret;exact ⟨rfl,HB.o⟩
   | true =>
    have hpn:(ofL (prX 53 wa)).size<=500000:=(by have e:(ofL (prX 53 wa)).size=(prX 53 wa).length:=(by simp [ofL,ByteArray.size]);rw [e];exact (HOK.o.wa rfl).2);have hpz:((ofL (prX 53 wa)).size:Int)<=500000:=szI hpn rfl;have hpt:((⟨#[119,97,116,101,114,32,61,32]⟩ ++ ofL (prX 53 wa):ByteArray).size:Int)<=500008:=szI (app_le (show (⟨#[119,97,116,101,114,32,61,32]⟩:ByteArray).size<=8 from Nat.le_refl _) hpn) rfl;have HPZ:=aH (show (⟨#[119,97,116,101,114,32,61,32]⟩ ++ ofL (prX 53 wa) ++ ⟨#[59,10]⟩:ByteArray).size<=500010 from app_le (app_le (show (⟨#[119,97,116,101,114,32,61,32]⟩:ByteArray).size<=8 from Nat.le_refl _) hpn) (show (⟨#[59,10]⟩:ByteArray).size<=2 from Nat.le_refl _));clear hpn
    have HLN:=aH (show (hedW nm ++ im.flatMap impW).length<=1000000 from by
     have h1:=HAL.o;simp only [List.length_append] at h1 ⊢
     omega)
    go_wp2_with fail;refine (HPW.o (by first | rfl | trivial) _ HB.o).mono ?_;rintro e w4 ⟨rfl,hb4⟩;have HBD:=aH (HBD.o.below hb4);have HM:=aH (HM.o.under hb4 HM.o.lt);have HB:=aH (HB.o.trans (hb4.mono HB.o.size));have HLB:=aH (Nat.le_trans HLB.o hb4.size);clear hb4;go_wp2_with fail;have q:=qJ b b (hedW nm ++ im.flatMap impW) (⟨#[119,97,116,101,114,32,61,32]⟩ ++ ofL (prX 53 wa) ++ ⟨#[59,10]⟩) w4 HBD.o (by exact HLN.o) (by exact Nat.le_trans HPZ.o (by decide)) HLB.o;refine q.mono ?_;clear q;rintro e w5 ⟨rfl,hbd,hbb⟩;have HBD:=aH (Bld.same hbd (show _=hedW nm ++ im.flatMap impW ++ watW true wa from by simp [hedW,impW,watW,rulW,ofL]));have HM:=aH (HM.o.under hbb (show A < b from by have:=HAB.o;omega));have HB:=aH (HB.o.trans (hbb.mono (by have h1:=HAW.o;have h2:=HAB.o;omega)));have HLB:=aH (Nat.le_trans HLB.o hbb.size);clear hbd hbb;clear m0 m1 m2 m3 m4 m5 m6 m7 m8 m9 mA ml;clear hpz hpt HPZ;obtain ⟨m0,m1,m2,m3,m4,m5,m6,m7,m8,m9,mA⟩:=HM.o.elev;have ml:=HM.o.lt;have HBD:=aH (Bld.same HBD.o (show hedW nm ++ im.flatMap impW ++ watW true wa=hedW nm ++ im.flatMap impW ++ watW true wa ++ (ru.take 0).flatMap rulW from by simp));go_wp2_with fail
    go_loopw [36] (fun v36 wr=>∃ j:Nat,v36=.int .i64 (j:Int)/\(j:Int)<=nr/\aQ (Bld b b (hedW nm ++ im.flatMap impW ++ watW true wa ++ (ru.take j).flatMap rulW) wr)/\aQ (Own wr A 35 [.string nm,.slice io ni ic,.bool true,.int .i64 wa.op,.string wa.text,.int .u64 wa.s0,.int .u64 wa.s1,.int .u64 wa.s2,.int .u64 wa.s3,.slice ko nk kc,.slice ro nr rc])/\aQ (Below w.heap.size w wr)/\aQ (b<=wr.heap.size)) (fun v36 _=>nr - (intOf v36).toNat)
    case atStart=>exact ⟨0,rfl,by omega,HBD,HM,HB,HLB⟩
    case round =>
     obtain ⟨j,rfl,hj,HBD,HM,HB,HLB⟩:=hrel;obtain ⟨wb1,hwr⟩:∃ z,z=wr:=⟨_,rfl⟩;subst hwr;clear m0 m1 m2 m3 m4 m5 m6 m7 m8 m9 mA ml;obtain ⟨m0,m1,m2,m3,m4,m5,m6,m7,m8,m9,mA⟩:=HM.o.elev;have ml:=HM.o.lt;have hw2:IntKind.i64.wrap ((j:Int) + 1)=(j:Int) + 1:=wI;by_cases hlt2:(j:Int) < nr
     ·
      obtain ⟨r,hr⟩:∃ r,ru[j]?=some r:=⟨_,aG (by have:=HLR.o;omega)⟩;obtain ⟨g,off,yo,yc,hro,hg,_,d0,d1,d2,d3,d4,d5,d6,d7,hky⟩:=(HRU.o.but (But.of_below (S:=fun _=>False) HB.o) (fun _ h=>h.elim)) j r hr;have hmem:=aM hr;have hrn:r.1.size<=100000:=(HOK.o.ru r hmem).1;have hpn:(ofL (prX 53 r.2)).size<=500000:=(by have e:(ofL (prX 53 r.2)).size=(prX 53 r.2).length:=(by simp [ofL,ByteArray.size]);rw [e];exact (HOK.o.ru r hmem).2.2);have N2:=aH (show ¬ 9223372036854775807 < r.1.size + 3 from by omega);have N6:=aH (show ¬ 9223372036854775807 < r.1.size + 3 + (ofL (prX 53 r.2)).size from by omega);have N7:=aH (show ¬ 9223372036854775807 < r.1.size + 3 + (ofL (prX 53 r.2)).size + 2 from by omega);have M6:=aH (show ¬ 9223372036854775807 < (r.1 ++ ⟨#[32,61,32]⟩:ByteArray).size + (ofL (prX 53 r.2)).size from by rw [ByteArray.size_append];exact N6.o);have M7:=aH (show ¬ 9223372036854775807 < (r.1 ++ ⟨#[32,61,32]⟩ ++ ofL (prX 53 r.2):ByteArray).size + 2 from by rw [ByteArray.size_append,ByteArray.size_append];exact N7.o);have HPZ:=aH (show (r.1 ++ ⟨#[32,61,32]⟩ ++ ofL (prX 53 r.2) ++ ⟨#[59,10]⟩:ByteArray).size<=600005 from app_le (app_le (app_le hrn (show (⟨#[32,61,32]⟩:ByteArray).size<=3 from Nat.le_refl _)) hpn) (show (⟨#[59,10]⟩:ByteArray).size<=2 from Nat.le_refl _));clear hrn hpn;have HPR:=aH (fun W (hb:Below wb1.heap.size wb1 W)=>show Calls Tryz.prog 44 #[.agg #[.int .i64 r.2.op,.string r.2.text,.int .u64 r.2.s0,.int .u64 r.2.s1,.int .u64 r.2.s2,.int .u64 r.2.s3,.slice yo r.2.kids.length yc]] W fun e w'=>e=.returned (.string (ofL (prX 53 r.2)))/\Below W.heap.size W w' from xG 53 r.2 yo yc W (HOK.o.ru r hmem).2.1 (aV.below hb (aV.fit (HRK.o r hmem) hky.hask)));have HFT:=aH (flat_take rulW hr)
      have HLN:=aH (show (hedW nm ++ im.flatMap impW ++ watW true wa ++ (ru.take j).flatMap rulW).length<=1000000 from by
       have h1:=HAL.o;have h2:=flat_le rulW ru j;simp only [List.length_append] at h1 h2 ⊢
       omega)
      obtain ⟨yn,hyn⟩:∃ q,r.2.kids.length=q:=⟨_,rfl⟩;rw [hyn] at d7 HPR;subst hro;have hbl:Below wb1.heap.size wb1 (wb1.alloc (.cells #[.string r.1,.int .i64 r.2.op,.string r.2.text,.int .u64 r.2.s0,.int .u64 r.2.s1,.int .u64 r.2.s2,.int .u64 r.2.s3,.slice yo yn yc] 51)):=bA _;have HX:=aH (Own.fresh wb1 51 [.string r.1,.int .i64 r.2.op,.string r.2.text,.int .u64 r.2.s0,.int .u64 r.2.s1,.int .u64 r.2.s2,.int .u64 r.2.s3,.slice yo yn yc]);have HBL:=aH hbl;have HMq:=aH (HM.o.under hbl HM.o.lt);have HBDq:=aH (HBD.o.below hbl);clear hr hky hmem hyn hbl;go_upto_region 13 with fail;clear m0 m1 m2 m3 m4 m5 m6 m7 m8 m9 mA ml;clear d0 d1 d2 d3 d4 d5 d6 d7 hg;generalize wb1.alloc _=wc1 at *;obtain ⟨X,hX⟩:∃ X,wb1.heap.size=X:=⟨_,rfl⟩;have HXX:=aH hX;rw [hX] at HX;try rw [hX]
      clear hX;have x0:wc1.cell? ⟨X,0,none⟩=some (.string r.1):=HX.o.cell 0;have x1:wc1.cell? ⟨X,1,none⟩=some (.int .i64 r.2.op):=HX.o.cell 1;have x2:wc1.cell? ⟨X,2,none⟩=some (.string r.2.text):=HX.o.cell 2;have x3:wc1.cell? ⟨X,3,none⟩=some (.int .u64 r.2.s0):=HX.o.cell 3;have x4:wc1.cell? ⟨X,4,none⟩=some (.int .u64 r.2.s1):=HX.o.cell 4;have x5:wc1.cell? ⟨X,5,none⟩=some (.int .u64 r.2.s2):=HX.o.cell 5;have x6:wc1.cell? ⟨X,6,none⟩=some (.int .u64 r.2.s3):=HX.o.cell 6;have x7:wc1.cell? ⟨X,7,none⟩=some (.slice yo yn yc):=HX.o.cell 7;have xl:=HX.o.lt;have HC:=aH (And.intro xl (And.intro x0 (And.intro x1 (And.intro x2 (And.intro x3 (And.intro x4 (And.intro x5 (And.intro x6 x7))))))));clear xl x0 x1 x2 x3 x4 x5 x6 x7;refine bX (fun Wx=>Below wc1.heap.size wc1 Wx) 8 (by kernel_rfl) ?_;have HS:=aH (show Below wc1.heap.size wc1 (World.drew wc1) from (Below.refl _ _).drew);refine tC 0 rfl HS.o ?_;go_simp;refine aI.takeD 1 [2,6,7,8] rfl (v:=?_) (Or.inl ⟨by rfl,?_⟩) HS.o ?_;rotate_left;· intro W hW;obtain ⟨xl,x0,x1,x2,x3,x4,x5,x6,x7⟩:=HC.o;have xl:=aL xl hW.size;have x0:=aC x0 hW;have x1:=aC x1 hW;have x2:=aC x2 hW;have x3:=aC x3 hW;have x4:=aC x4 hW;have x5:=aC x5 hW;have x6:=aC x6 hW;have x7:=aC x7 hW;go_simp;try with_reducible rfl
      go_simp;refine aI.pure 2 rfl (v:=?_) (Or.inl ⟨by rfl,?_⟩) HS.o ?_;rotate_left;· intro W _;go_simp;exact if_neg N2.o
      go_simp;refine tC 3 rfl HS.o ?_;go_simp;refine aI.takeD 4 [5,6,7,8] rfl (v:=?_) (Or.inl ⟨by rfl,?_⟩) HS.o ?_;rotate_left;· intro W hW;obtain ⟨xl,x0,x1,x2,x3,x4,x5,x6,x7⟩:=HC.o;have xl:=aL xl hW.size;have x0:=aC x0 hW;have x1:=aC x1 hW;have x2:=aC x2 hW;have x3:=aC x3 hW;have x4:=aC x4 hW;have x5:=aC x5 hW;have x6:=aC x6 hW;have x7:=aC x7 hW;go_simp;try with_reducible rfl
      go_simp;refine aI.one (i:=5) (by kernel_rfl) (bB (f:=44) (vs:=#[.agg #[.int .i64 r.2.op,.string r.2.text,.int .u64 r.2.s0,.int .u64 r.2.s1,.int .u64 r.2.s2,.int .u64 r.2.s3,.slice yo yn yc]]) rfl (by kernel_rfl) (by go_simp) ((HPR.o _ (HBL.o.trans (HS.o.mono HBL.o.size))).mono ?_));rintro e v2 ⟨he,hb⟩;refine ⟨_,he,.inr (.inr (HS.o.trans (hb.mono HS.o.size))),?_⟩;have HS:=aH (HS.o.trans (hb.mono HS.o.size));clear hb he;go_simp;refine aI.pure 6 rfl (v:=?_) (Or.inl ⟨by rfl,?_⟩) HS.o ?_;rotate_left;· intro W _;go_simp;first | exact if_neg N6.o | exact if_neg M6.o
      go_simp;refine aI.pure 7 rfl (v:=?_) (Or.inl ⟨by rfl,?_⟩) HS.o ?_;rotate_left;· intro W _;go_simp;first | exact if_neg N7.o | exact if_neg M7.o
      go_simp;obtain ⟨pc,hpc⟩:∃ z,(r.1 ++ ⟨#[32,61,32]⟩ ++ ofL (prX 53 r.2) ++ ⟨#[59,10]⟩:ByteArray)=z:=⟨_,rfl⟩;have HPE:=aH hpc;rw [hpc];rw [hpc] at HPZ;clear hpc;have HBD2:=aH (HBDq.o.below HS.o);have HLB2:=aH (show b<=v2.heap.size from Nat.le_trans HLB.o (Nat.le_trans HBL.o.size HS.o.size));have HWS:=aH (qJ b b (hedW nm ++ im.flatMap impW ++ watW true wa ++ (ru.take j).flatMap rulW) pc v2 HBD2.o HLN.o (by exact Nat.le_trans HPZ.o (by decide)) HLB2.o);refine aI.one (i:=8) (by kernel_rfl) (bB (f:=43) (vs:=#[.pointer (some ⟨b,0,none⟩),.string pc]) rfl (by kernel_rfl) (by go_simp) (HWS.o.mono ?_));rintro e v3 ⟨he,hbd,hbb⟩;refine ⟨_,he,.inl rfl,?_⟩;have HBD:=aH (Bld.same hbd (show _=hedW nm ++ im.flatMap impW ++ watW true wa ++ (ru.take (j + 1)).flatMap rulW from by rw [HFT.o,<- HPE.o];simp [rulW,ofL]));have HM:=aH ((HMq.o.under HS.o HMq.o.lt).under hbb (show A < b from by have:=HAB.o;omega));have HBQ:=aH (HB.o.trans ((HBL.o.trans (HS.o.mono HBL.o.size)).mono HB.o.size));have HB:=aH (HBQ.o.trans (hbb.mono (by have h1:=HAW.o;have h2:=HAB.o;omega)));have HLB:=aH (Nat.le_trans HLB2.o hbb.size);clear hbd hbb he;go_simp;refine aI.done (by kernel_rfl) ?_ _;go_simp;go_wp2
      go_roundw
      case rel=>exact ⟨j + 1,by go_num,by omega,HBD,HM,HB,HLB⟩
      case measure=>simp [intOf];omega
     · have hltf2:decide ((j:Int) < nr)=false:=aF hlt2;have HBD:=aH (Bld.same HBD.o (show hedW nm ++ im.flatMap impW ++ watW true wa ++ (ru.take j).flatMap rulW=RES from by rw [HRES.o,List.take_of_length_le (by have:=HLR.o;omega)]));go_wp2_with fail;refine (Zt b b RES wb1 HBD.o HLB.o).mono ?_;rintro e w9 ⟨rfl,hbb⟩;have HB:=aH (HB.o.trans (hbb.mono (by have h1:=HAW.o;have h2:=HAB.o;omega)));clear hbb;go_wp2;go_ret;exact ⟨rfl,HB.o⟩
end Go.Proofs.YthkdnehgamefiaaGreat
